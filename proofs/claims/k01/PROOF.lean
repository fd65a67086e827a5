import PyProof.Rows.All
import Wide.All
import OpenK.AllK
import Wide.FinOn
import HandS.ForMost
import HandS.Exc
import HandS.ExcInit
import HandS.ExcIs
import HandS.ExcField
import HandS.ExcOwn
import HandS.Defaults
import HandS.HeadHook2
import HandS.ExcValue
import HandS.Wide
import HandS.WideBits
import HandS.Style
import HandS.IsInst
import PySem.Challenge.RW_openloops_k01_forms_at_points
import HandS.Zip
import KE.DataAny
import HandS.StrMore
import KE.GoesZip
import KE.GoesMore
import KE.GoesEnum
import HandS.Comp
import HandS.OwnEq
import HandS.Ends
import HandS.HeadEnd
import HandS.TryMany
import HandS.Deep
import PyProof.ReprRoads
import HandS.Codes
import HandS.WordsExc
import PyProof.P3Eq
import HandS.TupAny
import HandS.Head0
import HandS.Head1
import HandS.Head2
import HandS.HeadHook1
set_option Elab.async false
set_option linter.all false
set_option maxRecDepth 100000
set_option maxHeartbeats 2000000
/-! Own error classes whose instances are held as values: C(..) with any keywords, e.f, isinstance(e, C). -/
namespace XV
open PySem PySem.Spec PyProof.Rows L2 PySem.HandSPX

section
variable {prog : Program} {w : World} {A : Around} {E : Value → Shared → Prop} {R : Result → Shared → Prop}
variable {h : Heap} {g : Array GenState} {d : Drawn} {t : Nat} {os : OsState}
variable {nm q : Str} {C N : Addr} {bs bm bmB : List Value} {hdct : Bool} {sn : List Str} {sub : List Value} {ab : Bool} {col : Option Bool} {dd : Option Addr}
variable {k0 k1 k2 k3 k5 : Option Value} {B newId initId : String}

/-- the check ahead of __new__, whatever keywords there are -/
theorem chkNew {M : Model} (F : ExcBaseFacts B newId initId bmB) (hT : ∀ X : String, bm.contains (.type X) = bmB.contains (.type X))
    {rest : List Value} {kw : List (Str × Value)} {Q : Unit → Shared → Prop}
    (hC : h.get? C = some (excClassObj nm q C N bs bm hdct sn sub ab col dd k0 k1 k2 k3 k5 newId)) (hq : Q () ⟨h, g, d, t, os⟩) :
    wpAny M A (checkBuiltinCall newId ⟨.ref C :: rest, kw⟩) Q E ⟨h, g, d, t, os⟩ := by
  have cB : (Value.ref C :: bm).contains (.type B) = true := by
    rw [List.contains_cons, hT, F.hasB]
    exact Bool.or_true _
  have star := F.noStar
  simp only [checkBuiltinCall, F.newKind, F.newSplit, F.newRow]
  repeat (first
    | refine wpAny_loadPart_at hC ?_
    | (refine wpAny_isSubtype_exc hC ?_; rw [cB])
    | refine wpAny_staticBase_exc hC ?_
    | refine wpAny_madeBy_exc hC ?_
    | simp only [bne_self_eq_false, Bool.false_eq_true, if_false]
    | wp_step)
  exact hq

theorem runNew (F : ExcBaseFacts B newId initId bmB) (hT : ∀ X : String, bm.contains (.type X) = bmB.contains (.type X))
    {rest : List Value} {kw : List (Str × Value)}
    (hC : h.get? C = some (excClassObj nm q C N bs bm hdct sn sub ab col dd k0 k1 k2 k3 k5 newId))
    (hq : R (.ok (.ret (.ref (h.objs.size + 1)))) ⟨(h.push (PySem.W.kdv_tup rest)).push (excO C h.objs.size), g, d, t, os⟩) (hz : rest.length ≤ sizeLine) :
    codeAny (model prog w) A (.builtin newId ⟨.ref C :: rest, kw⟩) R ⟨h, g, d, t, os⟩ := by
  have ends := F.ends
  have cB : (Value.ref C :: bm).contains (.type B) = true := by
    rw [List.contains_cons, hT, F.hasB]
    exact Bool.or_true _
  have cA : (Value.ref C :: bm).contains (.type "AttributeError") = false := by
    rw [List.contains_cons, hT, F.noAttr] <;> rfl
  have cN : (Value.ref C :: bm).contains (.type "NameError") = false := by
    rw [List.contains_cons, hT, F.noName] <;> rfl
  refine codeAny_builtinAt F.entry ?_
  unfold Builtin.«BaseException.__new__»
  refine PySem.wpAt_bind ?_
  show PySem.wpAt _ _ _ (stack >>= _) _ _ _
  refine PySem.wpAt_bind (PySem.wpAt_stack fun p below => PySem.wpAt_of_wpAny ?_)
  wp_walk
  refine PySem.wpAt_of_wpAny ?_
  rw [F.owner]
  repeat (first
    | with_reducible refine wpAny_madeHere_exc F.canon hC ?_
    | with_reducible refine wpAny_loadPart_at hC ?_
    | (with_reducible refine wpAny_isSubtype_exc hC ?_; first | rw [cB] | rw [cA] | rw [cN])
    | wp_step)
  show R _ _
  rw [Heap.size_push]
  exact hq

theorem typeCall (F : ExcBaseFacts B newId initId bmB) (hT : ∀ X : String, bm.contains (.type X) = bmB.contains (.type X))
    {rest : List Value} {kw : List (Str × Value)} {fI : Addr} {Q : Fin → Shared → Prop}
    (hC : h.get? C = some (excClassObj nm q C N bs bm hdct sn sub ab col dd k0 k1 k2 k3 k5 newId))
    (hi : W.Looks (model prog w) h (typeLookup (.ref C) "__init__") (some (.ref fI)))
    (hb : ∀ self, W.Looks (model prog w) h (bindSpecial (.ref fI) self) (.ref fI, [self])) (hz : rest.length ≤ sizeLine)
    (hq : codeAny (model prog w) A (.call (.ref fI) ⟨.ref (h.objs.size + 1) :: rest, kw⟩)
      (fun r s' => match r with
        | .ok (.ret v) => v = .none ∧ Q (.done (.ret (.ref (h.objs.size + 1)))) s'
        | .ok _ => False
        | .error e => E e s')
      ⟨(h.push (W.kdv_tup rest)).push (excO C h.objs.size), g, d, t, os⟩) :
    wpAny (model prog w) A (Builtin.«type.__call__» ⟨.ref C :: rest, kw⟩) Q E ⟨h, g, d, t, os⟩ := by
  repeat (first
    | with_reducible refine wpAny_loadPart_at hC ?_
    | with_reducible refine wpAny_madeBy_exc hC ?_
    | wp_step)
  refine codeAny_call_builtin_code (Code.quiet_builtin _ F.quiet) (chkNew F hT hC ?_)
  refine runNew F hT hC ?_ hz
  show wpAny _ _ _ _ _ _
  have k : ∀ b o, h.get? b = some o → ((h.push (W.kdv_tup rest)).push (excO C h.objs.size)).get? b = some o :=
    fun b o e => Heap.get?_push_of_some _ (Heap.get?_push_of_some _ e)
  have hC1 := k _ _ hC
  have got : ((h.push (W.kdv_tup rest)).push (excO C h.objs.size)).get? (h.objs.size + 1) = some (excO C h.objs.size) := by heap_get
  have cC : (Value.ref C :: bm).contains (.ref C) = true := by simp
  have i1 := hi.keeps k
  have b1 := (hb (.ref (h.objs.size + 1))).keeps k
  unfold isInstance
  repeat (first
    | with_reducible refine wpAny_loadPart_at got ?_
    | (with_reducible refine wpAny_isSubtype_exc hC1 ?_; rw [cC])
    | wp_step)
  show wpAny _ _ (typeLookup (.ref C) _) _ _ _
  refine i1.at ?_
  refine wpAny_holding (wpAny_bind (b1.at ?_))
  refine wpAny_bind (wpAny_call (codeAny_mono hq fun r s' z => ?_))
  rcases r with e | (v | _ | _ | _) <;> first | exact z | exact z.elim | skip
  obtain ⟨rfl, z⟩ := z
  first
    | exact wpAny_pure (wpAny_pure z)
    | (wp_walk; exact z)

theorem chkCall {M : Model} {rest : List Value} {kw : List (Str × Value)} {Q : Unit → Shared → Prop}
    (hC : h.get? C = some (excClassObj nm q C N bs bm hdct sn sub ab col dd k0 k1 k2 k3 k5 newId)) (hq : Q () ⟨h, g, d, t, os⟩) :
    wpAny M A (checkBuiltinCall "type.__call__" ⟨.ref C :: rest, kw⟩) Q E ⟨h, g, d, t, os⟩ := by
  have f3 := tc_sub
  have ty : (⟨h, g, d, t, os⟩ : Shared).TypeIs (.ref C) "type" := ⟨_, hC, rfl⟩
  have args : argsOk "type.__call__" ⟨.ref C :: rest, kw⟩ := PySem.W.tc_args _ _ _
  unfold argsOk at args
  simp only [checkBuiltinCall, tc_kind, tc_split]
  repeat (any_goals (first
    | assumption
    | with_reducible refine wpAny_loadPart_at hC ?_
    | with_reducible refine wpAny_onRaise ?_
    | with_reducible refine wpAny_map ?_
    | rw [args]
    | wp_step))

/-- C(.., k = v, ..): an exception is made, then its class's own __init__ is called upon it -/
theorem callOwn (F : ExcBaseFacts B newId initId bmB) (hT : ∀ X : String, bm.contains (.type X) = bmB.contains (.type X))
    {rest : List Value} {kw : List (Str × Value)} {fI : Addr}
    (hC : h.get? C = some (excClassObj nm q C N bs bm hdct sn sub ab col dd k0 k1 k2 k3 k5 newId))
    (hi : W.Looks (model prog w) h (typeLookup (.ref C) "__init__") (some (.ref fI)))
    (hb : ∀ self, W.Looks (model prog w) h (bindSpecial (.ref fI) self) (.ref fI, [self])) (hz : rest.length ≤ sizeLine)
    (hq : codeAny (model prog w) (A.under (.builtin "type.__call__" ⟨.ref C :: rest, kw⟩)) (.call (.ref fI) ⟨.ref (h.objs.size + 1) :: rest, kw⟩)
      (W.InitBack (h.objs.size + 1) R) ⟨(h.push (W.kdv_tup rest)).push (excO C h.objs.size), g, d, t, os⟩) :
    codeAny (model prog w) A (.call (.ref C) ⟨rest, kw⟩) R ⟨h, g, d, t, os⟩ := by
  have f1 := tc_lookup
  have f2 := tc_bind (.ref C)
  have ty : (⟨h, g, d, t, os⟩ : Shared).TypeIs (.ref C) "type" := ⟨_, hC, rfl⟩
  refine codeAny_of_tree ?_
  show wpAny _ _ (callAny (.ref C) _) _ _ _
  repeat (any_goals (first
    | assumption
    | with_reducible refine wpAny_loadPart_at hC ?_
    | wp_step))
  refine ⟨rfl, ?_⟩
  refine codeAny_call_builtin_at (Code.quiet_builtin _ (by decide +kernel)) entry_typeCall (chkCall hC (typeCall F hT hC hi hb hz ?_))
  refine codeAny_mono hq fun r s' z => ?_
  rcases r with e | (v | _ | _ | _) <;> exact z
end
end XV
set_option Elab.async false
set_option linter.all false
set_option maxRecDepth 100000
set_option maxHeartbeats 2000000
namespace XV
open PySem PySem.Spec PyProof.Rows L2

theorem upd_mid {H : Hp} {a d : Addr} {o p q : HO} : upd (upd (upd H a o) d p) a q = upd (upd H d p) a q := by
  funext b
  by_cases e : b = a
  · subst e
    rw [upd_same, upd_same]
  · rw [upd_ne e, upd_ne e]
    by_cases f : b = d
    · subst f
      rw [upd_same, upd_same]
    · rw [upd_ne f, upd_ne f, upd_ne e]

/-- what __init__ of an error with the one field fld does -/
def spI (C : Addr) (fld : Str) : Sp := fun vs H Q _ => ∃ (a : Addr) (v : V), vs = [.ref a, v] ∧ H a = some (exo a C none) ∧
  ∀ d, H d = none → d ≠ a → Q .non (upd (upd H d (exd d [(fld, v)])) a (exo a C (some d)))

/-- what is known of such a class and its __init__ -/
structure XCls (P : Program) (w : World) (K : PySem.W.Frag) (mg : Str → Option Value) (base : Heap) (nm fld : Str) (C fI : Addr) (fd : FuncData) : Prop where
  g : mg nm = some (.ref C)
  ox : OexC K C
  iC : PySem.W.findIn K (.ref C) "__init__" = some (some (.ref fI))
  tI : PySem.W.typeIn K (.ref fI) = some (.type "function")
  no : PySem.W.findIn K (.ref C) fld = some none
  ini : FnOk P w K mg base CX0 1 fI fd ["self", fld] (spI C fld)
  b1 : ∀ (s : Shared) (x u : Value), K.In s.heap → BindsTo s fd ⟨[x, u], []⟩ [("self", x), (fld, u)]
  b0 : ∀ (s : Shared) (x : Value), K.In s.heap → BindsTo s fd ⟨[x], []⟩ [("self", x), (fld, .none)]
  bk : ∀ (s : Shared) (x u : Value), K.In s.heap → BindsTo s fd ⟨[x], [(fld, u)]⟩ [("self", x), (fld, u)]

/-- C(v): a new exception at a, its dict at d -/
structure rMk (C : Addr) (fld : Str) (v : V) (H : Hp) (Q : VK) : Prop where
  go : ∀ a d, H a = none → H d = none → d ≠ a → Q (.ref a) (upd (upd H d (exd d [(fld, v)])) a (exo a C (some d)))

section
variable {X : Cx} {pins : List (Addr × Obj)} {σ : L2.St} {H : Hp} {s : Shared} {Q : VK} {nm fld : Str} {C fI : Addr} {fd : FuncData} {v : V} {u : Value}
theorem mk_run (T : XCls X.prog X.w X.K X.mg X.base nm fld C fI fd) (hr : Room 2 X.A) (I : Inv X pins σ H s) {us : List Value} {kw : List (Str × Value)} (hu : us.length ≤ 1)
    (hb : ∀ (s' : Shared) (x : Value), X.K.In s'.heap → BindsTo s' fd ⟨x :: us, kw⟩ [("self", x), (fld, u)]) (rv : RelV v u) (q : rMk C fld v H Q) :
    wpAny (model X.prog X.w) X.A (call (.ref C) us kw) (EP X pins σ Q) X.xe s := by
  obtain ⟨n0, q0, N, bs, bm, sn, sub, ab, col, dd, k0, k1, k2, k3, k5, hC, hbm⟩ := T.ox.cls
  obtain ⟨hp, g, dr, tk, os⟩ := s
  have le1 : hp.objs.size ≤ hp.objs.size + 1 := Nat.le_succ _
  have fr : H (hp.objs.size + 1) = none := I.hok.fresh le1
  have kk : ∀ b o, hp.get? b = some o → ((hp.push (PySem.W.kdv_tup us)).push (PySem.HandSPX.excO C hp.objs.size)).get? b = some o :=
    fun b o e => Heap.get?_push_of_some _ (Heap.get?_push_of_some _ e)
  have got : ((hp.push (PySem.W.kdv_tup us)).push (PySem.HandSPX.excO C hp.objs.size)).get? (hp.objs.size + 1) = some (PySem.HandSPX.excO C hp.objs.size) := by heap_get
  have I2 := I.laid (t' := tk) (a := hp.objs.size + 1) (o := exo (hp.objs.size + 1) C none) (h' := (hp.push (PySem.W.kdv_tup us)).push (PySem.HandSPX.excO C hp.objs.size)) kk le1 (exo_ok got)
  have hz : us.length ≤ sizeLine := by
    rw [sizeLine_eq]
    omega
  have sp : spI C fld [.ref (hp.objs.size + 1), v] (upd H (hp.objs.size + 1) (exo (hp.objs.size + 1) C none)) (fun z H2 => z = .non ∧ Q (.ref (hp.objs.size + 1)) H2) E0 := by
    refine ⟨_, v, rfl, upd_same, fun d nd ne => ⟨rfl, ?_⟩⟩
    rw [upd_mid]
    rw [upd_ne ne] at nd
    exact q.go _ d fr nd ne
  refine wpAny_call (callOwn PySem.F.excBase_ValueError (fun Y => PySem.HandSPX.refsVE_contains Y bm hbm) (I.kIn _ _ hC) (PySem.W.looks_findIn I.kIn T.iC)
    (fun self => PySem.W.bind_fn I.kIn self T.tI) hz
    (codeAny_mono (T.ini.run _ X.stack _ _ ⟨Value.ref (hp.objs.size + 1) :: us, kw⟩ [Value.ref (hp.objs.size + 1), u] [.ref (hp.objs.size + 1), v] _ E0
      (hr.make C us kw) (I2.env0.make C us kw) (hb _ _ I2.kIn) (.cons rfl (.cons rv .nil)) sp) fun r s' z => ?_))
  cases r with
  | error e => exact False.elim z
  | ok fl =>
    cases fl with
    | ret r0 =>
      obtain ⟨z0, H', J, rz, ez, qz⟩ := I2.after z
      subst ez
      exact ⟨rz, ⟨V.ref (hp.objs.size + 1), H', J, rfl, qz⟩⟩
    | next => exact False.elim z
    | brk => exact False.elim z
    | cont => exact False.elim z
end

/-- of a list with one value -/
def oneOf (q : V → Hp → Prop) : List V → Hp → Prop
  | [v], H => q v H
  | _, _ => False
theorem oneOf.elim {q : V → Hp → Prop} : ∀ {vs : List V} {H : Hp}, oneOf q vs H → ∃ v, vs = [v] ∧ q v H
  | [v], _, h => ⟨v, rfl, h⟩
  | [], _, h => h.elim
  | _ :: _ :: _, _, h => h.elim
section
variable {X : Cx} {nm fld : Str} {C fI : Addr} {fd : FuncData} {e : Expr} {te : TE} {p pos kpos : Pos}
/-- C(e) -/
theorem pe_mk1 (T : XCls X.prog X.w X.K X.mg X.base nm fld C fI fd) (hr : Room 2 X.A) (hg : Gl X nm) (he : PE X e te) (hdb : (nm == ("__debug__" : Str)) = false := by decide)
    (hs : starEach (e :: []) X.env = (false, eval e X.env) :: starEach [] X.env := by rfl) (hpl : (backTo pos (starEach [] X.env)).any (·.1) = false := by rfl) :
    PE X (.Call (.Name nm p) [e] [] pos) (fun σ H Q => te σ H fun v H1 => rMk C fld v H1 Q) := by
  refine ⟨fun pins s σ H Q I h => ?_⟩
  refine wpAny_Call_Name_kw (ld_glob I hg T.g ?_ hdb)
  have ha : PA X [e] (tCons te tNil) := pa_cons he pa_nil hs
  refine PySem.W.callWith_K (h₀ := X.base) I.ok.mod.kin T.ox.kC (thn (ha.run pos pins s σ H (oneOf fun v H1 => rMk C fld v H1 Q) I h) fun us s1 z => ?_) hs hpl
  obtain ⟨vs, H1, I1, r, q⟩ := z
  obtain ⟨v, ev, q⟩ := oneOf.elim q
  subst ev
  cases r with
  | cons rv rn =>
    cases rn
    exact ⟨I1.kIn, mk_run T hr I1 (by simp) (fun s' x X' => T.b1 s' x _ X') rv q⟩
/-- C() -/
theorem pe_mk0 (T : XCls X.prog X.w X.K X.mg X.base nm fld C fI fd) (hr : Room 2 X.A) (hg : Gl X nm) (hdb : (nm == ("__debug__" : Str)) = false := by decide) :
    PE X (.Call (.Name nm p) [] [] pos) (fun σ H Q => rMk C fld .non H Q) := by
  refine ⟨fun pins s σ H Q I h => ?_⟩
  refine wpAny_Call_Name_kw (ld_glob I hg T.g ?_ hdb)
  exact PySem.W.callWith_K0 I.kIn T.ox.kC (mk_run (us := []) T hr I (by simp) (fun s' x X' => T.b0 s' x X') (v := .non) rfl h)
/-- C(fld = e) -/
theorem pe_mkK (T : XCls X.prog X.w X.K X.mg X.base nm fld C fI fd) (hr : Room 2 X.A) (hg : Gl X nm) (he : PE X e te) (hdb : (nm == ("__debug__" : Str)) = false := by decide)
    (hall : (backToKw pos (keywordEach [⟨some fld, e, kpos⟩] X.env)).all (·.1.isSome) = true := by rfl) (hks : (backToKw pos (keywordEach [⟨some fld, e, kpos⟩] X.env)).filterMap (·.1) = [fld] := by rfl)
    (hpl : ((backTo pos (starEach [] X.env)).any (·.1) || (backToKw pos (keywordEach [⟨some fld, e, kpos⟩] X.env)).any (·.1.isNone)) = false := by rfl) :
    PE X (.Call (.Name nm p) [] [⟨some fld, e, kpos⟩] pos) (fun σ H Q => te σ H fun v H1 => rMk C fld v H1 Q) := by
  refine ⟨fun pins s σ H Q I h => ?_⟩
  refine wpAny_Call_Name_kw (ld_glob I hg T.g ?_ hdb)
  have hk : PK X [⟨some fld, e, kpos⟩] (tCons te tNil) := pk_cons he pk_nil
  refine PySem.W.callWith_KW0 (h₀ := X.base) I.ok.mod.kin T.ox.kC hall (thn (hk.run pos pins s σ H (oneOf fun v H1 => rMk C fld v H1 Q) I h) fun us s1 z => ?_) hpl
  obtain ⟨vs, H1, I1, r, q⟩ := z
  obtain ⟨v, ev, q⟩ := oneOf.elim q
  subst ev
  cases r with
  | cons rv rn =>
    cases rn
    refine ⟨I1.kIn, ?_⟩
    rw [hks]
    exact mk_run (us := []) T hr I1 (by simp) (fun s' x X' => T.bk s' x _ X') rv q
end
end XV
set_option Elab.async false
set_option linter.all false
set_option maxRecDepth 100000
set_option maxHeartbeats 4000000
namespace XV
open PySem PySem.Spec PyProof.Rows L2

/-! ### e.f -/
/-- x is an error of the class at C with the fields fs -/
def Err (H : Hp) (x : V) (C : Addr) (fs : List (Str × V)) : Prop := ∃ a d, x = .ref a ∧ H a = some (exo a C (some d)) ∧ H d = some (exd d fs)
/-- the facts that a read of the field n wants -/
structure XF (K : PySem.W.Frag) (C : Addr) (n : Str) : Prop where
  xf : XfC K C
  no : PySem.W.findIn K (.ref C) n = some none
section
variable {X : Cx}
theorem pe_xget {e : Expr} {te : TE} {pos : Pos} {n : Str} (he : PE X e te) (hb : attributeBase e n X.env (eval e X.env) = eval e X.env := by rfl) :
    PE X (.Attribute e n pos) (fun σ H Q => te σ H fun x H1 => ∃ C fs v, Err H1 x C fs ∧ XF X.K C n ∧ fs.lookup n = some v ∧ Q v H1) := by
  refine ⟨fun pins s σ H Q I h => ?_⟩
  refine attr_of hb (thn (he.run pins s σ H _ I h) fun u s1 hh => ?_)
  obtain ⟨x, H1, I1, rx, C, fs, v, ⟨a, d, ex, ea, ed⟩, T, l, q⟩ := hh
  subst ex
  obtain rfl : u = Value.ref a := rx
  obtain ⟨t1, ho⟩ := exo_at I1.hok ea
  obtain ⟨mA, hns, hrel⟩ := exd_at I1.hok ed
  obtain ⟨od, hod, hl⟩ := lookIn_ns hns
  obtain ⟨w1, hw, rw1⟩ := RelO.some_of (v := v) (o := mA n) (by rw [← l]; exact hrel n)
  have J : PySem.W.InstAt s1.heap a _ C (some od) := ⟨ho, rfl, rfl, hod⟩
  exact HandSPX.exc_get I1.kIn J T.xf.ga T.xf.gg T.xf.exC (PySem.W.findObj_own T.xf.hdC T.no rfl (by rw [hl, hw])) (handed_of rw1) ⟨v, H1, I1.tok _, rw1, q⟩
end
end XV

/-! ### isinstance of an error, with its dict or without -/
namespace XV
open PySem PySem.W PySem.Calls PyProof.Rows L2
theorem find_cls {K : Frag} {D : Addr} {od : Option Obj} (E : ExcC K D) : findObj K D od "__class__" = some (.bind (.builtin "getset_descriptor.__get__") (.builtin "object.__class__")) := by
  have hc : (clsIn K D).isSome = true := by
    obtain ⟨cd, hc, _⟩ := any_some E.hd
    rw [hc]
    rfl
  cases od with
  | none => exact findObj_dataN hc E.ha E.hn E.ht
  | some o => exact findObj_data hc E.ha E.hn E.ht
theorem getCls {prog : Program} {w : World} {A : Around} {E : Value → Shared → Prop} {s : Shared} {K : Frag} {x D : Addr} {ox : Obj} {od : Option Obj} {Q : Option Value → Shared → Prop}
    (C : ExcC K D) (X : K.In s.heap) (I : InstAt s.heap x ox D od) (q : Q (some (.ref D)) { s with toks := s.toks + 1 }) : wpAny (model prog w) A (getAttr? (.ref x) "__class__") Q E s := by
  have fnd := find_cls (od := od) C
  obtain ⟨hp, g, d, t, os⟩ := s
  have tyx := I.type (M := model prog w)
  have look1 := looks_findIn (M := model prog w) X C.hg
  have look2 := looks_findIn (M := model prog w) X C.hk
  have look3 := looks_find (M := model prog w) X I fnd
  have isB : Looks (model prog w) hp (isInstance (.ref x) (.type "BaseException")) true := tyx.andThen (looks_subIn X C.hs)
  have n0 : (false && onTheHeap (Value.builtin "BaseException.__getattribute__")) = false := rfl
  have n2 : (Value.builtin "BaseException.__getattribute__" == Value.builtin "object.__getattribute__") = false := by decide +kernel
  have n1 : (onTheHeap (Value.ref D) && Value.builtin "BaseException.__getattribute__" == Value.builtin "object.__getattribute__") = false := by
    rw [n2]
    rfl
  unfold getAttr? getAttrBy? getAttrBy
  refine wpAny_bind (wpAny_mkText (wpAny_bind (wpAny_attempt (wpAny_holding (wpAny_bind (tyx.at (wpAny_bind (look1.at ?_))))))))
  show wpAny _ _ (if (onTheHeap (Value.ref D) && Value.builtin "BaseException.__getattribute__" == Value.builtin "object.__getattribute__") = true then _ else _) _ _ _
  rw [n1, if_neg Bool.false_ne_true]
  unfold getAttrByItsOwn hookBefore
  refine wpAny_bind ?_
  rw [if_pos (show onTheHeap (Value.ref D) = true from rfl)]
  refine look2.at ?_
  refine wpAny_bind (wpAny_attempt (wpAny_holding ?_))
  unfold callGetattribute
  rw [n0, if_neg Bool.false_ne_true]
  unfold boundAndCalled
  rw [PySem.F.excAttr_ValueError.ga.bind (.ref x)]
  refine wpAny_bind (wpAny_pure ?_)
  show wpAny _ _ (call (.builtin "BaseException.__getattribute__") [.ref x, .str "__class__" t]) _ _ _
  refine wpAny_call (codeAny_call_builtin PySem.F.excAttr_ValueError.ga.plain PySem.F.entry_bexc_ga ?_)
  refine @check_slot (model prog w) _ _ ⟨hp, g, d, t + 1, os⟩ "BaseException.__getattribute__" "BaseException" "__getattribute__" (.ref x) [.str "__class__" t] [] _ (by decide +kernel) (by decide +kernel) isB (PySem.F.args_bexc_ga (.ref x) (.str "__class__" t)) ?_
  unfold Builtin.«object.__getattribute__»
  refine wpAny_bind (wpAny_of_eq (a := ((Value.ref x : Value), [Value.str "__class__" t])) (by first | rfl | (simp only [slotArgs]; rfl)) ?_)
  refine wpAny_bind (wpAny_pure (wpAny_bind (tyx.at (wpAny_bind (look3.at ?_)))))
  show wpAny _ _ (holding [Value.builtin "object.__class__"] (call (.builtin "getset_descriptor.__get__") [.builtin "object.__class__", .ref x, .ref D]) >>= ret) _ _ _
  refine wpAny_bind (wpAny_holding (wpAny_call (class_get (s := ⟨hp, g, d, t + 1, os⟩) (ox := ox) (od := od) X I C.hm ?_)))
  refine wpAny_pure ?_
  show wpAny _ _ (handedOut (.ref D)) _ _ _
  rw [handedOut_of (v := .ref D) rfl]
  first
    | exact wpAny_pure (wpAny_pure q)
    | exact wpAny_pure q
    | exact wpAny_pure (wpAny_bind (wpAny_pure (wpAny_pure q)))
theorem kitErr {K : Frag} {x D : Addr} {ox : Obj} {od : Option Obj} (C : ExcC K D) : KitX K (.ref x) (.ref D) (fun h => InstAt h x ox D od) where
  ty := fun _ _ _ I => I.type
  it := fun _ _ X _ => by
    obtain ⟨cdD, hcD, _⟩ := any_some C.hd
    unfold clsIn at hcD
    split at hcD
    · rename_i c' d' cd' sl' ho
      intro A' Q' E' s' k q
      unfold isType loadHead
      exact wpAny_bind (wpAny_loadPart (k _ _ (X _ _ ho)) (wpAny_pure q))
    · cases hcD
  ne := fun h tp dd its n sl X htp => by
    obtain ⟨cdD, hcD, _⟩ := any_some C.hd
    refine Bool.eq_false_iff.mpr fun q => ?_
    have e : D = tp := Value.ref.inj (beq_iff_eq.mp q)
    subst e
    unfold clsIn at hcD
    split at hcD
    · rename_i c' d' cd' sl' ho
      have z := (X _ _ ho).symm.trans htp
      cases z
    · cases hcD
  ca := fun X I k => getCls C X I k
end XV

namespace XV
open PySem PySem.Spec PyProof.Rows L2
/-- x is an error of the class at C, whatever else is known of it -/
def IsE (H : Hp) (x : V) (C : Addr) : Prop := ∃ a, x = .ref a ∧ (H a = some (exo a C none) ∨ ∃ d fs, H a = some (exo a C (some d)) ∧ H d = some (exd d fs))
theorem Err.isE {H : Hp} {x : V} {C : Addr} {fs : List (Str × V)} (h : Err H x C fs) : IsE H x C := by
  obtain ⟨a, d, e, e1, e2⟩ := h
  exact ⟨a, e, .inr ⟨d, fs, e1, e2⟩⟩
def rIsX (K : PySem.W.Frag) : List V → Hp → VK → Prop := fun xs H Q => ∃ (x c : V) (D : Addr) (cv : Value) (b : Bool), xs = [x, c] ∧ IsE H x D ∧ ExcC K D ∧ (∀ u, RelV c u → u = cv) ∧ PySem.W.kitOne K (.ref D) cv = some b ∧ Q (.bl b) H
theorem call_isX {X : Cx} : CallR X (.builtin "isinstance") (rIsX X.K) := by
  intro pins s σ H xs us Q I r h
  obtain ⟨x, c, D, cv, b, rfl, ⟨a, ex, hx⟩, C, hcv, e, q⟩ := h
  subst ex
  cases r with
  | cons rx rr =>
    cases rr with
    | cons rt rr =>
      cases rr
      cases rx
      have ec := hcv _ rt
      subst ec
      rcases hx with hx | ⟨d, fs, hx, hd⟩
      · obtain ⟨t1, ho⟩ := exo_at I.hok hx
        have J : PySem.W.InstAt s.heap a _ D none := ⟨ho, rfl, rfl, trivial⟩
        exact PySem.W.kia_one (kitErr C) I.kIn J e (fun z => nomatch z) fun tk => ⟨.bl b, H, I.kept (t' := tk) fun _ _ z => z, rfl, q⟩
      · obtain ⟨t1, ho⟩ := exo_at I.hok hx
        obtain ⟨mA, hns, _⟩ := exd_at I.hok hd
        obtain ⟨od, hod, _⟩ := lookIn_ns hns
        have J : PySem.W.InstAt s.heap a _ D (some od) := ⟨ho, rfl, rfl, hod⟩
        exact PySem.W.kia_one (kitErr C) I.kIn J e (fun z => nomatch z) fun tk => ⟨.bl b, H, I.kept (t' := tk) fun _ _ z => z, rfl, q⟩
end XV
set_option Elab.async false
set_option linter.all false
set_option maxRecDepth 100000
set_option maxHeartbeats 4000000
namespace XV
open PySem PySem.Spec PyProof.Rows L2

/-! ### an error class without an __init__ of its own: C() -/
theorem pe_mkE {X : Cx} {nm : Str} {C : Addr} {bmB : List Value} {B newId initId : String} {p pos : Pos} (F : ExcBaseFacts B newId initId bmB) (q : PySem.W.excIn X.K C bmB newId = true) (gC : X.mg nm = some (.ref C))
    (kC : PySem.W.keepIn X.K (.ref C) = true) (hg : Gl X nm) (hdb : (nm == ("__debug__" : Str)) = false := by decide) :
    PE X (.Call (.Name nm p) [] [] pos) (fun σ H Q => ∀ a, H a = none → Q (.ref a) (upd H a (exo a C none))) := by
  refine ⟨fun pins s σ H Q I h => ?_⟩
  refine wpAny_Call_Name_kw (ld_glob I hg gC ?_ hdb)
  refine PySem.W.callWith_K0 I.kIn kC ?_
  obtain ⟨bm, N, n0, qn, bs, hdct, sn, sub, ab, col, dd, k0, k1, k2, k3, k5, mN, hC, hN, hni, T⟩ := exc_obj I.kIn q
  obtain ⟨hp, g, d, t, os⟩ := s
  refine wpAny_call_exc_subT F T hC hN hni (fun h' e hm => ?_) (by show 0 ≤ sizeLine; exact Nat.zero_le _)
  obtain ⟨t1, he, _, _⟩ := hm.there
  have hn : H e = none := I.hok.gone hm.new
  exact ⟨.ref e, _, I.laidN (t' := t) (a := e) (o := exo e C none) hm.keeps hm.new hn (exo_ok he), rfl, h e hn⟩

/-! ### facts by Bools -/
def clsB (K : PySem.W.Frag) (C : Addr) : Bool := match K.lookup C with
  | some ⟨.type "type", _, .cls cd, sl⟩ => (match cd.mro, sl.toList with
    | .ref C' :: bm, [_, _, _, _, some (.builtin n), _] => (C' == C && n == "ValueError.__new__") && (cd.hasDict && (!cd.hasDel && PySem.HandSPX.refsVE bm))
    | _, _ => false)
  | _ => false
theorem clsB_ok {K : PySem.W.Frag} {C : Addr} (h : clsB K C = true) :
    ∃ nm q N bs bm sn sub ab col dd k0 k1 k2 k3 k5, K.lookup C = some (excClassObj nm q C N bs bm true sn sub ab col dd k0 k1 k2 k3 k5 "ValueError.__new__") ∧ PySem.HandSPX.refsVE bm = true := by
  unfold clsB at h
  split at h
  · rename_i dd cd sl ho
    split at h
    · rename_i C' bm k0 k1 k2 k3 n k5 hm hs
      obtain ⟨h1, h2⟩ := He.ba h
      obtain ⟨h3, h4⟩ := He.ba h1
      obtain ⟨h5, h6⟩ := He.ba h2
      obtain ⟨h7, h8⟩ := He.ba h6
      obtain ⟨n1, bs, mro, ns, qn, hd, sn, sub, ab, col, del⟩ := cd
      dsimp only at hm h5 h7
      have e1 : C' = C := eq_of_beq h3
      have e2 : n = "ValueError.__new__" := eq_of_beq h4
      have e3 : del = false := by
        cases del with
        | false => rfl
        | true => cases h7
      subst e1 e2 e3 hm h5
      have e4 : sl = #[k0, k1, k2, k3, some (.builtin "ValueError.__new__"), k5] := by
        obtain ⟨l⟩ := sl
        simp only at hs
        rw [hs]
      subst e4
      exact ⟨n1, qn, ns, bs, bm, sn, sub, ab, col, dd, k0, k1, k2, k3, k5, ho, h8⟩
    · cases h
  · cases h
def oexB (K : PySem.W.Frag) (C : Addr) : Bool := clsB K C && (He.eqO (PySem.W.findIn K (.ref C) "__setattr__") (some (some (.builtin "object.__setattr__"))) &&
  (decide (PySem.W.subIn K (.ref C) (.type "BaseException") = some true) && (decide (PySem.W.typeIn K (.ref C) = some (.type "type")) && PySem.W.keepIn K (.ref C))))
theorem oexB_ok {K : PySem.W.Frag} {C : Addr} (h : oexB K C = true) : OexC K C := by
  obtain ⟨h1, h⟩ := He.ba h
  obtain ⟨h2, h⟩ := He.ba h
  obtain ⟨h3, h⟩ := He.ba h
  obtain ⟨h4, h5⟩ := He.ba h
  exact ⟨clsB_ok h1, He.eqO_ok h2, of_decide_eq_true h3, of_decide_eq_true h4, h5⟩
def excB (K : PySem.W.Frag) (D : Addr) : Bool := xfB K D && (He.eqO (PySem.W.findIn K (.ref D) "__class__") (some (some (.builtin "object.__class__"))) &&
  (He.eqO (PySem.W.specialIn K (.builtin "object.__class__") "__get__") (some (some (.builtin "getset_descriptor.__get__"))) &&
  (decide (PySem.W.takesIn K (.builtin "object.__class__") = some true) && decide (PySem.W.mroIn K D (.type "object") = some true))))
theorem excB_ok {K : PySem.W.Frag} {D : Addr} (h : excB K D = true) : ExcC K D := by
  obtain ⟨h1, h⟩ := He.ba h
  obtain ⟨h2, h⟩ := He.ba h
  obtain ⟨h3, h⟩ := He.ba h
  obtain ⟨h4, h5⟩ := He.ba h
  have x := xfB_ok h1
  exact ⟨x.ga, x.gg, x.exC, x.hdC, He.eqO_ok h2, He.eqO_ok h3, of_decide_eq_true h4, of_decide_eq_true h5⟩
/-- an error class nm whose own __init__ sets the field fld -/
def xclsB (K : PySem.W.Frag) (nm fld : Str) : Bool := He.eqO (PySem.W.nsIn K mainGlobals nm) (some (some (.ref (He.ga K nm)))) && (oexB K (He.ga K nm) &&
  (He.eqO (PySem.W.findIn K (.ref (He.ga K nm)) "__init__") (some (some (.ref (He.fAd K (nm, some "__init__"))))) &&
  (decide (PySem.W.typeIn K (.ref (He.fAd K (nm, some "__init__"))) = some (.type "function")) && (He.eqO (PySem.W.findIn K (.ref (He.ga K nm)) fld) (some none) && excB K (He.ga K nm)))))
/-- one without -/
def ecls0B (K : PySem.W.Frag) (nm : Str) : Bool := He.eqO (PySem.W.nsIn K mainGlobals nm) (some (some (.ref (He.ga K nm)))) && (PySem.W.excIn K (He.ga K nm) He.veBase "ValueError.__new__" && (PySem.W.keepIn K (.ref (He.ga K nm)) && excB K (He.ga K nm)))

/-! ### __init__(self, fld=None): self.fld = fld -/
def initA (fld : Str) (p1 p2 p3 : Pos) : Arguments :=
  { posonlyargs := [], args := [{ arg := "self", annotation := none, pos := p1 }, { arg := fld, annotation := none, pos := p2 }], vararg := none, kwonlyargs := [], kw_defaults := [], kwarg := none, defaults := [.Constant .none 0 p3] }
def initB (fld : Str) (q1 q2 q3 q4 : Pos) : List Stmt := [.Assign [.Attribute (.Name "self" q1) fld q2] (.Name fld q3) q4]
def initS (fld : Str) : Scope := { kind := .function, names := [(PySem.Str.ofString "self", .local), (fld, .local)], isGenerator := false, isCoroutine := false, more := [] }

section
variable {P : Program} {w : World} {K : PySem.W.Frag} {mg : Str → Option Value} {base h : Heap} {nm qual fld : Str} {p1 p2 p3 q1 q2 q3 q4 : Pos} {C fI : Addr} {fd : FuncData}
theorem ok_initV (F : FunD K "__init__" qual (initA "value" p1 p2 p3) (initB "value" q1 q2 q3 q4) (initS "value") [.non] [] fI fd) (O : OexC K C) (no : PySem.W.findIn K (.ref C) "value" = some none) :
    FnOk P w K mg base CX0 1 fI fd ["self", "value"] (spI C "value") := by
  refine F.ok (N := ["self", "value"]) ⟨rfl, rfl, rfl, by decide +kernel, rfl, by decide +kernel, by decide +kernel⟩ (fun vs H Q E h => ?_) (fun cdv A outer s H vs Q E hr h => ?_)
  · obtain ⟨a, v, rfl, _⟩ := h
    rfl
  · obtain ⟨a, v, rfl, ha, q⟩ := h
    exact ⟨_, pss_one (ps_ost (pv 0) (pv 1)), ⟨_, rfl, _, rfl, a, C, rfl, O, no, .inl ⟨ha, fun d n ne => q d n ne⟩⟩⟩
theorem ok_initP (F : FunD K "__init__" qual (initA "place" p1 p2 p3) (initB "place" q1 q2 q3 q4) (initS "place") [.non] [] fI fd) (O : OexC K C) (no : PySem.W.findIn K (.ref C) "place" = some none) :
    FnOk P w K mg base CX0 1 fI fd ["self", "place"] (spI C "place") := by
  refine F.ok (N := ["self", "place"]) ⟨rfl, rfl, rfl, by decide +kernel, rfl, by decide +kernel, by decide +kernel⟩ (fun vs H Q E h => ?_) (fun cdv A outer s H vs Q E hr h => ?_)
  · obtain ⟨a, v, rfl, _⟩ := h
    rfl
  · obtain ⟨a, v, rfl, ha, q⟩ := h
    exact ⟨_, pss_one (ps_ost (pv 0) (pv 1)), ⟨_, rfl, _, rfl, a, C, rfl, O, no, .inl ⟨ha, fun d n ne => q d n ne⟩⟩⟩
theorem bind_ini {args : Args} {binds : List Value → List (Str × Value)} (F : FunD K "__init__" qual (initA fld p1 p2 p3) (initB fld q1 q2 q3 q4) (initS fld) [.non] [] fI fd)
    (hb : ∀ (T : Addr) (kV doc pm : Value) (an : Option Addr) (cdv ct : Value), ∃ k, bindArgs (PySem.W.fnOf "__init__" qual (initA fld p1 p2 p3) (initB fld q1 q2 q3 q4) (initS fld) (.ref T) kV doc pm an cdv ct) args = seqItems? (.ref T) >>= k ∧ k (some #[Value.none]) = pure (binds [.none]))
    (s : Shared) (X : K.In s.heap) : BindsTo s fd args (binds [.none]) := by
  obtain ⟨oc, od, dV, kV, doc, pm, an, cdv, ct, osl, rfl, lk, hcd, hD, hK⟩ := F.ex
  rcases hD with ⟨e, _⟩ | ⟨_, T, o, its, m, rfl, lT, oT, rT⟩
  · cases e
  · cases rT with
    | cons r0 r1 =>
      cases r1
      cases r0
      obtain ⟨k, e1, e2⟩ := hb T kV doc pm an cdv ct
      refine BindsTo.of_looks fun M => ?_
      rw [e1]
      exact looks_items X lT oT (.of_pure e2)
theorem xcls_V (X : K.In h) (G : h.Ns mainGlobals mg) (c : xclsB K nm "value" = true) (F : FunD K "__init__" qual (initA "value" p1 p2 p3) (initB "value" q1 q2 q3 q4) (initS "value") [.non] [] (He.fAd K (nm, some "__init__")) fd) :
    XCls P w K mg base nm "value" (He.ga K nm) (He.fAd K (nm, some "__init__")) fd := by
  obtain ⟨c1, c⟩ := He.ba c
  obtain ⟨c2, c⟩ := He.ba c
  obtain ⟨c3, c⟩ := He.ba c
  obtain ⟨c4, c⟩ := He.ba c
  obtain ⟨c5, c6⟩ := He.ba c
  have O := oexB_ok c2
  have no := He.eqO_ok c5
  exact ⟨PySem.W.mg_of X G (He.eqO_ok c1), O, He.eqO_ok c3, of_decide_eq_true c4, no, ok_initV F O no,
    fun s x u Y => bind_ini (binds := fun _ => [("self", x), ("value", u)]) F (fun _ _ _ _ _ _ _ => ⟨_, rfl, rfl⟩) s Y,
    fun s x Y => bind_ini (binds := fun _ => [("self", x), ("value", .none)]) F (fun _ _ _ _ _ _ _ => ⟨_, rfl, rfl⟩) s Y,
    fun s x u Y => bind_ini (binds := fun _ => [("self", x), ("value", u)]) F (fun _ _ _ _ _ _ _ => ⟨_, rfl, rfl⟩) s Y⟩
theorem xcls_P (X : K.In h) (G : h.Ns mainGlobals mg) (c : xclsB K nm "place" = true) (F : FunD K "__init__" qual (initA "place" p1 p2 p3) (initB "place" q1 q2 q3 q4) (initS "place") [.non] [] (He.fAd K (nm, some "__init__")) fd) :
    XCls P w K mg base nm "place" (He.ga K nm) (He.fAd K (nm, some "__init__")) fd := by
  obtain ⟨c1, c⟩ := He.ba c
  obtain ⟨c2, c⟩ := He.ba c
  obtain ⟨c3, c⟩ := He.ba c
  obtain ⟨c4, c⟩ := He.ba c
  obtain ⟨c5, c6⟩ := He.ba c
  have O := oexB_ok c2
  have no := He.eqO_ok c5
  exact ⟨PySem.W.mg_of X G (He.eqO_ok c1), O, He.eqO_ok c3, of_decide_eq_true c4, no, ok_initP F O no,
    fun s x u Y => bind_ini (binds := fun _ => [("self", x), ("place", u)]) F (fun _ _ _ _ _ _ _ => ⟨_, rfl, rfl⟩) s Y,
    fun s x Y => bind_ini (binds := fun _ => [("self", x), ("place", .none)]) F (fun _ _ _ _ _ _ _ => ⟨_, rfl, rfl⟩) s Y,
    fun s x u Y => bind_ini (binds := fun _ => [("self", x), ("place", u)]) F (fun _ _ _ _ _ _ _ => ⟨_, rfl, rfl⟩) s Y⟩
theorem xcls_E (c : xclsB K nm fld = true) : ExcC K (He.ga K nm) ∧ XF K (He.ga K nm) fld := by
  obtain ⟨c1, c⟩ := He.ba c
  obtain ⟨c2, c⟩ := He.ba c
  obtain ⟨c3, c⟩ := He.ba c
  obtain ⟨c4, c⟩ := He.ba c
  obtain ⟨c5, c6⟩ := He.ba c
  exact ⟨excB_ok c6, ⟨xfB_ok (He.ba c6).1, He.eqO_ok c5⟩⟩
end
/-! ### a Hook with one Bool more -/
def hookB (n : Nat) (fa : List He.Fa) (fn : List He.DefD) (bx : PySem.W.Frag → Bool) : PySem.W.Hook where
  α := He.AlD × Bool
  obs := fun s => (He.obsDG n fa fn s.heap.get?, bx (He.frG s.heap.get? (He.asD s.heap.get? n)))
  val := fun _ => (He.valD fn, true)
  says := fun _ h => ∃ K : PySem.W.Frag, K.In h ∧ He.SaysD fa fn K ∧ bx K = true
  of := fun _ _ e => ⟨_, He.frG_in, congrArg Prod.fst e, congrArg Prod.snd e⟩
  keeps := fun _ _ _ ⟨K, hK, c⟩ k => ⟨K, PySem.W.Frag.In.keeps hK k, c⟩
def obsB (n : Nat) (fa : List He.Fa) (fn : List He.DefD) (bx : PySem.W.Frag → Bool) (g : Addr → Option Obj) : He.AlD × Bool := (He.obsDG n fa fn g, bx (He.frG g (He.asD g n)))
theorem obsB_eq {n : Nat} {fa : List He.Fa} {fn : List He.DefD} {bx : PySem.W.Frag → Bool} {g : Addr → Option Obj} {s : Shared} (h : ∀ a, g a = s.heap.get? a) : obsB n fa fn bx g = (hookB n fa fn bx).obs s := by
  have e : g = s.heap.get? := funext h
  rw [e] <;> rfl
end XV
set_option Elab.async false
set_option linter.all false
set_option maxRecDepth 100000
set_option maxHeartbeats 4000000
/-! Words of our own for calls of the text's defs, and the drawing of numbers. -/
namespace XV
open PySem PySem.Spec PyProof.Rows L2

/-- the module's name x is a def that keeps sp -/
structure Ok (P : Program) (w : World) (K : PySem.W.Frag) (mg : Str → Option Value) (base : Heap) (x : Str) (k : Nat) (ps : List Str) (sp : Sp) : Prop where
  ex : ∃ f fd, FnOk P w K mg base CX0 k f fd ps sp ∧ mg x = some (.ref f) ∧ PySem.W.keepIn K (.ref f) = true ∧ Binds K fd ps []
section
variable {X : Cx} {k : Nat} {ps : List Str} {sp : Sp} {x : Str} {e : Expr} {es : List Expr} {t : TA} {p pos : Pos}
theorem pe_callO (o : Ok X.prog X.w X.K X.mg X.base x k ps sp) (hr : Room k X.A) (hg : Gl X x) (ha : PA X (e :: es) t) (hdb : (x == ("__debug__" : Str)) = false := by decide)
    (he : starEach (e :: es) X.env = (false, eval e X.env) :: starEach es X.env := by rfl) (hpl : (backTo pos (starEach es X.env)).any (·.1) = false := by rfl) :
    PE X (.Call (.Name x p) (e :: es) [] pos) (tCall sp [] E0 t) := by
  obtain ⟨f, fd, F, hm, hk, b⟩ := o.ex
  exact pe_call F hr hg hm hk b .nil pass0 ha hdb he hpl
theorem pe_callO0 (o : Ok X.prog X.w X.K X.mg X.base x k ps sp) (hr : Room k X.A) (hg : Gl X x) (hdb : (x == ("__debug__" : Str)) = false := by decide) :
    PE X (.Call (.Name x p) [] [] pos) (tCall sp [] E0 tNil) := by
  obtain ⟨f, fd, F, hm, hk, b⟩ := o.ex
  exact pe_call0 F hr hg hm hk b .nil pass0 hdb
end
theorem Ok.mk' {P : Program} {w : World} {K : PySem.W.Frag} {mg : Str → Option Value} {base : Heap} {x : Str} {k : Nat} {ps : List Str} {sp : Sp} {body : List Stmt} {params : Arguments} {scope : Scope} {f : Addr} {fd : FuncData}
    (F : FunD K x x params body scope [] [] f fd) (g : mg x = some (.ref f)) (b : ∀ (kV doc pm : Value) (an : Option Addr) (cdv ct : Value) (us : List Value), us.length = ps.length → bindArgs (PySem.W.fnOf x x params body scope .none kV doc pm an cdv ct) ⟨us, []⟩ = pure (ps.zip us))
    (ok : FnOk P w K mg base CX0 k f fd ps sp) : Ok P w K mg base x k ps sp := ⟨f, fd, ok, g, F.kp, F.bindsN b⟩

/-- i ** j, the answer of at most 2 ^ 27 bits -/
def CPowW (i j : Int) : Prop := 0 ≤ j ∧ (Builtin.Int.intBits i : Int) * j ≤ 2 ^ 27
theorem op_powW {X : Cx} : OpR X (binaryOp .Pow) (rI CPowW fun i j => .int (i ^ j.toNat)) := opI fun _ _ _ _ _ _ _ hc q => pow_int hc.1 hc.2 q

/-! ### the list of three numbers from which is drawn -/
/-- at g: a list [a, b, c], a below 10 ** 600, b below 2 ** 31, c at most n -/
def Dr (H : Hp) (g : Addr) (n : Nat) : Prop := ∃ a b c : Int, H g = some (.lst [.int a, .int b, .int c]) ∧ 0 ≤ a ∧ a < 10 ^ 600 ∧ 0 ≤ b ∧ b < 2147483647 ∧ 0 ≤ c ∧ c ≤ n
theorem Dr.mono {H : Hp} {g : Addr} {n m : Nat} (h : Dr H g n) (l : n ≤ m) : Dr H g m := by
  obtain ⟨a, b, c, e, h1, h2, h3, h4, h5, h6⟩ := h
  exact ⟨a, b, c, e, h1, h2, h3, h4, h5, by omega⟩
/-- all but g as it was -/
def But (H H' : Hp) (g : Addr) : Prop := ∀ b o, b ≠ g → H b = some o → H' b = some o
theorem But.refl (H : Hp) (g : Addr) : But H H g := fun _ _ _ e => e
theorem But.trans {H H1 H2 : Hp} {g : Addr} (a : But H H1 g) (b : But H1 H2 g) : But H H2 g := fun c o n e => b c o n (a c o n e)
theorem But.upd {H : Hp} {g : Addr} {o : HO} : But H (upd H g o) g := fun b u n e => by
  rw [upd_ne n]
  exact e
theorem Same.but {H H' : Hp} {g : Addr} (a : Same H H') : But H H' g := fun b o _ e => a b o e
theorem same_new {H : Hp} {p : Addr} {o : HO} (h : H p = none) : Same H (L2.upd H p o) := fun b x e => by
  rw [upd_ne (ne_of_none e h)]
  exact e
def spHash : Sp := fun vs H Q _ => ∃ s i : Int, vs = [.int s, .int i] ∧ 0 ≤ s ∧ s < 2147483647 ∧ 0 ≤ i ∧ i < 2 ^ 60 ∧ ∀ r : Int, 0 ≤ r → r < 2147483647 → Q (.int r) H
def spRand : Sp := fun vs H Q _ => ∃ (g : Addr) (n : Nat) (m : Int), vs = [.ref g, .int m] ∧ Dr H g n ∧ n ≤ 1000000 ∧ 0 < m ∧ m < 10 ^ 100 ∧
  ∀ (H' : Hp) (r : Int), 0 ≤ r → r < m → But H H' g → Dr H' g (n + 20) → Q (.int r) H'
end XV
set_option Elab.async false
set_option linter.all false
set_option maxRecDepth 100000
set_option maxHeartbeats 4000000
namespace K1
open PySem PySem.Spec PyProof.Rows L2 XV
def top (i : Nat) : Stmt := PySem.Challenge.pw_openloops_k01_forms_at_points.main.body.getD i (.Pass ⟨0, 0, 0, 0⟩)
abbrev sHash : Stmt := top 26
abbrev sGen : Stmt := top 27
abbrev sRand : Stmt := top 28
abbrev FnP (K : PySem.W.Frag) (x : Str) (st : Stmt) (f : Addr) (fd : FuncData) : Prop := FunD K x x (defArgs st) (defBody st) (defScope st) [] [] f fd
theorem scHash : FnScope ["_law_seed", "_law_index", "_law_mixed"] ["_law_seed", "_law_index"] (defScope sHash) := ⟨rfl, rfl, rfl, by decide +kernel, rfl, by decide +kernel, by decide +kernel⟩
theorem scGen : FnScope ["_law_script", "_law_index", "_law_seed"] ["_law_script", "_law_index"] (defScope sGen) := ⟨rfl, rfl, rfl, by decide +kernel, rfl, by decide +kernel, by decide +kernel⟩
theorem scRand : FnScope ["_law_generator_here", "_law_bound", "_law_drawn", "_law_turn"] ["_law_generator_here", "_law_bound"] (defScope sRand) := ⟨rfl, rfl, rfl, by decide +kernel, rfl, by decide +kernel, by decide +kernel⟩
theorem mod_in (x : Int) {m : Int} (h : 0 < m) : 0 ≤ x % m ∧ x % m < m := ⟨Int.emod_nonneg x (by omega), Int.emod_lt_of_pos x h⟩
section
variable {P : Program} {w : World} {K : PySem.W.Frag} {mg : Str → Option Value} {base : Heap} {f : Addr} {fd : FuncData}
theorem ok_hash (F : FnP K "_law_hash" sHash f fd) (z_int : mg "int" = none) : FnOk P w K mg base CX0 1 f fd ["_law_seed", "_law_index"] spHash := by
  have nd := scHash.nd
  refine F.ok scHash (fun vs H Q E h => ?_) (fun cdv A outer s H vs Q E hr h => ?_)
  · obtain ⟨s, i, rfl, _⟩ := h
    rfl
  · obtain ⟨s, i, rfl, s0, s1, i0, i1, q⟩ := h
    refine ⟨_, PSs.nox (pss_cons (ps_set (i := 2) nd rfl (Or.inl rfl) (pe_op op_mod (pe_callTy call_int1 (by rfl) z_int (by decide +kernel) (pa_cons (pe_op op_add (pe_op op_add (pe_op op_add (pe_op op_mul (pv 0) pe_int) (pe_op op_mul (pe_op op_mul pe_int (pv 1)) (pv 1))) (pe_op op_mul pe_int (pv 1))) pe_int) pa_nil)) pe_int))
 (pss_cons (ps_set (i := 2) nd rfl (Or.inl rfl) (pe_op op_mod (pe_callTy call_int1 (by rfl) z_int (by decide +kernel) (pa_cons (pe_op op_add (pe_op op_add (pe_op op_mul (pv 2) (pv 2)) (pe_op op_mul pe_int (pv 1))) pe_int) pa_nil)) pe_int))
 (pss_one (ps_ret (pe_op op_mod (pe_callTy call_int1 (by rfl) z_int (by decide +kernel) (pa_cons (pe_op op_mul (pv 2) pe_int) pa_nil)) pe_int))))), ?_⟩
    have c1 : CMul s 1299709 := .inl ⟨by omega, by omega⟩
    have c2 : CMul 104729 i := .inl ⟨by decide, by decide⟩
    have c3 : CMul (104729 * i) i := .inr ⟨by omega, by omega⟩
    have c4 : CMul 31 i := .inl ⟨by decide, by decide⟩
    refine ⟨_, rfl, _, _, rfl, rfl, c1, _, rfl, _, _, rfl, rfl, c2, _, rfl, _, _, rfl, rfl, c3, _, _, rfl, rfl, _, rfl, _, _, rfl, rfl, c4, _, _, rfl, rfl, _, _, rfl, rfl, .inl ⟨_, rfl, _, _, rfl, rfl, (by show (0 : Int) < 2147483629; decide), ?_⟩⟩
    obtain ⟨m0, m1⟩ := mod_in (s * 1299709 + 104729 * i * i + 31 * i + 7) (m := 2147483629) (by decide)
    have c5 : CMul ((s * 1299709 + 104729 * i * i + 31 * i + 7) % 2147483629) ((s * 1299709 + 104729 * i * i + 31 * i + 7) % 2147483629) := .inl ⟨by omega, by omega⟩
    refine ⟨_, rfl, _, rfl, _, _, rfl, rfl, c5, _, rfl, _, _, rfl, rfl, .inl ⟨by decide, by decide⟩, _, _, rfl, rfl, _, _, rfl, rfl, .inl ⟨_, rfl, _, _, rfl, rfl, (by show (0 : Int) < 2147483587; decide), ?_⟩⟩
    refine ⟨_, rfl, _, _, rfl, rfl, .inr ⟨by decide, by decide⟩, .inl ⟨_, rfl, _, _, rfl, rfl, (by show (0 : Int) < 2147483647; decide), ?_⟩⟩
    obtain ⟨n0, n1⟩ := mod_in ((((s * 1299709 + 104729 * i * i + 31 * i + 7) % 2147483629 * ((s * 1299709 + 104729 * i * i + 31 * i + 7) % 2147483629) + 48271 * i + 15485863) % 2147483587) * 69621) (m := 2147483647) (by decide)
    exact q _ n0 n1

theorem bits_small {m : Int} (h0 : 0 < m) (h1 : m < 10 ^ 100) : Builtin.Int.intBits m ≤ 340 := by
  refine intBits_le (k := 340) ?_
  have e : (10 : Int) ^ 100 < 2 ^ 340 := by decide
  have e2 : m < 2 ^ 340 := Int.lt_trans h1 e
  have e3 : ((m.natAbs : Nat) : Int) = m := Int.natAbs_of_nonneg (by omega)
  have e4 : ((m.natAbs : Nat) : Int) < ((2 ^ 340 : Nat) : Int) := by
    rw [e3]
    exact e2
  exact Int.ofNat_lt.mp e4
theorem ok_rand (F : FnP K "_law_random" sRand f fd) (oHash : Ok P w K mg base "_law_hash" 1 ["_law_seed", "_law_index"] spHash) (z_int : mg "int" = none) (z_range : mg "range" = none) :
    FnOk P w K mg base CX0 2 f fd ["_law_generator_here", "_law_bound"] spRand := by
  have nd := scRand.nd
  refine F.ok scRand (fun vs H Q E h => ?_) (fun cdv A outer s H vs Q E hr h => ?_)
  · obtain ⟨g, n, m, rfl, _⟩ := h
    rfl
  · obtain ⟨g, n, m, rfl, ⟨a, b, c, hg, a0, a1, b0, b1, c0, c1⟩, hn, m0, m1, q⟩ := h
    refine ⟨_, PSs.nox (pss_cons (ps_if (pt_cmpR op_gt (pe_ix ix_list (pv 0) pe_int (fun _ _ => rfl)) pe_int (nomark _))
        (pss_cons (ps_set (i := 2) nd rfl (Or.inl rfl) (pe_op op_mod (pe_callTy call_int1 (by rfl) z_int (by decide +kernel) (pa_cons (pe_ix ix_list (pv 0) pe_int (fun _ _ => rfl)) pa_nil)) (pv 1)))
          (pss_cons (ps_asg (pe_op op_fdivW (pe_ix ix_list (pv 0) pe_int (fun _ _ => rfl)) (pv 1)) (pg_sub (pv 0) pe_int set_list))
            (pss_one (ps_ret (pv 2))))) pss_nil)
      (pss_cons (ps_set (i := 2) nd rfl (Or.inl rfl) pe_int)
      (pss_cons (ps_for PassesOwn.never rfl (pi_range1 (by rfl) z_range (pa_cons (pe_op op_add pe_int (pe_op op_fdiv (pe_bits (pv 1)) pe_int)) pa_nil)) (pg_name (i := 3) nd rfl (Or.inl rfl))
        (pss_cons (ps_asg (pe_op op_add (pe_ix ix_list (pv 0) pe_int (fun _ _ => rfl)) pe_int) (pg_sub (pv 0) pe_int set_list))
          (pss_one (ps_set (i := 2) nd rfl (Or.inl rfl) (pe_op op_add (pe_op op_mul (pv 2) pe_int)
            (pe_callO oHash (hr.mono (by decide)) (by rfl) (pa_cons (pe_ix ix_list (pv 0) pe_int (fun _ _ => rfl)) (pa_cons (pe_ix ix_list (pv 0) pe_int (fun _ _ => rfl)) pa_nil))))))))
      (pss_one (ps_ret (pe_op op_mod (pe_callTy call_int1 (by rfl) z_int (by decide +kernel) (pa_cons (pv 2) pa_nil)) (pv 1))))))), ?_⟩
    refine ⟨.ref g, rfl, g, _, 0, _, rfl, rfl, SqL.of hg, rfl, _, _, rfl, rfl, _, rfl, ite2 (fun e => ?_) (fun e => ?_)⟩
    · have ap : 0 < a := of_decide_eq_true e
      refine ⟨.ref g, rfl, g, _, 0, _, rfl, rfl, SqL.of hg, rfl, .inl ⟨_, rfl, _, rfl, _, _, rfl, rfl, m0, ?_⟩⟩
      have e1 : (10 : Int) ^ 100 < 2 ^ 340 := by decide
      have mb : m.natAbs < 2 ^ 340 := by
        have e3 : ((m.natAbs : Nat) : Int) = m := Int.natAbs_of_nonneg (by omega)
        have e4 : ((m.natAbs : Nat) : Int) < ((2 ^ 340 : Nat) : Int) := by
          rw [e3]
          exact Int.lt_trans m1 e1
        exact Int.ofNat_lt.mp e4
      refine ⟨.ref g, rfl, g, _, 0, _, rfl, rfl, SqL.of hg, rfl, _, rfl, _, _, rfl, rfl, wide_div m0 mb (by decide) (by decide), .ref g, rfl, g, _, 0, 0, rfl, rfl, hg, rfl, _, rfl, ?_⟩
      obtain ⟨r0, r1⟩ := mod_in a m0
      refine q _ _ r0 r1 But.upd ⟨a / m, b, c, upd_same, Int.ediv_nonneg a0 (by omega), ?_, b0, b1, c0, by omega⟩
      exact Int.lt_of_le_of_lt (Int.ediv_le_self m a0) a1
    · have hb := bits_small m0 m1
      refine ⟨_, rfl, m, rfl, _, _, rfl, rfl, ⟨by decide, by decide⟩, _, _, rfl, rfl, _, rfl, by omega, by omega, ?_⟩
      refine for_range (lo := 0) (n := (1 + ((Builtin.Int.intBits m : Nat) : Int) / 30).toNat)
        (fun i σ H' => ∃ (d : Int) (y : Option V), σ = [some (.ref g), some (.int m), some (.int d), y] ∧ But H H' g ∧ H' g = some (.lst [.int a, .int b, .int (c + i)]))
        ⟨0, none, rfl, But.refl H g, by rw [hg]; simp⟩ ?_ ?_
      · rintro i σ H' hi ⟨d, y, rfl, bt, eg⟩
        refine ⟨.ref g, rfl, g, _, 2, _, rfl, rfl, SqL.of eg, rfl, _, _, rfl, rfl, .ref g, rfl, g, _, 2, 2, rfl, rfl, eg, rfl, ?_⟩
        have e2 : (upd H' g (.lst ([V.int a, .int b, .int (c + i)].set 2 (.int (c + i + 1))))) g = some (.lst [.int a, .int b, .int (c + i + 1)]) := upd_same
        refine ⟨_, rfl, _, _, rfl, rfl, .inr ⟨by decide, by decide⟩, .ref g, rfl, g, _, 1, _, rfl, rfl, SqL.of e2, rfl, .ref g, rfl, g, _, 2, _, rfl, rfl, SqL.of e2, rfl, ?_⟩
        refine ⟨b, c + i + 1, rfl, b0, b1, by omega, ?_, fun r r0 r1 => ?_⟩
        · have : i < 13 := by omega
          omega
        · refine ⟨_, _, rfl, rfl, _, _, rfl, bt.trans But.upd, ?_⟩
          have ec : c + ((i : Nat) : Int) + 1 = c + ((i + 1 : Nat) : Int) := by omega
          rw [e2, ec]
      · rintro σ H' ⟨d, y, rfl, bt, eg⟩
        refine ⟨_, rfl, .inl ⟨_, rfl, _, rfl, _, _, rfl, rfl, m0, ?_⟩⟩
        obtain ⟨r0, r1⟩ := mod_in d m0
        refine q _ _ r0 r1 bt ⟨a, b, _, eg, a0, a1, b0, b1, by omega, ?_⟩
        have : (1 + ((Builtin.Int.intBits m : Nat) : Int) / 30).toNat ≤ 13 := by omega
        omega

theorem cut_first (ns : List Int) : cutV (ns.map V.int) none (some 1) = (ns.take 1).map V.int := by
  unfold cutV
  rw [HT.sIx_none, show HT.sIx (ns.map V.int).length (ns.map V.int).length (some 1) = min 1 (ns.map V.int).length from HT.sIx_nat _ _ 1]
  cases ns with
  | nil => rfl
  | cons x r =>
    rw [List.map_cons, List.length_cons, show min 1 ((r.map V.int).length + 1) = 1 by omega]
    rfl
def spGen (K : PySem.W.Frag) : Sp := fun vs H Q _ => ∃ (a : Addr) (ns : List Int) (k : Nat), vs = [.ref a, .int k] ∧ SqL K H a (ns.map V.int) ∧ k < 100 ∧
  ∀ (H' : Hp) (g : Addr), Same H H' → H g = none → Dr H' g (1000 * k) → Q (.ref g) H'
theorem ok_gen (F : FnP K "_law_generator" sGen f fd) (z_int : mg "int" = none) (z_len : mg "len" = none) (z_sum : mg "sum" = none) (z_max : mg "max" = none) :
    FnOk P w K mg base CX0 1 f fd ["_law_script", "_law_index"] (spGen K) := by
  have nd := scGen.nd
  refine F.ok scGen (fun vs H Q E h => ?_) (fun cdv A outer s H vs Q E hr h => ?_)
  · obtain ⟨a, ns, k, rfl, _⟩ := h
    rfl
  · obtain ⟨a, ns, k, rfl, hS, hk, q⟩ := h
    refine ⟨_, PSs.nox (pss_cons (ps_set (i := 2) nd rfl (Or.inl rfl) (pe_ifExp (pt_cmpR op_lt (pv 1) (pe_callB call_len (by rfl) z_len boot_len (pa_cons (pv 0) pa_nil)) (nomark _)) (pe_ix ix_list (pv 0) (pv 1) (fun _ _ => rfl)) (pe_op op_mod (pe_callB (cr_sum rfl) (by rfl) z_sum (by decide +kernel) (pa_cons (pe_slice sl_list (pv 0) po_none (po_some pe_int)) pa_nil)) pe_int)))
 (pss_one (ps_ret (pe_lst (pa_cons (pe_op op_mod (pe_callTy call_int1 (by rfl) z_int (by decide +kernel) (pa_cons (pe_callB (call_max2 rfl) (by rfl) z_max (by decide +kernel) (pa_cons (pe_op op_sub (pv 2) (pe_op op_pow pe_int pe_int)) (pa_cons pe_int pa_nil))) pa_nil)) (pe_op op_powW (pe_op op_pow pe_int pe_int) pe_int)) (pa_cons (pe_op op_mod (pe_callTy call_int1 (by rfl) z_int (by decide +kernel) (pa_cons (pv 2) pa_nil)) pe_int) (pa_cons (pe_op op_mul pe_int (pv 1)) pa_nil))))))), ?_⟩
    have last : ∀ (H' : Hp) (sd : Int), Same H H' → (∀ g, H' g = none → H g = none) → tRet (tLst (tCons (tOp (rI (fun _ j => 0 < j) fun i j => .int (i % j)) (tCB (fun xs H Q => (∃ i, xs = [.int i] ∧ Q (.int i) H) ∨ ∃ k, xs = [.bl k] ∧ Q (.int (if k then 1 else 0)) H) (tCons (tCB (fun xs H Q => ∃ i j, xs = [.int i, .int j] ∧ Q (.int (if j > i then j else i)) H) (tCons (tOp (rI0 fun i j => .int (i - j)) (tVar 2) (tOp (rI CPow fun i j => .int (i ^ j.toNat)) (tC (.int 10)) (tC (.int 18)))) (tCons (tC (.int 0)) tNil))) tNil)) (tOp (rI CPowW fun i j => .int (i ^ j.toNat)) (tOp (rI CPow fun i j => .int (i ^ j.toNat)) (tC (.int 10)) (tC (.int 60))) (tC (.int 10)))) (tCons (tOp (rI (fun _ j => 0 < j) fun i j => .int (i % j)) (tCB (fun xs H Q => (∃ i, xs = [.int i] ∧ Q (.int i) H) ∨ ∃ k, xs = [.bl k] ∧ Q (.int (if k then 1 else 0)) H) (tCons (tVar 2) tNil)) (tC (.int 2147483647))) (tCons (tOp (rI CMul fun i j => .int (i * j)) (tC (.int 1000)) (tVar 1)) tNil)))) { nx := fun _ H' => Q .non H', rt := Q } [some (.ref a), some (.int k), some (.int sd)] H' := by
      intro H' sd sm fr
      refine ⟨_, rfl, _, _, rfl, rfl, ⟨by decide, by decide, by decide⟩, _, _, rfl, rfl, _, _, rfl, .inl ⟨_, rfl, _, _, rfl, rfl, ⟨by decide, by decide, by decide⟩, _, _, rfl, rfl, ⟨by decide, by decide +kernel⟩, _, _, rfl, rfl, (by show (0 : Int) < ((10 : Int) ^ (60 : Int).toNat) ^ (10 : Int).toNat; decide +kernel), ?_⟩⟩
      refine ⟨_, rfl, .inl ⟨_, rfl, _, _, rfl, rfl, (by show (0 : Int) < 2147483647; decide), _, rfl, _, _, rfl, rfl, .inl ⟨by decide, by decide⟩, by show 3 ≤ sizeLine; decide, fun p np => ?_⟩⟩
      obtain ⟨m0, m1⟩ := mod_in sd (m := 2147483647) (by decide)
      have e600 : ((10 : Int) ^ (60 : Int).toNat) ^ (10 : Int).toNat = 10 ^ 600 := by decide +kernel
      have p600 : (0 : Int) < 10 ^ 600 := by decide +kernel
      refine q _ p (sm.trans (same_new np)) (fr p np) ⟨_, _, _, upd_same, ?_, ?_, m0, m1, by omega, by omega⟩
      · rw [e600]
        exact (mod_in _ p600).1
      · rw [e600]
        exact (mod_in _ p600).2
    refine ⟨_, rfl, .ref a, rfl, _, (ns.map V.int).length, rfl, Or.inl ⟨_, hS, rfl⟩, _, _, rfl, rfl, _, rfl, ite2 (fun e => ?_) (fun e => ?_)⟩
    · have lt : (k : Int) < ((ns.map V.int).length : Nat) := of_decide_eq_true e
      have lt2 : k < ns.length := by
        rw [List.length_map] at lt
        omega
      have g : (ns.map V.int)[k]? = some (.int ns[k]) := by
        rw [List.getElem?_map, List.getElem?_eq_getElem lt2]
        rfl
      exact ⟨.ref a, rfl, _, rfl, a, _, _, _, rfl, rfl, hS, atI_nat g, last H _ (Same.refl H) fun _ z => z⟩
    · refine ⟨.ref a, rfl, _, rfl, a, _, rfl, hS, fun p np => ?_⟩
      rw [cut_first]
      refine ⟨p, ns.take 1, rfl, SqL.of upd_same, _, _, rfl, rfl, (by show (0 : Int) < 1000003; decide), ?_⟩
      refine last _ _ (same_new np) fun g ng => ?_
      by_cases eg : g = p
      · rw [eg]
        exact np
      · rw [upd_ne eg] at ng
        exact ng
end
end K1
set_option Elab.async false
set_option linter.all false
set_option maxRecDepth 100000
set_option maxHeartbeats 4000000
namespace K1
open PySem PySem.Spec PyProof.Rows L2 XV
abbrev sWhole : Stmt := top 8
abbrev sCount : Stmt := top 9
abbrev sBelow : Stmt := top 10
abbrev sIsPoint : Stmt := top 12
abbrev sHasForm : Stmt := top 17
theorem scWhole : FnScope ["value"] ["value"] (defScope sWhole) := ⟨rfl, rfl, rfl, by decide +kernel, rfl, by decide +kernel, by decide +kernel⟩
theorem scCount : FnScope ["value"] ["value"] (defScope sCount) := ⟨rfl, rfl, rfl, by decide +kernel, rfl, by decide +kernel, by decide +kernel⟩
theorem scBelow : FnScope ["bound", "value"] ["bound", "value"] (defScope sBelow) := ⟨rfl, rfl, rfl, by decide +kernel, rfl, by decide +kernel, by decide +kernel⟩
theorem scIsPoint : FnScope ["many", "value", "number"] ["many", "value"] (defScope sIsPoint) := ⟨rfl, rfl, rfl, by decide +kernel, rfl, by decide +kernel, by decide +kernel⟩
theorem scHasForm : FnScope ["many", "item", "number"] ["many", "item"] (defScope sHasForm) := ⟨rfl, rfl, rfl, by decide +kernel, rfl, by decide +kernel, by decide +kernel⟩
/-- a value whose kind is known -/
inductive Kn (H : Hp) : V → Prop
  | int (i : Int) : Kn H (.int i)
  | non : Kn H .non
  | bl (b : Bool) : Kn H (.bl b)
  | str (z : Str) : Kn H (.str z)
  | lst {a : Addr} {xs : List V} (h : H a = some (.lst xs)) : Kn H (.ref a)
  | tup {a : Addr} {xs : List V} (h : H a = some (.tup xs)) : Kn H (.ref a)
theorem Kn.keep {H H' : Hp} (s : Same H H') {v : V} (h : Kn H v) : Kn H' v := by
  cases h with
  | int i => exact .int i
  | non => exact .non
  | bl b => exact .bl b
  | str z => exact .str z
  | lst h => exact .lst (s _ _ h)
  | tup h => exact .tup (s _ _ h)
/-- a whole number, a count -/
def whV : V → Bool
  | .int _ => true
  | _ => false
def cntV : V → Bool
  | .int i => decide (0 ≤ i)
  | _ => false
def belV (b : Int) : V → Bool
  | .int i => decide (0 ≤ i) && decide (i < b)
  | _ => false
def spWhole : Sp := fun vs H Q _ => ∃ v, vs = [v] ∧ Kn H v ∧ Q (.bl (whV v)) H
def spCount : Sp := fun vs H Q _ => ∃ v, vs = [v] ∧ Kn H v ∧ Q (.bl (cntV v)) H
def spBelow : Sp := fun vs H Q _ => ∃ b v, vs = [.int b, v] ∧ Kn H v ∧ Q (.bl (belV b v)) H
section
variable {P : Program} {w : World} {K : PySem.W.Frag} {mg : Str → Option Value} {base : Heap} {f : Addr} {fd : FuncData}
theorem ok_whole (F : FnP K "is_whole" sWhole f fd) (z_isinstance : mg "isinstance" = none) (z_int : mg "int" = none) (z_bool : mg "bool" = none) : FnOk P w K mg base CX0 1 f fd ["value"] spWhole := by
  refine F.ok scWhole (fun vs H Q E h => ?_) (fun cdv A outer s H vs Q E hr h => ?_)
  · obtain ⟨v, rfl, _⟩ := h
    rfl
  · obtain ⟨v, rfl, kv, q⟩ := h
    refine ⟨_, PSs.nox (pss_one (ps_ret (pe_and (pe_callB call_isi (by rfl) z_isinstance (by decide +kernel) (pa_cons (pv 0) (pa_cons (pe_bltn (v := .ty "int") (by rfl) z_int (by decide +kernel) rfl) pa_nil))) (pe_one (pe_not (pe_callB call_isi (by rfl) z_isinstance (by decide +kernel) (pa_cons (pv 0) (pa_cons (pe_bltn (v := .ty "bool") (by rfl) z_bool (by decide +kernel) rfl) pa_nil)))))))), ?_⟩
    cases kv with
    | int i => exact ⟨_, rfl, _, _, _, _, true, rfl, .ty "int", .base (.int i), kit_ty (by decide +kernel), true, rfl, _, rfl, _, _, _, _, false, rfl, .ty "bool", .base (.int i), kit_ty (by decide +kernel), false, rfl, q⟩
    | bl b => exact ⟨_, rfl, _, _, _, _, true, rfl, .ty "int", .base (.bl b), kit_ty (by decide +kernel), true, rfl, _, rfl, _, _, _, _, true, rfl, .ty "bool", .base (.bl b), kit_ty (by decide +kernel), true, rfl, q⟩
    | non => exact ⟨_, rfl, _, _, _, _, false, rfl, .ty "int", .base .non, kit_ty (by decide +kernel), false, rfl, iteF q⟩
    | str z => exact ⟨_, rfl, _, _, _, _, false, rfl, .ty "int", .base (.str z), kit_ty (by decide +kernel), false, rfl, iteF q⟩
    | lst h => exact ⟨_, rfl, _, _, _, _, false, rfl, .ty "int", .base (.lst h), kit_ty (by decide +kernel), false, rfl, iteF q⟩
    | tup h => exact ⟨_, rfl, _, _, _, _, false, rfl, .ty "int", .base (.tup h), kit_ty (by decide +kernel), false, rfl, iteF q⟩
theorem ok_count (F : FnP K "is_count" sCount f fd) (o_is_whole : Ok P w K mg base "is_whole" 1 ["value"] spWhole) : FnOk P w K mg base CX0 2 f fd ["value"] spCount := by
  refine F.ok scCount (fun vs H Q E h => ?_) (fun cdv A outer s H vs Q E hr h => ?_)
  · obtain ⟨v, rfl, _⟩ := h
    rfl
  · obtain ⟨v, rfl, kv, q⟩ := h
    refine ⟨_, PSs.nox (pss_one (ps_ret (pe_and (pe_callO o_is_whole (hr.mono (by decide)) (by rfl) (pa_cons (pv 0) pa_nil)) (pe_one (pe_cmpR op_ge (pv 0) pe_int (nomark _)))))), ?_⟩
    have k2 := kv
    cases kv with
    | int i => exact ⟨_, rfl, _, rfl, k2, true, rfl, _, rfl, _, _, rfl, rfl, q⟩
    | bl b => exact ⟨_, rfl, _, rfl, k2, false, rfl, iteF q⟩
    | non => exact ⟨_, rfl, _, rfl, k2, false, rfl, iteF q⟩
    | str z => exact ⟨_, rfl, _, rfl, k2, false, rfl, iteF q⟩
    | lst h => exact ⟨_, rfl, _, rfl, k2, false, rfl, iteF q⟩
    | tup h => exact ⟨_, rfl, _, rfl, k2, false, rfl, iteF q⟩
theorem ok_below (F : FnP K "is_count_below" sBelow f fd) (o_is_count : Ok P w K mg base "is_count" 2 ["value"] spCount) : FnOk P w K mg base CX0 3 f fd ["bound", "value"] spBelow := by
  refine F.ok scBelow (fun vs H Q E h => ?_) (fun cdv A outer s H vs Q E hr h => ?_)
  · obtain ⟨b, v, rfl, _⟩ := h
    rfl
  · obtain ⟨b, v, rfl, kv, q⟩ := h
    refine ⟨_, PSs.nox (pss_one (ps_ret (pe_and (pe_callO o_is_count (hr.mono (by decide)) (by rfl) (pa_cons (pv 1) pa_nil)) (pe_one (pe_cmpR op_lt (pv 1) (pv 0) (nomark _)))))), ?_⟩
    have k2 := kv
    cases kv with
    | int i =>
      refine ⟨_, rfl, _, rfl, k2, _, rfl, ?_⟩
      by_cases c : 0 ≤ i
      · have e : cntV (.int i) = true := decide_eq_true c
        rw [e]
        have e2 : belV b (.int i) = decide (i < b) := by
          show (decide (0 ≤ i) && decide (i < b)) = _
          rw [decide_eq_true c]
          rfl
        rw [e2] at q
        exact iteT ⟨_, rfl, _, rfl, _, _, rfl, rfl, q⟩
      · have e : cntV (.int i) = false := decide_eq_false c
        rw [e]
        have e2 : belV b (.int i) = false := by
          show (decide (0 ≤ i) && decide (i < b)) = _
          rw [decide_eq_false c]
          rfl
        rw [e2] at q
        exact iteF q
    | bl z => exact ⟨_, rfl, _, rfl, k2, false, rfl, iteF q⟩
    | non => exact ⟨_, rfl, _, rfl, k2, false, rfl, iteF q⟩
    | str z => exact ⟨_, rfl, _, rfl, k2, false, rfl, iteF q⟩
    | lst h => exact ⟨_, rfl, _, rfl, k2, false, rfl, iteF q⟩
    | tup h => exact ⟨_, rfl, _, rfl, k2, false, rfl, iteF q⟩
end
end K1
set_option Elab.async false
set_option linter.all false
set_option maxRecDepth 100000
set_option maxHeartbeats 4000000
namespace XV
open PySem PySem.Spec PyProof.Rows L2
/-- any(t), t a tuple of flat data -/
def rAnyT (K : PySem.W.Frag) : List V → Hp → VK → Prop := fun vs H Q => ∃ (a : Addr) (xs : List V) (ds : List PyData), vs = [V.ref a] ∧ SqT K H a xs ∧ DpAll K H xs ds ∧ PyData.plainAll ds = true ∧ (∀ d ∈ ds, d.fits63) ∧ Q (.bl (ds.any PyData.truthy)) H
theorem call_anyT {X : Cx} (hc : X.calm = true) : CallR X (.builtin "any") (rAnyT X.K) := by
  intro pins s σ H vs us Q I r h
  obtain ⟨a, xs, ds, rfl, hs, hd, hp, hf, q⟩ := h
  obtain ⟨its, rv, ht, _⟩ := I.tuple hs
  rw [Vals.ref1 r]
  obtain ⟨as, hr⟩ := Dp.readsAll I ds xs its hd rv
  refine PySem.W.any_tuple_data (as := as) (I.ok.hd hc) (vs := its.toArray) (l := a) ?_ (xs := ds) (by simpa using hr) hp hf fun h' tk k => ?_
  · exact ht
  · exact ⟨.bl _, H, I.kept (t' := tk) k, rfl, q⟩
/-- a text times a number -/
theorem op_mulS {X : Cx} : OpR X (binaryOp .Mult) (fun x y H Q => ∃ (z : Str) (i : Int), x = .str z ∧ y = .int i ∧ MulOk z i ∧ Q (.str (Txt.mul z i)) H) := by
  intro pins s σ H x y v u Q I rx ry h
  obtain ⟨z, i, rfl, rfl, hok, q⟩ := h
  obtain ⟨t, rfl⟩ := rx
  obtain ⟨t2, rfl⟩ := ry
  exact SB.mul hok fun t' k => ⟨.str _, H, I.tok k, ⟨t', rfl⟩, q⟩
theorem ip_addS {X : Cx} : PIp X .Add (fun x y H Q => ∃ i j : Str, x = .str i ∧ y = .str j ∧ i.length + j.length ≤ sizeLine ∧ Q (.str (i ++ j)) H) := by
  intro pins s σ H x y v u Q I rx ry h
  exact iop_add_str pins s σ H x y v u Q I rx ry h
end XV
set_option Elab.async false
set_option linter.all false
set_option maxRecDepth 100000
set_option maxHeartbeats 2000000
/-! zip of a tuple (first) and a list (second). -/
namespace XV
open PySem PySem.Spec PyProof.Rows L2
/-- the tuple at a and the list at b, as they are when a turn begins; each turn's two items come in a pair of their own -/
def ItzM (K : PySem.W.Frag) (a b : Addr) : It where
  go := fun i H => ∃ (xs ys : List V) (x y : V), SqT K H a xs ∧ SqL K H b ys ∧ xs[i]? = some x ∧ ys[i]? = some y
  yld := fun i H v H' => ∃ T x y, v = .ref T ∧ H T = none ∧ H' = upd H T (.tup [x, y]) ∧ (∀ xs, SqT K H a xs → xs[i]? = some x) ∧ ∀ ys, SqL K H b ys → ys[i]? = some y
  stop := fun i H => ∃ xs ys : List V, (SqT K H a xs ∧ SqL K H b ys) ∧ (xs.length = i ∨ ys.length = i) ∧ i ≤ xs.length ∧ i ≤ ys.length
/-- where such a zip's parts stand, ahead of turn i -/
def AtM (a b z tI tO j k : Addr) (i : Nat) (h : Heap) : Prop :=
  IsZip h z tI tO .none ∧ IsPair h tI (.ref j) (.ref k) ∧ (∃ p q, IsPair h tO p q) ∧ h.IsTupleIter j a i ∧ h.IsListIter k b i
theorem sep_of {z tI tO j k a b : Addr} (D : ZipApart z tI tO j k a b) : ZipSep2 z tI tO j k [j, a] [k, b] where
  TIz := D.TIz
  TOz := D.TOz
  TITO := D.TITO
  TIi1 := D.TIi1
  mem1 := List.mem_cons_self
  zf1 := by simp [D.i1z.symm, D.l1z.symm]
  Tf1 := by simp [D.TOi1, D.l1TO.symm]
  TIi2 := D.TIi2
  mem2 := List.mem_cons_self
  zf2 := by simp [D.i2z.symm, D.l2z.symm]
  Tf2 := by simp [D.TOi2, D.l2TO.symm]
  sep1_2 := by simp [D.i12, D.l2i1.symm]
  sep2_1 := by simp [D.i12.symm, D.l1i2.symm]
theorem turnM {P : Program} {w : World} {K : PySem.W.Frag} {es : List Expr} {kk : Nat} {tp : Pos} {a b z tI tO j k : Addr} (D : ZipApart z tI tO j k a b) :
    Turn P w K (.Tuple es kk tp) (ItzM K a b) [z, tI, tO, j, k] z (AtM a b z tI tO j k) where
  mem := List.mem_cons_self
  obj := fun i h ⟨s1, s2, ⟨p, q, s3⟩, ⟨o1, e1, _, d1⟩, ⟨o2, e2, _, d2⟩⟩ c hc => by
    simp only [List.mem_cons, List.not_mem_nil, or_false] at hc
    rcases hc with rfl | rfl | rfl | rfl | rfl
    · exact ⟨_, s1, fun _ x => nomatch x⟩
    · exact ⟨_, s2, fun _ x => nomatch x⟩
    · exact ⟨_, s3, fun _ x => nomatch x⟩
    · exact ⟨o1, e1, fun _ x => by rw [d1] at x; cases x⟩
    · exact ⟨o2, e2, fun _ x => by rw [d2] at x; cases x⟩
  keep := fun i h h' ⟨s1, s2, ⟨p, q, s3⟩, s4, s5⟩ kp =>
    ⟨kp z (by simp) _ s1, kp tI (by simp) _ s2, ⟨p, q, kp tO (by simp) _ s3⟩, s4.at (fun o e => kp j (by simp) o e), s5.at (fun o e => kp k (by simp) o e)⟩
  item := by
    intro X eP ew eK calm i pins s σ H E I fp st gg
    subst eP ew eK
    obtain ⟨s1, s2, ⟨p0, q0, s3⟩, s4, s5⟩ := st
    obtain ⟨xs, ys, x, y, tx, ly, ex, ey⟩ := gg
    obtain ⟨us, ru, pu, _⟩ := I.tuple tx
    obtain ⟨vs, rv, pw, _⟩ := I.list ly
    obtain ⟨u, eu, rux⟩ := ru.get ex
    obtain ⟨v, ev, rvy⟩ := rv.get ey
    have zlt : z < s.heap.objs.size := Heap.lt_size s1
    have hu : i < us.toArray.size := by
      have := (List.getElem?_eq_some_iff.mp eu).1
      simpa using this
    have hv : i < vs.toArray.size := by
      have := (List.getElem?_eq_some_iff.mp ev).1
      simpa using this
    have hh : X.A.in1.handled = none := I.ok.hd calm
    refine wpAny_pyNext_zipD2_item (sep_of D) (Draws.tuple hh j a D.l1i1 us.toArray) (Draws.list hh k b D.l2i2 vs.toArray) s1 s2 s3 ⟨s4, pu⟩ ⟨s5, pw.isList⟩ hu hv fun x1 x2 h' tk d1 d2 z1 t1 n1 n2 new sz kp => ?_
    have e1 : x1 = u := Option.some.inj (d1.symm.trans (by simpa using eu))
    have e2 : x2 = v := Option.some.inj (d2.symm.trans (by simpa using ev))
    subst e1 e2
    refine ⟨_, rfl, wpAny_letOwnedTupleGo_zip (s := { s with heap := h', toks := tk }) z1 fun g z2 sb => ?_⟩
    have far : ∀ c, c = z ∨ c = tI ∨ c = tO ∨ c = j ∨ c = k → c < s.heap.objs.size := fun c hc => by
      rcases hc with rfl | rfl | rfl | rfl | rfl
      · exact zlt
      · exact Heap.lt_size s2
      · exact Heap.lt_size s3
      · obtain ⟨_, q, _⟩ := s4
        exact Heap.lt_size q
      · obtain ⟨_, q, _⟩ := s5
        exact Heap.lt_size q
    have fresh : g.get? s.heap.objs.size = some { cls := .type "tuple", data := .seq #[x1, x2] } := (sb.2 _ (Nat.ne_of_gt zlt)).trans new
    have ok2 : ObjOk X.prog X.w (upd H s.heap.objs.size (.tup [x, y])) g s.heap.objs.size (.tup [x, y]) := ⟨(by show 2 ≤ sizeLine; decide), [x1, x2], .cons rux (.cons rvy .nil), ⟨_, fresh, rfl, _, rfl⟩⟩
    have J := I.turnedNew (t' := tk) (h' := g) (ch := [z, tI, tO, j, k]) (fun c o out q => (sb.2 c (fun e => out (by simp [e]))).trans (kp c o (fun e => out (by simp [e])) (fun e => out (by simp [e])) (fun e => out (by simp [e])) (fun e => out (by simp [e])) q)) fp (Nat.le_refl _) ok2
    refine ⟨.ref s.heap.objs.size, _, J, rfl, ⟨_, x, y, rfl, I.hok.fresh (Nat.le_refl _), rfl, fun l hl => (I.tuple_inj hl tx) ▸ ex, fun l hl => (I.list_inj hl ly) ▸ ey⟩, ⟨z2, (sb.2 _ D.TIz).trans (kp _ _ D.TIz D.TITO D.TIi1 D.TIi2 s2), ⟨x1, x2, (sb.2 _ D.TOz).trans t1⟩, n1.1.at (fun o q => (sb.2 _ D.i1z).trans q), n2.1.at (fun o q => (sb.2 _ D.i2z).trans q)⟩, fun c hc => ?_⟩
    simp only [List.mem_cons, List.not_mem_nil, or_false] at hc
    rw [upd_ne (Nat.ne_of_lt (far c hc))]
    exact (fp c (by simpa using hc)).1
  done := by
    intro X eP ew eK calm i pins s σ H E I fp st gg
    subst eP ew eK
    obtain ⟨s1, s2, ⟨p0, q0, s3⟩, s4, s5⟩ := st
    obtain ⟨xs, ys, ⟨tx, ly⟩, stop, l1, l2⟩ := gg
    obtain ⟨us, ru, pu, _⟩ := I.tuple tx
    obtain ⟨vs, rv, pw, _⟩ := I.list ly
    have n1 := ru.length
    have n2 := rv.length
    have hh : X.A.in1.handled = none := I.ok.hd calm
    refine wpAny_pyNext_zipD2_end (sep_of D) (Draws.tuple hh j a D.l1i1 us.toArray) (Draws.list hh k b D.l2i2 vs.toArray) s1 s2 s3 ⟨s4, pu⟩ ⟨s5, pw.isList⟩ (by simp; omega) (by simp; omega) (by simp; omega) fun h' tk kp => ⟨rfl, ?_⟩
    exact I.turnedL (t' := tk) (ch := [z, tI, tO, j, k]) (fun c o out q => kp c o (fun e => out (by simp [e])) (fun e => out (by simp [e])) (fun e => out (by simp [e])) (fun e => out (by simp [e])) q) fp
  self := fun A i s Q E st q => wpAny_pyIter_zip st.1 q
/-- .. in zip(e, e2) -/
def iZipM (K : PySem.W.Frag) (ta : TA) : TI := fun σ H R => ta σ H fun vs H1 => ∃ a b xs ys, vs = [.ref a, .ref b] ∧ (SqT K H1 a xs ∧ SqL K H1 b ys) ∧ R (ItzM K a b) H1
theorem pi_zipM {X : Cx} {e e2 : Expr} {ta : TA} {p pos tp : Pos} {es : List Expr} {kk : Nat} (gl : Gl X "zip") (z_zip : X.mg "zip" = none) (ha : PA X [e, e2] ta)
    (hs : starEach [e, e2] X.env = (false, eval e X.env) :: starEach [e2] X.env := by rfl) (np : (backTo pos (starEach [e2] X.env)).any (·.1) = false := by rfl) :
    PI X (.Tuple es kk tp) (.Call (.Name "zip" p) [e, e2] [] pos) (iZipM X.K ta) := by
  refine ⟨fun pins s σ H R I h => Call_ (ld_blt I gl z_zip PyProof.Rows.boot_zip (PyProof.Rows.callWith_type1 (thn (ha.run pos pins s σ H _ I h) fun us s1 ⟨vs, H1, J, rv, q⟩ => ?_) hs np))⟩
  obtain ⟨a, b, xs, ys, rfl, ⟨tx, ly⟩, q⟩ := q
  obtain ⟨u1, u2, rfl, r1, r2⟩ := vals2 rv
  cases r1
  cases r2
  obtain ⟨ps, _, pu, _⟩ := J.tuple tx
  obtain ⟨qs, _, pw, _⟩ := J.list ly
  have lt1 : a < s1.heap.objs.size := by
    obtain ⟨o, ho, _⟩ := id pu
    exact Heap.lt_size ho
  have lt2 : b < s1.heap.objs.size := pw.lt
  refine zip_begins2 (begins_tuple a ps.toArray) (begins_list b qs.toArray) pu pw.isList fun h' z1 t1 t2 g1 g2 sz kp => wpAny_pyIter_zip z1 ?_
  have J2 : Inv X pins σ H1 { s1 with heap := h' } := J.kept (t' := s1.toks) kp
  refine ⟨s1.heap.objs.size + 4, [s1.heap.objs.size + 4, s1.heap.objs.size + 2, s1.heap.objs.size + 3, s1.heap.objs.size, s1.heap.objs.size + 1], _, _, H1, rfl, J2, turnM (PySem.W.ktu_apart s1.heap.objs.size a b lt1 lt2), ⟨z1, t1, ⟨_, _, t2⟩, ⟨_, g1, rfl, rfl⟩, ⟨_, g2, rfl, rfl⟩⟩, fun c hc => ?_, q⟩
  have le : s1.heap.objs.size ≤ c := by
    simp only [List.mem_cons, List.not_mem_nil, or_false] at hc
    rcases hc with rfl | rfl | rfl | rfl | rfl
    · exact Nat.le_add_right _ 4
    · exact Nat.le_add_right _ 2
    · exact Nat.le_add_right _ 3
    · exact Nat.le_refl _
    · exact Nat.le_add_right _ 1
  exact J.fpOk le (J.hok.fresh le)
end XV
set_option Elab.async false
set_option linter.all false
set_option maxRecDepth 100000
set_option maxHeartbeats 2000000
namespace XV
open PySem PySem.Spec PyProof.Rows L2
/-- a comprehension over zip of a tuple and a list of one length -/
theorem lc_zipM {K : PySem.W.Frag} {a b : Addr} {xs ys : List V} {g : TG} {tt : TT} {te : TE} {vs : List Nat} {σ : L2.St} {H1 : Hp} {D : Addr} {Qd : Hp → Prop} (hl : xs.length = ys.length) (Pv : Nat → Hp → Prop) (h0 : Pv 0 (upd H1 D (.lst [])))
    (hq : ∀ i H, Pv i H → SqT K H a xs ∧ SqL K H b ys)
    (hs : ∀ (i : Nat) (x y : V) (T : Addr) (H : Hp), xs[i]? = some x → ys[i]? = some y → Pv i H → H T = none → g (.ref T) (wipe σ vs) (upd H T (.tup [x, y])) fun σ2 H2 => wipe σ2 vs = wipe σ vs ∧ tt σ2 H2 fun c H3 =>
      if c = true then te σ2 H3 fun r H4 => ∃ acc, H4 D = some (.lst acc) ∧ acc.length < sizeLine ∧ Pv (i + 1) (upd H4 D (.lst (acc ++ [r]))) else Pv (i + 1) H3)
    (hd : ∀ H, Pv xs.length H → Qd H) :
    ∃ W : Nat → Nat → Hp → Prop, (∃ m, W 0 m (upd H1 D (.lst []))) ∧ ∀ i m H, W i m H →
      ((ItzM K a b).stop i H ∧ Qd H) ∨ ((ItzM K a b).go i H ∧ ∃ Nx : Hp → Prop, (∀ H', Nx H' → ∃ m', m' < m ∧ W (i + 1) m' H') ∧ ∀ x H', (ItzM K a b).yld i H x H' → g x (wipe σ vs) H' fun σ2 H2 => wipe σ2 vs = wipe σ vs ∧ tt σ2 H2 fun c H3 =>
        if c = true then te σ2 H3 fun r H4 => ∃ acc, H4 D = some (.lst acc) ∧ acc.length < sizeLine ∧ Nx (upd H4 D (.lst (acc ++ [r]))) else Nx H3) := by
  refine ⟨fun i m H => m + i = xs.length ∧ Pv i H, ⟨xs.length, rfl, h0⟩, ?_⟩
  rintro i m H ⟨em, p⟩
  obtain ⟨q1, q2⟩ := hq i H p
  cases m with
  | zero =>
    have e : i = xs.length := by omega
    subst e
    exact .inl ⟨⟨xs, ys, ⟨q1, q2⟩, .inl rfl, Nat.le_refl _, by omega⟩, hd H p⟩
  | succ m =>
    have l1 : i < xs.length := by omega
    have l2 : i < ys.length := by omega
    have g1 := List.getElem?_eq_getElem l1
    have g2 := List.getElem?_eq_getElem l2
    refine .inr ⟨⟨xs, ys, _, _, q1, q2, g1, g2⟩, Pv (i + 1), fun H' p' => ⟨m, Nat.lt_succ_self m, by omega, p'⟩, ?_⟩
    rintro v H' ⟨T, x, y, rfl, nT, rfl, f1, f2⟩
    exact hs i x y T H (f1 xs q1) (f2 ys q2) p nT
/-- ix of a tuple, len of a text: where the part of the heap must be told -/
theorem ix_tupK {X : Cx} {K : PySem.W.Frag} (e : X.K = K) : IxR X (rIxT K) := by
  subst e
  exact ix_tup
theorem ix_listK {X : Cx} {K : PySem.W.Frag} (e : X.K = K) : IxR X (rIxL K) := by
  subst e
  exact ix_list
theorem cr_sumK {X : Cx} {K : PySem.W.Frag} (e : X.K = K) (hc : X.calm = true) : CallR X (.builtin "sum") (rSum K) := by
  subst e
  exact cr_sum hc
theorem pi_listK {X : Cx} {K : PySem.W.Frag} {tg l : Expr} {tl : TE} (e : X.K = K) (hl : PE X l tl) : PI X tg l (iList K tl) := by
  subst e
  exact pi_list hl
end XV
set_option Elab.async false
set_option linter.all false
set_option maxRecDepth 100000
set_option maxHeartbeats 4000000
namespace K1
open PySem PySem.Spec PyProof.Rows L2 XV
abbrev sFormValue : Stmt := top 20
abbrev sTimes : Stmt := top 22
theorem scFormValue : FnScope ["form", "point", "number", "count"] ["form", "point"] (defScope sFormValue) := ⟨rfl, rfl, rfl, by decide +kernel, rfl, by decide +kernel, by decide +kernel⟩
theorem scTimes : FnScope ["form", "times", "number"] ["form", "times"] (defScope sTimes) := ⟨rfl, rfl, rfl, by decide +kernel, rfl, by decide +kernel, by decide +kernel⟩
/-- a count of at most k binary digits -/
def Sz (k : Nat) (x : Int) : Prop := 0 ≤ x ∧ x < 2 ^ k
theorem Sz.log {k : Nat} {x : Int} (h : Sz k x) : x.natAbs.log2 ≤ k := by
  obtain ⟨h0, h1⟩ := h
  by_cases z : x.natAbs = 0
  · rw [z]
    exact Nat.zero_le _
  · have l : x.natAbs < 2 ^ k := by
      have e : ((x.natAbs : Nat) : Int) = x := Int.natAbs_of_nonneg h0
      have e2 : ((x.natAbs : Nat) : Int) < ((2 ^ k : Nat) : Int) := by
        rw [e, Int.natCast_pow]
        exact h1
      exact Int.ofNat_lt.mp e2
    exact Nat.le_of_lt ((Nat.log2_lt z).mpr l)
theorem Sz.mulW {k l : Nat} {x y : Int} (a : Sz k x) (b : Sz l y) (h : k + l < 1000000) : CMulW x y := by
  have h1 := a.log
  have h2 := b.log
  show x.natAbs.log2 + y.natAbs.log2 < 1000000
  omega
theorem Sz.mul {k l : Nat} {x y : Int} (a : Sz k x) (b : Sz l y) : Sz (k + l) (x * y) := by
  refine ⟨Int.mul_nonneg a.1 b.1, ?_⟩
  rw [Int.pow_add]
  have p : (0 : Int) < 2 ^ k := Int.lt_of_le_of_lt a.1 a.2
  have p2 : (0 : Int) < 2 ^ l := Int.lt_of_le_of_lt b.1 b.2
  by_cases z : y = 0
  · rw [z, Int.mul_zero]
    exact Int.mul_pos p p2
  · have y0 : 0 < y := by
      have := b.1
      omega
    exact Int.lt_of_lt_of_le (Int.mul_lt_mul_of_pos_right a.2 y0) (Int.mul_le_mul_of_nonneg_left (Int.le_of_lt b.2) (Int.le_of_lt p))
def dot (xs ys : List Int) : Int := (List.zipWith (· * ·) xs ys).sum
def spFormValue : Sp := fun vs H Q _ => ∃ (fa pa : Addr) (c : Int) (xs ys : List Int), vs = [.ref fa, .ref pa] ∧ H fa = some (.tup ((c :: xs).map V.int)) ∧ H pa = some (.lst (ys.map V.int)) ∧ xs.length = ys.length ∧ xs.length ≤ 100 ∧
  (∀ x ∈ xs, Sz 1000 x) ∧ (∀ y ∈ ys, Sz 1000 y) ∧ ∀ H', Same H H' → Q (.int (c + dot xs ys)) H'
theorem zw_get {xs ys : List Int} {i : Nat} {x y : Int} (hx : xs[i]? = some x) (hy : ys[i]? = some y) : (List.zipWith (· * ·) xs ys)[i]? = some (x * y) := by
  rw [List.getElem?_zipWith, hx, hy]
theorem cut_rest (c : Int) (xs : List Int) : cutV ((c :: xs).map V.int) (some 1) none = xs.map V.int := by
  unfold cutV
  rw [HT.sIx_none, show HT.sIx ((c :: xs).map V.int).length 0 (some 1) = min 1 ((c :: xs).map V.int).length from HT.sIx_nat _ _ 1]
  rw [List.map_cons, List.length_cons, show min 1 ((xs.map V.int).length + 1) = 1 by omega]
  simp only [List.drop_succ_cons, List.drop_zero]
  exact List.take_of_length_le (by simp)
section
variable {P : Program} {w : World} {K : PySem.W.Frag} {mg : Str → Option Value} {base : Heap} {f : Addr} {fd : FuncData}
theorem ok_formValue (F : FnP K "form_value" sFormValue f fd) (z_sum : mg "sum" = none) (z_zip : mg "zip" = none) : FnOk P w K mg base CX0 1 f fd ["form", "point"] spFormValue := by
  have nd := scFormValue.nd
  refine F.ok scFormValue (fun vs H Q E h => ?_) (fun cdv A outer s H vs Q E hr h => ?_)
  · obtain ⟨fa, pa, c, xs, ys, rfl, _⟩ := h
    rfl
  · obtain ⟨fa, pa, c, xs, ys, rfl, hf, hp, hl, h100, bx, hy, q⟩ := h
    refine ⟨_, PSs.nox (pss_one (ps_ret (pe_op op_add (pe_ix ix_tup (pv 0) pe_int (fun _ _ => rfl)) (pe_callB (cr_sum rfl) (by rfl) z_sum (by decide +kernel) (pa_cons
      (pe_lc (own := [("number", 2), ("count", 3)]) (g := gTup K 2 (gCons (gName 2) (gCons (gName 3) gNil))) (by rfl) nd (pi_zipM (by rfl) z_zip (pa_cons (pe_slice sl_tup (pv 0) (po_some pe_int) po_none) (pa_cons (pv 1) pa_nil))) (blkOk_by (N := ["form", "point", "number", "count"]) (sc := defScope sFormValue) (own := [("number", 2), ("count", 3)]) (by decide +kernel))
        (fun _ _ _ _ _ => pg_tup rfl (pgs_cons (pg_name (i := 2) nd rfl (Or.inl rfl)) (pgs_cons (pg_name (i := 3) nd rfl (Or.inl rfl)) pgs_nil))) (fun _ _ _ _ _ => pts_nil)
        (fun _ _ _ _ _ => pe_op op_mulW (pv 2) (pv 3))) pa_nil))))), ?_⟩
    refine ⟨_, rfl, fa, _, _, _, rfl, rfl, SqT.of hf, (show atI ((c :: xs).map V.int) ((0 : Nat) : Int) = some (V.int c) from atI_nat rfl), _, rfl, _, rfl, fa, _, rfl, SqT.of hf, (fun z => absurd z.1 (by
      rw [show HT.sIx ((c :: xs).map V.int).length 0 (some 1) = min 1 ((c :: xs).map V.int).length from HT.sIx_nat _ _ 1, List.map_cons, List.length_cons]
      omega)), fun sl nsl => ⟨_, rfl, sl, pa, _, _, rfl, ⟨SqT.of upd_same, SqL.of (same_new nsl _ _ hp)⟩, fun D nD => ?_⟩⟩
    rw [cut_rest] at nD ⊢
    have s0 := same_new (o := .tup (xs.map V.int)) nsl
    refine lc_zipM (K := K) (a := sl) (b := pa) (xs := xs.map V.int) (ys := ys.map V.int) (by simp [hl]) (fun k H' => Same (upd H sl (.tup (xs.map V.int))) H' ∧ H' D = some (.lst (((List.zipWith (· * ·) xs ys).take k).map V.int))) ⟨same_new nD, upd_same⟩ (fun i H' p => ⟨SqT.of (p.1 _ _ upd_same), SqL.of (p.1 _ _ (s0 _ _ hp))⟩) ?_ ?_
    · rintro i x y T H' hx hy' ⟨sm, hD⟩ nT
      rw [List.getElem?_map] at hx hy'
      obtain ⟨x0, ex, rfl⟩ := Option.map_eq_some_iff.mp hx
      obtain ⟨y0, ey, rfl⟩ := Option.map_eq_some_iff.mp hy'
      have sT := same_new (o := .tup [.int x0, .int y0]) nT
      have li : i < xs.length := (List.getElem?_eq_some_iff.mp ex).1
      refine ⟨T, _, rfl, SqT.of upd_same, rfl, _, _, rfl, _, _, rfl, rfl, rfl, ?_⟩
      refine ⟨_, rfl, _, rfl, _, _, rfl, rfl, (bx _ (List.mem_of_getElem? ex)).mulW (hy _ (List.mem_of_getElem? ey)) (by decide), _, sT _ _ hD, ?_, fun b o e => ?_, ?_⟩
      · rw [List.length_map]
        exact small1000 (Nat.le_trans (List.length_take_le _ _) (by omega))
      · rw [upd_ne (ne_of_none e nD)]
        exact sT _ _ (sm _ _ e)
      · rw [upd_same, List.take_add_one, zw_get ex ey, List.map_append]
        rfl
    · rintro H' ⟨sm, hD⟩
      have el : ((List.zipWith (· * ·) xs ys).take (xs.map V.int).length) = List.zipWith (· * ·) xs ys := List.take_of_length_le (by simp; exact Nat.min_le_left _ _)
      rw [el] at hD
      exact ⟨D, _, rfl, SqL.of hD, _, _, rfl, rfl, q H' (s0.trans sm)⟩
end
end K1
set_option Elab.async false
set_option linter.all false
set_option maxRecDepth 100000
set_option maxHeartbeats 4000000
namespace K1
open PySem PySem.Spec PyProof.Rows L2 XV
abbrev sPlain : Stmt := top 24
theorem scPlain : FnScope ["many", "constant"] ["many", "constant"] (defScope sPlain) := ⟨rfl, rfl, rfl, by decide +kernel, rfl, by decide +kernel, by decide +kernel⟩
def spTimes : Sp := fun vs H Q _ => ∃ (fa : Addr) (t : Int) (ns : List Int), vs = [.ref fa, .int t] ∧ H fa = some (.tup (ns.map V.int)) ∧ ns.length ≤ 100 ∧ (∀ x ∈ ns, Sz 1000 x) ∧ Sz 1000 t ∧
  ∀ (H' : Hp) (p : Addr), Same H H' → H p = none → H' p = some (.tup ((ns.map (· * t)).map V.int)) → Q (.ref p) H'
def spPlain : Sp := fun vs H Q _ => ∃ (m : Nat) (c : Int), vs = [.int m, .int c] ∧ m ≤ 100 ∧ ∀ (H' : Hp) (p : Addr), Same H H' → H p = none → H' p = some (.tup ((c :: List.replicate m 0).map V.int)) → Q (.ref p) H'
theorem rep_flat (m : Nat) : (List.replicate m [V.int 0]).flatten = (List.replicate m (0 : Int)).map V.int := by
  induction m with
  | zero => rfl
  | succ m ih =>
    rw [List.replicate_succ, List.flatten_cons, ih, List.replicate_succ, List.map_cons]
    rfl
theorem was_new {H H' : Hp} {p : Addr} (s : Same H H') (n : H' p = none) : H p = none := by
  cases e : H p with
  | none => rfl
  | some o =>
    rw [s _ _ e] at n
    cases n
section
variable {P : Program} {w : World} {K : PySem.W.Frag} {mg : Str → Option Value} {base : Heap} {f : Addr} {fd : FuncData}
theorem ok_times (F : FnP K "form_times" sTimes f fd) (z_tuple : mg "tuple" = none) : FnOk P w K mg base CX0 1 f fd ["form", "times"] spTimes := by
  have nd := scTimes.nd
  refine F.ok scTimes (fun vs H Q E h => ?_) (fun cdv A outer s H vs Q E hr h => ?_)
  · obtain ⟨fa, t, ns, rfl, _⟩ := h
    rfl
  · obtain ⟨fa, t, ns, rfl, hf, hn, bx, bt, q⟩ := h
    refine ⟨_, PSs.nox (pss_one (ps_ret (pe_callTy call_tuple_of (by rfl) z_tuple (by decide +kernel) (pa_cons
      (pe_lc (own := [("number", 2)]) (g := gName 2) (by rfl) nd (pi_tup (pv 0)) (blkOk_by (N := ["form", "times", "number"]) (sc := defScope sTimes) (own := [("number", 2)]) (by decide +kernel)) (fun _ _ _ _ _ => pg_name (i := 2) nd rfl (Or.inl rfl)) (fun _ _ _ _ _ => pts_nil) (fun _ _ _ _ _ => pe_op op_mulW (pv 2) (pv 1))) pa_nil)))), ?_⟩
    refine ⟨_, rfl, fa, rfl, ⟨_, SqT.of hf⟩, fun D nD => lc_tup (K := K) (a := fa) (xs := ns.map V.int) (fun k H' => Same H H' ∧ H' D = some (.lst (((ns.map (· * t)).take k).map V.int))) ⟨same_new nD, upd_same⟩ (fun k H' _ p => SqT.ext (SqT.of hf) p.1) ?_ ?_⟩
    · rintro k y H' hk ⟨sm, hD⟩
      rw [List.getElem?_map] at hk
      obtain ⟨z, ez, rfl⟩ := Option.map_eq_some_iff.mp hk
      have li : k < ns.length := (List.getElem?_eq_some_iff.mp ez).1
      refine ⟨rfl, ?_⟩
      refine ⟨_, rfl, _, rfl, _, _, rfl, rfl, (bx _ (List.mem_of_getElem? ez)).mulW bt (by decide), _, hD, ?_, fun b o e => ?_, ?_⟩
      · rw [List.length_map]
        exact small1000 (Nat.le_trans (List.length_take_le _ _) (by omega))
      · rw [upd_ne (ne_of_none (H := H) e nD)]
        exact sm _ _ e
      · rw [upd_same, List.take_add_one, List.getElem?_map, ez, List.map_append]
        rfl
    · rintro H' ⟨sm, hD⟩
      have el : (ns.map (· * t)).take (ns.map V.int).length = ns.map (· * t) := List.take_of_length_le (by simp)
      rw [el] at hD
      exact ⟨D, _, rfl, .inl ⟨SqL.of hD, fun l nl => q _ l (sm.trans (same_new nl)) (was_new sm nl) upd_same⟩⟩
theorem ok_plain (F : FnP K "plain_form" sPlain f fd) (z_tuple : mg "tuple" = none) : FnOk P w K mg base CX0 1 f fd ["many", "constant"] spPlain := by
  refine F.ok scPlain (fun vs H Q E h => ?_) (fun cdv A outer s H vs Q E hr h => ?_)
  · obtain ⟨m, c, rfl, _⟩ := h
    rfl
  · obtain ⟨m, c, rfl, hm, q⟩ := h
    refine ⟨_, PSs.nox (pss_one (ps_ret (pe_callTy call_tuple_of (by rfl) z_tuple (by decide +kernel) (pa_cons (pe_op op_cat (pe_lst (pa_cons (pv 1) pa_nil)) (pe_op op_rep (pe_lst (pa_cons pe_int pa_nil)) (pv 0))) pa_nil)))), ?_⟩
    have le1 : m ≤ sizeLine := Nat.le_of_lt (small1000 (by omega))
    refine ⟨_, rfl, (by show 1 ≤ sizeLine; decide), fun l nl => ⟨(by show 1 ≤ sizeLine; decide), fun i ni => ⟨_, rfl, i, (m : Int), _, rfl, rfl, upd_same, by omega, by omega, (by show 1 * m ≤ sizeLine; omega), fun r nr => ?_⟩⟩⟩
    have e1 : (List.replicate ((m : Int)).toNat [V.int 0]).flatten = (List.replicate m (0 : Int)).map V.int := rep_flat m
    rw [e1]
    have s1 := same_new (o := .lst [.int c]) nl
    have s2 := same_new (o := .lst [.int 0]) ni
    have s3 := same_new (o := .lst ((List.replicate m (0 : Int)).map V.int)) nr
    have le2 : 1 + m ≤ sizeLine := Nat.le_of_lt (small1000 (by omega))
    refine ⟨l, r, [.int c], (List.replicate m (0 : Int)).map V.int, rfl, rfl, s3 _ _ (s2 _ _ upd_same), upd_same, (by simp; omega), fun t nt => ?_⟩
    have s4 := same_new (o := .lst ((c :: List.replicate m (0 : Int)).map V.int)) nt
    refine ⟨t, (c :: List.replicate m (0 : Int)).map V.int, rfl, .inl ⟨SqL.of upd_same, fun x nx => q _ x ?_ ?_ upd_same⟩⟩
    · exact (((s1.trans s2).trans s3).trans s4).trans (same_new nx)
    · exact was_new (((s1.trans s2).trans s3).trans s4) nx
end
end K1
set_option Elab.async false
set_option linter.all false
set_option maxRecDepth 100000
set_option maxHeartbeats 4000000
namespace K1
open PySem PySem.Spec PyProof.Rows L2 XV
abbrev sSum : Stmt := top 23
theorem scSum : FnScope ["many", "forms", "place", "form"] ["many", "forms"] (defScope sSum) := ⟨rfl, rfl, rfl, by decide +kernel, rfl, by decide +kernel, by decide +kernel⟩
abbrev scO : Scope := { kind := .function, names := [(Str.ofString ".0", .local), (Str.ofString "place", .cell), (Str.ofString "sum", .globalImplicit), (Str.ofString "forms", .cell)], isGenerator := false, isCoroutine := false }
abbrev scI : Scope := { kind := .function, names := [(Str.ofString ".0", .local), (Str.ofString "form", .local), (Str.ofString "place", .free)], isGenerator := false, isCoroutine := false }
theorem blk_in : BlkOk ["many", "forms", "place", "form"] scO scI [("form", 3)] := blkOk_by (by decide +kernel)
def col (ps : List (Addr × List Int)) (j : Nat) : Int := (ps.map fun p => p.2.getD j 0).sum
def spSum : Sp := fun vs H Q _ => ∃ (m : Nat) (la : Addr) (ps : List (Addr × List Int)), vs = [.int m, .ref la] ∧ H la = some (.lst (ps.map fun p => V.ref p.1)) ∧ m ≤ 100 ∧ ps.length ≤ 100 ∧ (∀ p ∈ ps, H p.1 = some (.tup (p.2.map V.int)) ∧ p.2.length = m + 1) ∧
  ∀ (H' : Hp) (r : Addr), Same H H' → H r = none → H' r = some (.tup (((List.range (m + 1)).map (col ps)).map V.int)) → Q (.ref r) H'
section
variable {P : Program} {w : World} {K : PySem.W.Frag} {mg : Str → Option Value} {base : Heap} {f : Addr} {fd : FuncData}
theorem ok_sum (F : FnP K "sum_of_forms" sSum f fd) (z_tuple : mg "tuple" = none) (z_sum : mg "sum" = none) (z_range : mg "range" = none) : FnOk P w K mg base CX0 1 f fd ["many", "forms"] spSum := by
  have nd := scSum.nd
  refine F.ok scSum (fun vs H Q E h => ?_) (fun cdv A outer s H vs Q E hr h => ?_)
  · obtain ⟨m, la, ps, rfl, _⟩ := h
    rfl
  · obtain ⟨m, la, ps, rfl, hl, hm, hn, hp, q⟩ := h
    refine ⟨_, PSs.nox (pss_one (ps_ret (pe_callTy call_tuple_of (by rfl) z_tuple (by decide +kernel) (pa_cons
      (pe_lc (own := [("place", 2)]) (g := gName 2) (by rfl) nd (pi_range1 (by rfl) z_range (pa_cons (pe_op op_add (pv 0) pe_int) pa_nil)) (blkOk_by (N := ["many", "forms", "place", "form"]) (sc := defScope sSum) (own := [("place", 2)]) (by decide +kernel)) (fun _ _ _ _ _ => pg_name (i := 2) nd rfl (Or.inr rfl)) (fun _ _ _ _ _ => pts_nil)
        (fun _ _ _ _ _ => pe_callB (cr_sumK (K := K) rfl rfl) (by rfl) z_sum (by decide +kernel) (pa_cons
          (pe_lc (own := [("form", 3)]) (g := gName 3) (by rfl) nd (pi_listK (K := K) rfl (pv 1)) blk_in (fun _ _ _ _ _ => pg_name (i := 3) nd rfl (Or.inl rfl)) (fun _ _ _ _ _ => pts_nil)
            (fun _ _ _ _ _ => pe_ix (ix_tupK (K := K) rfl) (pv 3) (pv 2) (fun _ _ => rfl))) pa_nil))) pa_nil)))), ?_⟩
    refine ⟨_, rfl, _, _, rfl, rfl, (m : Int) + 1, rfl, by omega, by omega, fun D nD => ?_⟩
    have eN : ((m : Int) + 1).toNat = m + 1 := by omega
    rw [eN]
    refine lc_range (lo := 0) (n := m + 1) (fun k H' => Same H H' ∧ H' D = some (.lst (((List.range k).map (col ps)).map V.int))) ⟨same_new nD, upd_same⟩ ?_ ?_
    · rintro j H' hj ⟨sm, hD⟩
      rw [Int.zero_add]
      refine ⟨rfl, ?_⟩
      refine ⟨_, rfl, la, rfl, ⟨_, SqL.of (sm _ _ hl)⟩, fun D2 nD2 => lc_list (K := K) (a := la) (xs := ps.map fun p => V.ref p.1) (fun k H2 => Same H' H2 ∧ H2 D2 = some (.lst (((ps.map fun p => p.2.getD j 0).take k).map V.int))) ⟨same_new nD2, upd_same⟩ (fun k H2 _ p => SqL.of (p.1 _ _ (sm _ _ hl))) ?_ ?_⟩
      · rintro k y H2 hk ⟨s2, hD2⟩
        rw [List.getElem?_map] at hk
        obtain ⟨p, ep, rfl⟩ := Option.map_eq_some_iff.mp hk
        obtain ⟨h1, h2⟩ := hp p (List.mem_of_getElem? ep)
        have lk : k < ps.length := (List.getElem?_eq_some_iff.mp ep).1
        have gj : (p.2.map V.int)[j]? = some (.int (p.2.getD j 0)) := by
          have lj : j < p.2.length := by omega
          rw [List.getElem?_map, List.getD_eq_getElem?_getD, List.getElem?_eq_getElem lj]
          rfl
        refine ⟨rfl, ?_⟩
        refine ⟨_, rfl, _, rfl, p.1, _, _, _, rfl, rfl, SqT.of (s2 _ _ (sm _ _ h1)), atI_nat gj, _, hD2, ?_, fun b o e => ?_, ?_⟩
        · rw [List.length_map]
          exact small1000 (Nat.le_trans (List.length_take_le _ _) (by omega))
        · rw [upd_ne (ne_of_none (H := H') e nD2)]
          exact s2 _ _ e
        · rw [upd_same, List.take_add_one, List.getElem?_map, ep, List.map_append]
          rfl
      · rintro H2 ⟨s2, hD2⟩
        have el : (ps.map fun p => p.2.getD j 0).take (ps.map fun p => V.ref p.1).length = ps.map fun p => p.2.getD j 0 := List.take_of_length_le (by simp)
        rw [el] at hD2
        refine ⟨D2, _, rfl, SqL.of hD2, _, s2 _ _ hD, ?_, fun b o e => ?_, ?_⟩
        · rw [List.length_map, List.length_map, List.length_range]
          exact small1000 (by omega)
        · rw [upd_ne (ne_of_none (H := H) e nD)]
          exact s2 _ _ (sm _ _ e)
        · rw [upd_same, List.range_succ, List.map_append, List.map_append]
          rfl
    · rintro H' ⟨sm, hD⟩
      exact ⟨D, _, rfl, .inl ⟨SqL.of hD, fun l nl => q _ l (sm.trans (same_new nl)) (was_new sm nl) upd_same⟩⟩
end
end K1
set_option Elab.async false
set_option linter.all false
set_option maxRecDepth 100000
set_option maxHeartbeats 4000000
namespace K1
open PySem PySem.Spec PyProof.Rows L2 XV
abbrev sWith : Stmt := top 21
theorem scWith : FnScope ["form", "many", "forms", "parts", "number", "part"] ["form", "many", "forms"] (defScope sWith) := ⟨rfl, rfl, rfl, by decide +kernel, rfl, by decide +kernel, by decide +kernel⟩
/-- the part at place j -/
def withV (c : Int) (xs : List Int) (ns : List (List Int)) (j : Nat) : Int := (if j = 0 then c else 0) + (List.zipWith (fun x n => n.getD j 0 * x) xs ns).sum
theorem getD_times (n : List Int) (x : Int) (j : Nat) : (n.map (· * x)).getD j 0 = n.getD j 0 * x := by
  rw [List.getD_eq_getElem?_getD, List.getD_eq_getElem?_getD, List.getElem?_map]
  cases n[j]? with
  | none => simp
  | some y => rfl
theorem getD_plain (c : Int) (m j : Nat) : (c :: List.replicate m (0 : Int)).getD j 0 = if j = 0 then c else 0 := by
  cases j with
  | zero => rfl
  | succ j =>
    rw [List.getD_cons_succ, if_neg (Nat.succ_ne_zero j), List.getD_eq_getElem?_getD]
    by_cases h : j < m
    · rw [List.getElem?_replicate, if_pos h]
      rfl
    · rw [List.getElem?_replicate, if_neg h]
      rfl
def ns (xs : List Int) (ps : List (Addr × List Int)) : List (List Int) := List.zipWith (fun x p => p.2.map (· * x)) xs ps
theorem col_with (u : Addr) (c : Int) (m : Nat) (as : List Addr) (xs : List Int) (ps : List (Addr × List Int)) (h : as.length = (ns xs ps).length) (j : Nat) :
    col ((u, c :: List.replicate m 0) :: as.zip (ns xs ps)) j = withV c xs (ps.map fun p => p.2) j := by
  unfold col withV
  rw [List.map_cons, List.sum_cons, getD_plain]
  have e1 : (as.zip (ns xs ps)).map (fun p => p.2.getD j 0) = (ns xs ps).map fun n => n.getD j 0 := by
    have e : ((as.zip (ns xs ps)).map Prod.snd).map (fun n : List Int => n.getD j 0) = (as.zip (ns xs ps)).map fun p => p.2.getD j 0 := List.map_map
    rw [← e, List.map_snd_zip (by omega)]
  rw [e1]
  unfold ns
  rw [List.map_zipWith, List.zipWith_map_right]
  simp only [getD_times]
def spWith : Sp := fun vs H Q _ => ∃ (fa la : Addr) (m : Nat) (c : Int) (xs : List Int) (ps : List (Addr × List Int)), vs = [.ref fa, .int m, .ref la] ∧ H fa = some (.tup ((c :: xs).map V.int)) ∧ H la = some (.lst (ps.map fun p => V.ref p.1)) ∧ xs.length = ps.length ∧
  xs.length ≤ 90 ∧ m ≤ 90 ∧ (∀ x ∈ xs, Sz 1000 x) ∧ (∀ p ∈ ps, H p.1 = some (.tup (p.2.map V.int)) ∧ p.2.length = m + 1 ∧ ∀ x ∈ p.2, Sz 1000 x) ∧
  ∀ (H' : Hp) (r : Addr), Same H H' → H r = none → H' r = some (.tup (((List.range (m + 1)).map (withV c xs (ps.map fun p => p.2))).map V.int)) → Q (.ref r) H'
theorem far2' {H : Hp} {t D : Addr} {o u : HO} (n : H t = some u) (h : H D = some o) (x : u ≠ o) : t ≠ D := fun e => by
  rw [e, h] at n
  exact x (Option.some.inj n).symm
section
variable {P : Program} {w : World} {K : PySem.W.Frag} {mg : Str → Option Value} {base : Heap} {f : Addr} {fd : FuncData}
theorem ok_with (F : FnP K "form_with" sWith f fd) (o_times : Ok P w K mg base "form_times" 1 ["form", "times"] spTimes) (o_plain : Ok P w K mg base "plain_form" 1 ["many", "constant"] spPlain) (o_sum : Ok P w K mg base "sum_of_forms" 1 ["many", "forms"] spSum)
    (z_zip : mg "zip" = none) : FnOk P w K mg base CX0 2 f fd ["form", "many", "forms"] spWith := by
  have nd := scWith.nd
  refine F.ok scWith (fun vs H Q E h => ?_) (fun cdv A outer s H vs Q E hr h => ?_)
  · obtain ⟨fa, la, m, c, xs, ps, rfl, _⟩ := h
    rfl
  · obtain ⟨fa, la, m, c, xs, ps, rfl, hf, hl, hn, h90, hm, bx, hp, q⟩ := h
    have hr1 : Room 1 (A.deeper (envOfC "form_with" (defScope sWith) s.heap.objs.size f cdv)) := hr
    refine ⟨_, PSs.nox (pss_cons (
      (ps_setLc (i := 3) (own := [("number", 4), ("part", 5)]) (g := gTup K 2 (gCons (gName 4) (gCons (gName 5) gNil))) (by rfl) nd rfl rfl (sw_true rfl rfl rfl (by decide +kernel)) (pi_zipM (by rfl) z_zip (pa_cons (pe_slice sl_tup (pv 0) (po_some pe_int) po_none) (pa_cons (pv 2) pa_nil))) (blkOk_by (N := ["form", "many", "forms", "parts", "number", "part"]) (sc := defScope sWith) (own := [("number", 4), ("part", 5)]) (by decide +kernel))
        (fun _ _ _ _ _ => pg_tup rfl (pgs_cons (pg_name (i := 4) nd rfl (Or.inl rfl)) (pgs_cons (pg_name (i := 5) nd rfl (Or.inl rfl)) pgs_nil))) (fun _ _ _ _ _ => pts_nil)
        (fun _ _ _ _ _ => pe_callO o_times hr1 (by rfl) (pa_cons (pv 5) (pa_cons (pv 4) pa_nil)))))
      (pss_one (ps_ret (pe_callO o_sum hr1 (by rfl) (pa_cons (pv 1) (pa_cons (pe_op op_cat (pe_lst (pa_cons (pe_callO o_plain hr1 (by rfl) (pa_cons (pv 1) (pa_cons (pe_ix ix_tup (pv 0) pe_int (fun _ _ => rfl)) pa_nil))) pa_nil)) (pv 3)) pa_nil)))))), ?_⟩
    refine ⟨_, rfl, _, rfl, fa, _, rfl, SqT.of hf, (fun z => absurd z.1 (by
      rw [show HT.sIx ((c :: xs).map V.int).length 0 (some 1) = min 1 ((c :: xs).map V.int).length from HT.sIx_nat _ _ 1, List.map_cons, List.length_cons]
      omega)), fun sl nsl => ⟨_, rfl, sl, la, _, _, rfl, ⟨SqT.of upd_same, SqL.of (same_new nsl _ _ hl)⟩, fun D nD => ?_⟩⟩
    rw [cut_rest] at nD ⊢
    have s0 := same_new (o := .tup (xs.map V.int)) nsl
    refine lc_zipM (K := K) (a := sl) (b := la) (xs := xs.map V.int) (ys := ps.map fun p => V.ref p.1) (by simp [hn]) (fun k H' => Same (upd H sl (.tup (xs.map V.int))) H' ∧ ∃ as : List Addr, as.length = k ∧ H' D = some (.lst (as.map V.ref)) ∧
      ∀ (i : Nat) (a : Addr) (x : Int) (p : Addr × List Int), as[i]? = some a → xs[i]? = some x → ps[i]? = some p → H' a = some (.tup ((p.2.map (· * x)).map V.int))) ⟨same_new nD, [], rfl, upd_same, fun i a x p z => by simp at z⟩ (fun i H' p => ⟨SqT.of (p.1 _ _ upd_same), SqL.of (p.1 _ _ (s0 _ _ hl))⟩) ?_ ?_
    · rintro i x y T H' hx hy ⟨sm, as, la_, hD, ha⟩ nT
      rw [List.getElem?_map] at hx hy
      obtain ⟨x0, ex, rfl⟩ := Option.map_eq_some_iff.mp hx
      obtain ⟨p0, ep, rfl⟩ := Option.map_eq_some_iff.mp hy
      obtain ⟨h1, h2, h3⟩ := hp p0 (List.mem_of_getElem? ep)
      have sT := same_new (o := .tup [.int x0, .ref p0.1]) nT
      have li : i < xs.length := (List.getElem?_eq_some_iff.mp ex).1
      refine ⟨T, _, rfl, SqT.of upd_same, rfl, _, _, rfl, _, _, rfl, rfl, rfl, ?_⟩
      refine ⟨_, rfl, _, rfl, p0.1, x0, p0.2, rfl, sT _ _ (sm _ _ (s0 _ _ h1)), by omega, h3, bx _ (List.mem_of_getElem? ex), fun H2 r s2 nr hr2 => ?_⟩
      have hD2 := s2 _ _ (sT _ _ hD)
      refine ⟨_, hD2, ?_, fun b o e => ?_, as ++ [r], by simp [la_], ?_, ?_⟩
      · rw [List.length_map, la_]
        exact small1000 (by omega)
      · rw [upd_ne (ne_of_none e nD)]
        exact s2 _ _ (sT _ _ (sm _ _ e))
      · rw [upd_same, List.map_append]
        rfl
      · intro i' a x p e1 e2 e3
        by_cases c1 : i' < as.length
        · rw [List.getElem?_append_left c1] at e1
          have z := s2 _ _ (sT _ _ (ha i' a x p e1 e2 e3))
          rw [upd_ne (far2' z hD2 (by intro w; cases w))]
          exact z
        · rw [List.getElem?_append_right (by omega)] at e1
          have i0 : i' - as.length = 0 := by
            have := (List.getElem?_eq_some_iff.mp e1).1
            simp at this
            exact this
          have e1' : a = r := by
            rw [i0] at e1
            exact (Option.some.inj e1).symm
          have ei : i' = i := by omega
          subst ei e1'
          have ex2 : x = x0 := Option.some.inj (e2.symm.trans ex)
          have ep2 : p = p0 := Option.some.inj (e3.symm.trans ep)
          subst ex2 ep2
          rw [upd_ne (far2' hr2 hD2 (by intro w; cases w))]
          exact hr2
    · rintro H' ⟨sm, as, la_, hD, ha⟩
      rw [List.length_map] at la_
      have s1 := s0.trans sm
      have ln : as.length = (ns xs ps).length := by
        unfold ns
        rw [List.length_zipWith, la_, hn]
        omega
      refine ⟨_, rfl, _, rfl, _, rfl, fa, _, _, _, rfl, rfl, SqT.of (s1 _ _ hf), (show atI ((c :: xs).map V.int) ((0 : Nat) : Int) = some (V.int c) from atI_nat rfl), m, c, rfl, by omega, fun H2 u s2 nu hu => ⟨(by show 1 ≤ sizeLine; decide), fun l nl => ?_⟩⟩
      have sl2 := same_new (o := .lst [.ref u]) nl
      refine ⟨_, rfl, l, D, [.ref u], as.map V.ref, rfl, rfl, upd_same, sl2 _ _ (s2 _ _ hD), (by rw [List.length_map]; exact Nat.le_of_lt (small1000 (by show 1 + as.length ≤ 1000; omega))), fun t nt => ?_⟩
      have st := same_new (o := .lst ([.ref u] ++ as.map V.ref)) nt
      have s5 := (s1.trans s2).trans (sl2.trans st)
      have s25 := s2.trans (sl2.trans st)
      have e0 : ([.ref u] ++ as.map V.ref : List V) = (((u, c :: List.replicate m (0 : Int)) :: as.zip (ns xs ps)).map fun p => V.ref p.1) := by
        have e : ((as.zip (ns xs ps)).map Prod.fst).map V.ref = (as.zip (ns xs ps)).map fun p => V.ref p.1 := List.map_map
        rw [List.map_cons, ← e, List.map_fst_zip (by omega)]
        rfl
      refine ⟨m, t, (u, c :: List.replicate m (0 : Int)) :: as.zip (ns xs ps), rfl, ?_, by omega, ?_, ?_, fun H3 r s3 nr hr3 => ?_⟩
      · rw [upd_same, e0]
      · rw [List.length_cons, List.length_zip]
        omega
      · intro p hp'
        rcases List.mem_cons.mp hp' with rfl | hp'
        · exact ⟨(sl2.trans st) _ _ hu, by simp⟩
        · obtain ⟨i, hi⟩ := List.mem_iff_getElem?.mp hp'
          obtain ⟨e1, e2⟩ := List.getElem?_zip_eq_some.mp hi
          obtain ⟨x, p0, ex, ep, en⟩ := List.getElem?_zipWith_eq_some.mp e2
          obtain ⟨_, h2, _⟩ := hp p0 (List.mem_of_getElem? ep)
          have z := s25 _ _ (ha i p.1 x p0 e1 ex ep)
          rw [← en]
          exact ⟨z, by rw [List.length_map]; exact h2⟩
      · refine q H3 r (s5.trans s3) (was_new s5 nr) ?_
        rw [hr3]
        have ef : (fun j => col ((u, c :: List.replicate m (0 : Int)) :: as.zip (ns xs ps)) j) = withV c xs (ps.map fun p => p.2) := funext fun j => col_with u c m as xs ps ln j
        rw [← ef]
end
end K1
set_option Elab.async false
set_option linter.all false
set_option maxRecDepth 100000
set_option maxHeartbeats 4000000
namespace K1
open PySem PySem.Spec PyProof.Rows L2 XV
/-- whether a value is a form for m unknowns -/
def IsF (H : Hp) (m : Nat) (v : V) (b : Bool) : Prop := (∃ a xs, v = .ref a ∧ H a = some (.tup xs) ∧ xs.length ≤ 100 ∧ (∀ x ∈ xs, Kn H x) ∧ b = (decide (xs.length = m + 1) && xs.all cntV)) ∨
  (((∃ a xs, v = .ref a ∧ H a = some (.lst xs)) ∨ (∃ i, v = .int i) ∨ v = .non ∨ (∃ z, v = .bl z) ∨ ∃ z, v = .str z) ∧ b = false)
/-- whether it is a list of m counts -/
def IsP (H : Hp) (m : Nat) (v : V) (b : Bool) : Prop := (∃ a xs, v = .ref a ∧ H a = some (.lst xs) ∧ xs.length ≤ 100 ∧ (∀ x ∈ xs, Kn H x) ∧ b = (decide (xs.length = m) && xs.all cntV)) ∨
  (((∃ a xs, v = .ref a ∧ H a = some (.tup xs)) ∨ (∃ i, v = .int i) ∨ v = .non ∨ (∃ z, v = .bl z) ∨ ∃ z, v = .str z) ∧ b = false)
theorem IsF.keep {H H' : Hp} (s : Same H H') {m : Nat} {v : V} {b : Bool} (h : IsF H m v b) : IsF H' m v b := by
  rcases h with ⟨a, xs, e, h1, h2, h3, h4⟩ | ⟨h, e⟩
  · exact .inl ⟨a, xs, e, s _ _ h1, h2, fun x hx => (h3 x hx).keep s, h4⟩
  · refine .inr ⟨?_, e⟩
    rcases h with ⟨a, xs, e, h⟩ | h
    · exact .inl ⟨a, xs, e, s _ _ h⟩
    · exact .inr h
theorem IsP.keep {H H' : Hp} (s : Same H H') {m : Nat} {v : V} {b : Bool} (h : IsP H m v b) : IsP H' m v b := by
  rcases h with ⟨a, xs, e, h1, h2, h3, h4⟩ | ⟨h, e⟩
  · exact .inl ⟨a, xs, e, s _ _ h1, h2, fun x hx => (h3 x hx).keep s, h4⟩
  · refine .inr ⟨?_, e⟩
    rcases h with ⟨a, xs, e, h⟩ | h
    · exact .inl ⟨a, xs, e, s _ _ h⟩
    · exact .inr h
def spHasForm : Sp := fun vs H Q _ => ∃ (m : Nat) (v : V) (b : Bool), vs = [.int m, v] ∧ IsF H m v b ∧ ∀ H', Same H H' → Q (.bl b) H'
def spIsPoint : Sp := fun vs H Q _ => ∃ (m : Nat) (v : V) (b : Bool), vs = [.int m, v] ∧ IsP H m v b ∧ ∀ H', Same H H' → Q (.bl b) H'
theorem nat_dec (x y : Nat) : decide (V.int (x : Int) = V.int (y : Int)) = decide (x = y) := by
  by_cases e : x = y
  · rw [e, decide_eq_true rfl, decide_eq_true rfl]
  · rw [decide_eq_false e, decide_eq_false]
    intro z
    have := V.int.inj z
    omega
section
variable {P : Program} {w : World} {K : PySem.W.Frag} {mg : Str → Option Value} {base : Heap} {f : Addr} {fd : FuncData}
theorem ok_hasForm (F : FnP K "has_form" sHasForm f fd) (o_is_count : Ok P w K mg base "is_count" 2 ["value"] spCount) (z_isinstance : mg "isinstance" = none) (z_tuple : mg "tuple" = none) (z_len : mg "len" = none) (z_all : mg "all" = none) :
    FnOk P w K mg base CX0 3 f fd ["many", "item"] spHasForm := by
  have nd := scHasForm.nd
  refine F.ok scHasForm (fun vs H Q E h => ?_) (fun cdv A outer s H vs Q E hr h => ?_)
  · obtain ⟨m, v, b, rfl, _⟩ := h
    rfl
  · obtain ⟨m, v, b, rfl, hF, q⟩ := h
    have hr2 : Room 2 (A.deeper (envOfC "has_form" (defScope sHasForm) s.heap.objs.size f cdv)) := hr
    refine ⟨_, PSs.nox (pss_one (ps_ret (pe_and (pe_callB call_isi (by rfl) z_isinstance (by decide +kernel) (pa_cons (pv 1) (pa_cons (pe_bltn (v := .ty "tuple") (by rfl) z_tuple (by decide +kernel) rfl) pa_nil))) (pe_and (pe_cmpR op_eq (pe_callB call_len (by rfl) z_len boot_len (pa_cons (pv 1) pa_nil)) (pe_op op_add (pv 0) pe_int) (nomark _)) (pe_one (pe_callB (cr_all rfl) (by rfl) z_all (by decide +kernel) (pa_cons
      (pe_lc (own := [("number", 2)]) (g := gName 2) (by rfl) nd (pi_tup (pv 1)) (blkOk_by (N := ["many", "item", "number"]) (sc := defScope sHasForm) (own := [("number", 2)]) (by decide +kernel)) (fun _ _ _ _ _ => pg_name (i := 2) nd rfl (Or.inl rfl)) (fun _ _ _ _ _ => pts_nil) (fun _ _ _ _ _ => pe_callO o_is_count hr2 (by rfl) (pa_cons (pv 2) pa_nil))) pa_nil))))))), ?_⟩
    rcases hF with ⟨a, xs, rfl, hf, h100, kn, rfl⟩ | ⟨h, rfl⟩
    · refine ⟨_, rfl, _, _, _, _, true, rfl, .ty "tuple", .base (.tup hf), kit_ty (by decide +kernel), true, rfl, .ref a, rfl, _, xs.length, rfl, .inr ⟨_, SqT.of hf, rfl⟩, _, rfl, _, _, rfl, rfl, rfl, decide (xs.length = m + 1), congrArg V.bl (nat_dec xs.length (m + 1)), ?_⟩
      by_cases c : xs.length = m + 1
      · rw [decide_eq_true c] at q ⊢
        refine iteT ⟨_, rfl, a, rfl, ⟨_, SqT.of hf⟩, fun D nD => lc_tup (K := K) (a := a) (xs := xs) (fun k H' => Same H H' ∧ H' D = some (.lst (((xs.map cntV).take k).map V.bl))) ⟨same_new nD, upd_same⟩ (fun k H' _ p => SqT.ext (SqT.of hf) p.1) ?_ ?_⟩
        · rintro k y H' hk ⟨sm, hD⟩
          have li : k < xs.length := (List.getElem?_eq_some_iff.mp hk).1
          refine ⟨rfl, ?_⟩
          refine ⟨_, rfl, y, rfl, (kn y (List.mem_of_getElem? hk)).keep sm, _, hD, ?_, fun b o e => ?_, ?_⟩
          · rw [List.length_map]
            exact small1000 (Nat.le_trans (List.length_take_le _ _) (by omega))
          · rw [upd_ne (ne_of_none (H := H) e nD)]
            exact sm _ _ e
          · rw [upd_same, List.take_add_one, List.getElem?_map, hk, List.map_append]
            rfl
        · rintro H' ⟨sm, hD⟩
          have el : (xs.map cntV).take xs.length = xs.map cntV := List.take_of_length_le (by simp)
          rw [el] at hD
          refine ⟨D, _, rfl, SqL.of hD, ?_⟩
          have e : (xs.map cntV).all id = xs.all cntV := by rw [List.all_map]; rfl
          rw [e]
          exact q H' sm
      · rw [decide_eq_false c] at q ⊢
        exact iteF (q H (Same.refl H))
    · rcases h with ⟨a, xs, rfl, h⟩ | ⟨i, rfl⟩ | rfl | ⟨z, rfl⟩ | ⟨z, rfl⟩
      · exact ⟨_, rfl, _, _, _, _, false, rfl, .ty "tuple", .base (.lst h), kit_ty (by decide +kernel), false, rfl, iteF (q H (Same.refl H))⟩
      · exact ⟨_, rfl, _, _, _, _, false, rfl, .ty "tuple", .base (.int i), kit_ty (by decide +kernel), false, rfl, iteF (q H (Same.refl H))⟩
      · exact ⟨_, rfl, _, _, _, _, false, rfl, .ty "tuple", .base .non, kit_ty (by decide +kernel), false, rfl, iteF (q H (Same.refl H))⟩
      · exact ⟨_, rfl, _, _, _, _, false, rfl, .ty "tuple", .base (.bl z), kit_ty (by decide +kernel), false, rfl, iteF (q H (Same.refl H))⟩
      · exact ⟨_, rfl, _, _, _, _, false, rfl, .ty "tuple", .base (.str z), kit_ty (by decide +kernel), false, rfl, iteF (q H (Same.refl H))⟩
end
end K1
set_option Elab.async false
set_option linter.all false
set_option maxRecDepth 100000
set_option maxHeartbeats 4000000
namespace K1
open PySem PySem.Spec PyProof.Rows L2 XV
section
variable {P : Program} {w : World} {K : PySem.W.Frag} {mg : Str → Option Value} {base : Heap} {f : Addr} {fd : FuncData}
theorem ok_isPoint (F : FnP K "is_point" sIsPoint f fd) (o_is_count : Ok P w K mg base "is_count" 2 ["value"] spCount) (z_isinstance : mg "isinstance" = none) (z_list : mg "list" = none) (z_len : mg "len" = none) (z_all : mg "all" = none) :
    FnOk P w K mg base CX0 3 f fd ["many", "value"] spIsPoint := by
  have nd := scIsPoint.nd
  refine F.ok scIsPoint (fun vs H Q E h => ?_) (fun cdv A outer s H vs Q E hr h => ?_)
  · obtain ⟨m, v, b, rfl, _⟩ := h
    rfl
  · obtain ⟨m, v, b, rfl, hF, q⟩ := h
    have hr2 : Room 2 (A.deeper (envOfC "is_point" (defScope sIsPoint) s.heap.objs.size f cdv)) := hr
    refine ⟨_, PSs.nox (pss_one (ps_ret (pe_and (pe_callB call_isi (by rfl) z_isinstance (by decide +kernel) (pa_cons (pv 1) (pa_cons (pe_bltn (v := .ty "list") (by rfl) z_list (by decide +kernel) rfl) pa_nil))) (pe_and (pe_cmpR op_eq (pe_callB call_len (by rfl) z_len boot_len (pa_cons (pv 1) pa_nil)) (pv 0) (nomark _)) (pe_one (pe_callB (cr_all rfl) (by rfl) z_all (by decide +kernel) (pa_cons
      (pe_lc (own := [("number", 2)]) (g := gName 2) (by rfl) nd (pi_list (pv 1)) (blkOk_by (N := ["many", "value", "number"]) (sc := defScope sIsPoint) (own := [("number", 2)]) (by decide +kernel)) (fun _ _ _ _ _ => pg_name (i := 2) nd rfl (Or.inl rfl)) (fun _ _ _ _ _ => pts_nil) (fun _ _ _ _ _ => pe_callO o_is_count hr2 (by rfl) (pa_cons (pv 2) pa_nil))) pa_nil))))))), ?_⟩
    rcases hF with ⟨a, xs, rfl, hf, h100, kn, rfl⟩ | ⟨h, rfl⟩
    · refine ⟨_, rfl, _, _, _, _, true, rfl, .ty "list", .base (.lst hf), kit_ty (by decide +kernel), true, rfl, .ref a, rfl, _, xs.length, rfl, .inl ⟨_, SqL.of hf, rfl⟩, _, rfl, rfl, decide (xs.length = m), congrArg V.bl (nat_dec xs.length m), ?_⟩
      by_cases c : xs.length = m
      · rw [decide_eq_true c] at q ⊢
        refine iteT ⟨_, rfl, a, rfl, ⟨_, SqL.of hf⟩, fun D nD => lc_list (K := K) (a := a) (xs := xs) (fun k H' => Same H H' ∧ H' D = some (.lst (((xs.map cntV).take k).map V.bl))) ⟨same_new nD, upd_same⟩ (fun k H' _ p => SqL.of (p.1 _ _ hf)) ?_ ?_⟩
        · rintro k y H' hk ⟨sm, hD⟩
          have li : k < xs.length := (List.getElem?_eq_some_iff.mp hk).1
          refine ⟨rfl, ?_⟩
          refine ⟨_, rfl, y, rfl, (kn y (List.mem_of_getElem? hk)).keep sm, _, hD, ?_, fun b o e => ?_, ?_⟩
          · rw [List.length_map]
            exact small1000 (Nat.le_trans (List.length_take_le _ _) (by omega))
          · rw [upd_ne (ne_of_none (H := H) e nD)]
            exact sm _ _ e
          · rw [upd_same, List.take_add_one, List.getElem?_map, hk, List.map_append]
            rfl
        · rintro H' ⟨sm, hD⟩
          have el : (xs.map cntV).take xs.length = xs.map cntV := List.take_of_length_le (by simp)
          rw [el] at hD
          refine ⟨D, _, rfl, SqL.of hD, ?_⟩
          have e : (xs.map cntV).all id = xs.all cntV := by rw [List.all_map]; rfl
          rw [e]
          exact q H' sm
      · rw [decide_eq_false c] at q ⊢
        exact iteF (q H (Same.refl H))
    · rcases h with ⟨a, xs, rfl, h⟩ | ⟨i, rfl⟩ | rfl | ⟨z, rfl⟩ | ⟨z, rfl⟩
      · exact ⟨_, rfl, _, _, _, _, false, rfl, .ty "list", .base (.tup h), kit_ty (by decide +kernel), false, rfl, iteF (q H (Same.refl H))⟩
      · exact ⟨_, rfl, _, _, _, _, false, rfl, .ty "list", .base (.int i), kit_ty (by decide +kernel), false, rfl, iteF (q H (Same.refl H))⟩
      · exact ⟨_, rfl, _, _, _, _, false, rfl, .ty "list", .base .non, kit_ty (by decide +kernel), false, rfl, iteF (q H (Same.refl H))⟩
      · exact ⟨_, rfl, _, _, _, _, false, rfl, .ty "list", .base (.bl z), kit_ty (by decide +kernel), false, rfl, iteF (q H (Same.refl H))⟩
      · exact ⟨_, rfl, _, _, _, _, false, rfl, .ty "list", .base (.str z), kit_ty (by decide +kernel), false, rfl, iteF (q H (Same.refl H))⟩
end
end K1
set_option Elab.async false
set_option linter.all false
set_option maxRecDepth 100000
set_option maxHeartbeats 4000000
namespace K1
open PySem PySem.Spec PyProof.Rows L2 XV
abbrev sNumber : Stmt := top 29
abbrev sForm : Stmt := top 30
abbrev sValue : Stmt := top 31
theorem scNumber : FnScope ["_law_generator_here"] ["_law_generator_here"] (defScope sNumber) := ⟨rfl, rfl, rfl, by decide +kernel, rfl, by decide +kernel, by decide +kernel⟩
theorem scForm : FnScope ["_law_generator_here", "_law_many", "_law_at"] ["_law_generator_here", "_law_many"] (defScope sForm) := ⟨rfl, rfl, rfl, by decide +kernel, rfl, by decide +kernel, by decide +kernel⟩
theorem scValue : FnScope ["_law_form_here", "_law_point", "_law_at"] ["_law_form_here", "_law_point"] (defScope sValue) := ⟨rfl, rfl, rfl, by decide +kernel, rfl, by decide +kernel, by decide +kernel⟩
def spNumber : Sp := fun vs H Q _ => ∃ (g : Addr) (n : Nat), vs = [.ref g] ∧ Dr H g n ∧ n ≤ 900000 ∧ ∀ (H' : Hp) (x : Int), Sz 100 x → But H H' g → Dr H' g (n + 40) → Q (.int x) H'
def spForm : Sp := fun vs H Q _ => ∃ (g : Addr) (n m : Nat), vs = [.ref g, .int m] ∧ Dr H g n ∧ n ≤ 500000 ∧ m ≤ 100 ∧ ∀ (H' : Hp) (p : Addr) (xs : List Int), xs.length = m + 1 → (∀ x ∈ xs, Sz 100 x) → But H H' g → Dr H' g (n + 40 * (m + 1)) → H p = none → H' p = some (.tup (xs.map V.int)) → Q (.ref p) H'
def spValue : Sp := fun vs H Q _ => ∃ (fa pa : Addr) (c : Int) (xs ys : List Int), vs = [.ref fa, .ref pa] ∧ H fa = some (.tup ((c :: xs).map V.int)) ∧ H pa = some (.lst (ys.map V.int)) ∧ xs.length = ys.length ∧ xs.length ≤ 100 ∧
  (∀ x ∈ xs, Sz 1000 x) ∧ (∀ y ∈ ys, Sz 1000 y) ∧ ∀ H', Same H H' → Q (.int (c + dot xs ys)) H'
theorem sz_small {x m : Int} {k : Nat} (h0 : 0 ≤ x) (h1 : x < m) (h : m ≤ 2 ^ k) : Sz k x := ⟨h0, Int.lt_of_lt_of_le h1 h⟩
section
variable {P : Program} {w : World} {K : PySem.W.Frag} {mg : Str → Option Value} {base : Heap} {f : Addr} {fd : FuncData}
theorem ok_number (F : FnP K "_law_number" sNumber f fd) (oRand : Ok P w K mg base "_law_random" 2 ["_law_generator_here", "_law_bound"] spRand) : FnOk P w K mg base CX0 3 f fd ["_law_generator_here"] spNumber := by
  refine F.ok scNumber (fun vs H Q E h => ?_) (fun cdv A outer s H vs Q E hr h => ?_)
  · obtain ⟨g, n, rfl, _⟩ := h
    rfl
  · obtain ⟨g, n, rfl, dr, hn, q⟩ := h
    have r2 : Room 2 (A.deeper (envOfC "_law_number" (defScope sNumber) s.heap.objs.size f cdv)) := hr
    refine ⟨_, PSs.nox (pss_one (ps_ret (pe_ifExp (pt_cmpR op_eq (pe_callO oRand r2 (by rfl) (pa_cons (pv 0) (pa_cons pe_int pa_nil))) pe_int (nomark _)) (pe_callO oRand r2 (by rfl) (pa_cons (pv 0) (pa_cons (pe_op op_powW pe_int pe_int) pa_nil))) (pe_callO oRand r2 (by rfl) (pa_cons (pv 0) (pa_cons pe_int pa_nil)))))), ?_⟩
    refine ⟨_, rfl, g, n, 5, rfl, dr, by omega, by decide, by decide, fun H1 r r0 r1 b1 d1 => ⟨rfl, _, rfl, ite2 (fun _ => ?_) (fun _ => ?_)⟩⟩
    · refine ⟨_, rfl, _, _, rfl, rfl, ⟨by decide, by decide +kernel⟩, g, n + 20, _, rfl, d1, by omega, (by show (0 : Int) < 10 ^ 30; decide), (by show (10 : Int) ^ 30 < 10 ^ 100; decide), fun H2 v v0 v1 b2 d2 => ?_⟩
      exact q H2 v (sz_small v0 v1 (by show (10 : Int) ^ 30 ≤ 2 ^ 100; decide)) (b1.trans b2) d2
    · refine ⟨_, rfl, g, n + 20, 5, rfl, d1, by omega, by decide, by decide, fun H2 v v0 v1 b2 d2 => ?_⟩
      exact q H2 v (sz_small v0 v1 (by decide)) (b1.trans b2) d2
theorem ok_form (F : FnP K "_law_form" sForm f fd) (oNumber : Ok P w K mg base "_law_number" 3 ["_law_generator_here"] spNumber) (z_tuple : mg "tuple" = none) (z_range : mg "range" = none) : FnOk P w K mg base CX0 4 f fd ["_law_generator_here", "_law_many"] spForm := by
  have nd := scForm.nd
  refine F.ok scForm (fun vs H Q E h => ?_) (fun cdv A outer s H vs Q E hr h => ?_)
  · obtain ⟨g, n, m, rfl, _⟩ := h
    rfl
  · obtain ⟨g, n, m, rfl, dr, hn, hm, q⟩ := h
    have r3 : Room 3 (A.deeper (envOfC "_law_form" (defScope sForm) s.heap.objs.size f cdv)) := hr
    refine ⟨_, PSs.nox (pss_one (ps_ret (pe_callTy call_tuple_of (by rfl) z_tuple (by decide +kernel) (pa_cons
      (pe_lc (own := [("_law_at", 2)]) (g := gName 2) (by rfl) nd (pi_range1 (by rfl) z_range (pa_cons (pe_op op_add (pv 1) pe_int) pa_nil)) (blkOk_by (N := ["_law_generator_here", "_law_many", "_law_at"]) (sc := defScope sForm) (own := [("_law_at", 2)]) (by decide +kernel)) (fun _ _ _ _ _ => pg_name (i := 2) nd rfl (Or.inl rfl)) (fun _ _ _ _ _ => pts_nil)
        (fun _ _ _ _ _ => pe_callO oNumber r3 (by rfl) (pa_cons (pv 0) pa_nil))) pa_nil)))), ?_⟩
    refine ⟨_, rfl, _, _, rfl, rfl, (m : Int) + 1, rfl, by omega, by omega, fun D nD => ?_⟩
    have eN : ((m : Int) + 1).toNat = m + 1 := by omega
    rw [eN]
    obtain ⟨a0, b0, c0, hg, _⟩ := id dr
    have gD : g ≠ D := fun e => by
      rw [e, nD] at hg
      cases hg
    refine lc_range (lo := 0) (n := m + 1) (fun k H' => But H H' g ∧ Dr H' g (n + 40 * k) ∧ ∃ xs : List Int, xs.length = k ∧ (∀ x ∈ xs, Sz 100 x) ∧ H' D = some (.lst (xs.map V.int))) ⟨But.trans (Same.but (same_new nD)) (But.refl _ _), ?_, [], rfl, (fun x hx => by cases hx), upd_same⟩ ?_ ?_
    · obtain ⟨a, b, c, e, r⟩ := dr
      exact ⟨a, b, c, by rw [upd_ne gD]; exact e, r⟩
    · rintro j H' hj ⟨b1, d1, xs, hx, sx, hD⟩
      refine ⟨rfl, ?_⟩
      refine ⟨_, rfl, g, _, rfl, d1, by omega, fun H2 x zx b2 d2 => ?_⟩
      have hD2 := b2 _ _ (Ne.symm gD) hD
      refine ⟨_, hD2, ?_, fun b o nb e => ?_, ?_, xs ++ [x], by simp [hx], ?_, ?_⟩
      · rw [List.length_map]
        exact small1000 (by omega)
      · rw [upd_ne (ne_of_none (H := H) e nD)]
        exact b2 _ _ nb (b1 _ _ nb e)
      · obtain ⟨a, b, c, e, r⟩ := d2
        refine ⟨a, b, c, by rw [upd_ne gD]; exact e, ?_⟩
        rw [show n + 40 * (j + 1) = n + 40 * j + 40 by omega]
        exact r
      · intro y hy
        rcases List.mem_append.mp hy with hy | hy
        · exact sx y hy
        · rcases List.mem_singleton.mp hy with rfl
          exact zx
      · rw [upd_same, List.map_append]
        rfl
    · rintro H' ⟨b1, d1, xs, hx, sx, hD⟩
      refine ⟨D, _, rfl, .inl ⟨SqL.of hD, fun l nl => ?_⟩⟩
      have s2 := same_new (o := .tup (xs.map V.int)) nl
      obtain ⟨a, b, c, e, r⟩ := d1
      have nH : H l = none := by
        cases z : H l with
        | none => rfl
        | some o =>
          by_cases lg : l = g
          · rw [lg, e] at nl
            cases nl
          · rw [b1 _ _ lg z] at nl
            cases nl
      exact q _ l xs hx sx (b1.trans (Same.but s2)) ⟨a, b, c, s2 _ _ e, r⟩ nH upd_same
theorem ok_value (F : FnP K "_law_value" sValue f fd) (z_sum : mg "sum" = none) (z_range : mg "range" = none) (z_len : mg "len" = none) : FnOk P w K mg base CX0 1 f fd ["_law_form_here", "_law_point"] spValue := by
  have nd := scValue.nd
  refine F.ok scValue (fun vs H Q E h => ?_) (fun cdv A outer s H vs Q E hr h => ?_)
  · obtain ⟨fa, pa, c, xs, ys, rfl, _⟩ := h
    rfl
  · obtain ⟨fa, pa, c, xs, ys, rfl, hf, hp, hl, h100, bx, hy, q⟩ := h
    refine ⟨_, PSs.nox (pss_one (ps_ret (pe_op op_add (pe_ix ix_tup (pv 0) pe_int (fun _ _ => rfl)) (pe_callB (cr_sum rfl) (by rfl) z_sum (by decide +kernel) (pa_cons
      (pe_lc (own := [("_law_at", 2)]) (g := gName 2) (by rfl) nd (pi_range1 (by rfl) z_range (pa_cons (pe_callB call_len (by rfl) z_len boot_len (pa_cons (pv 1) pa_nil)) pa_nil)) (blkOk_by (N := ["_law_form_here", "_law_point", "_law_at"]) (sc := defScope sValue) (own := [("_law_at", 2)]) (by decide +kernel))
        (fun _ _ _ _ _ => pg_name (i := 2) nd rfl (Or.inl rfl)) (fun _ _ _ _ _ => pts_nil)
        (fun _ _ _ _ _ => pe_op op_mulW (pe_ix (ix_tupK (K := K) rfl) (pv 0) (pe_op op_add (pv 2) pe_int) (fun _ _ => rfl)) (pe_ix (ix_listK (K := K) rfl) (pv 1) (pv 2) (fun _ _ => rfl)))) pa_nil))))), ?_⟩
    refine ⟨_, rfl, fa, _, _, _, rfl, rfl, SqT.of hf, (show atI ((c :: xs).map V.int) ((0 : Nat) : Int) = some (V.int c) from atI_nat rfl), _, rfl, _, ys.length, rfl, .inl ⟨_, SqL.of hp, by rw [List.length_map]⟩, (ys.length : Int), rfl, by omega, by omega, fun D nD => ?_⟩
    have eN : ((ys.length : Nat) : Int).toNat = ys.length := by omega
    rw [eN]
    refine lc_range (lo := 0) (n := ys.length) (fun k H' => Same H H' ∧ H' D = some (.lst (((List.zipWith (· * ·) xs ys).take k).map V.int))) ⟨same_new nD, upd_same⟩ ?_ ?_
    · rintro j H' hj ⟨sm, hD⟩
      rw [Int.zero_add]
      have hx : xs[j]? = some xs[j] := List.getElem?_eq_getElem (by omega)
      have hy2 : ys[j]? = some ys[j] := List.getElem?_eq_getElem hj
      have g1 : ((c :: xs).map V.int)[j + 1]? = some (.int xs[j]) := by
        rw [List.map_cons, List.getElem?_cons_succ, List.getElem?_map, hx]
        rfl
      have g2 : (ys.map V.int)[j]? = some (.int ys[j]) := by
        rw [List.getElem?_map, hy2]
        rfl
      refine ⟨rfl, ?_⟩
      refine ⟨_, rfl, _, rfl, _, _, rfl, rfl, fa, _, _, _, rfl, rfl, SqT.of (sm _ _ hf), (show atI ((c :: xs).map V.int) (((j + 1 : Nat)) : Int) = _ from atI_nat g1), _, rfl, _, rfl, pa, _, _, _, rfl, rfl, SqL.of (sm _ _ hp), atI_nat g2, _, _, rfl, rfl,
        (bx _ (List.mem_of_getElem? hx)).mulW (hy _ (List.mem_of_getElem? hy2)) (by decide), _, hD, ?_, fun b o e => ?_, ?_⟩
      · rw [List.length_map]
        exact small1000 (Nat.le_trans (List.length_take_le _ _) (by omega))
      · rw [upd_ne (ne_of_none e nD)]
        exact sm _ _ e
      · rw [upd_same, List.take_add_one, zw_get hx hy2, List.map_append]
        rfl
    · rintro H' ⟨sm, hD⟩
      have el : (List.zipWith (· * ·) xs ys).take ys.length = List.zipWith (· * ·) xs ys := List.take_of_length_le (by simp; exact Nat.min_le_right _ _)
      rw [el] at hD
      exact ⟨D, _, rfl, SqL.of hD, _, _, rfl, rfl, q H' sm⟩
end
end K1
set_option Elab.async false
set_option linter.all false
set_option maxRecDepth 100000
set_option maxHeartbeats 4000000
namespace K1
open PySem PySem.Spec PyProof.Rows L2 XV
/-! the defs that refuse, at arguments that they take -/
abbrev sReqMany : Stmt := top 11
abbrev sIsForm : Stmt := top 14
abbrev sVal : Stmt := top 15
abbrev sIns : Stmt := top 16
abbrev sReqForm : Stmt := top 18
abbrev sReqForms : Stmt := top 19
theorem scReqMany : FnScope ["many"] ["many"] (defScope sReqMany) := ⟨rfl, rfl, rfl, by decide +kernel, rfl, by decide +kernel, by decide +kernel⟩
theorem scIsForm : FnScope ["many", "value"] ["many", "value"] (defScope sIsForm) := ⟨rfl, rfl, rfl, by decide +kernel, rfl, by decide +kernel, by decide +kernel⟩
theorem scVal : FnScope ["form", "point"] ["form", "point"] (defScope sVal) := ⟨rfl, rfl, rfl, by decide +kernel, rfl, by decide +kernel, by decide +kernel⟩
theorem scIns : FnScope ["form", "many", "forms"] ["form", "many", "forms"] (defScope sIns) := ⟨rfl, rfl, rfl, by decide +kernel, rfl, by decide +kernel, by decide +kernel⟩
theorem scReqForm : FnScope ["form", "many"] ["form"] (defScope sReqForm) := ⟨rfl, rfl, rfl, by decide +kernel, rfl, by decide +kernel, by decide +kernel⟩
theorem scReqForms : FnScope ["forms", "many", "how_many", "form"] ["forms", "many", "how_many"] (defScope sReqForms) := ⟨rfl, rfl, rfl, by decide +kernel, rfl, by decide +kernel, by decide +kernel⟩
def spReqMany : Sp := fun vs H Q _ => ∃ m : Nat, vs = [.int m] ∧ m ≤ 3 ∧ Q .non H
def spIsForm : Sp := fun vs H Q _ => ∃ (m : Nat) (v : V) (b : Bool), vs = [.int m, v] ∧ m ≤ 3 ∧ IsF H m v b ∧ ∀ H', Same H H' → Q (.bl b) H'
/-- a tuple of counts, one to four -/
def Fm (H : Hp) (a : Addr) (xs : List Int) : Prop := H a = some (.tup (xs.map V.int)) ∧ (∀ x ∈ xs, 0 ≤ x) ∧ 1 ≤ xs.length ∧ xs.length ≤ 4
def spReqForm : Sp := fun vs H Q _ => ∃ (a : Addr) (xs : List Int), vs = [.ref a] ∧ Fm H a xs ∧ ∀ H', Same H H' → Q .non H'
theorem all_cnt {xs : List Int} (h : ∀ x ∈ xs, 0 ≤ x) : (xs.map V.int).all cntV = true := by
  rw [List.all_map, List.all_eq_true]
  intro x hx
  exact decide_eq_true (h x hx)
theorem fm_is {H : Hp} {a : Addr} {xs : List Int} (h : Fm H a xs) (m : Nat) : IsF H m (.ref a) (decide (xs.length = m + 1)) := by
  obtain ⟨h1, h2, h3, h4⟩ := h
  refine .inl ⟨a, _, rfl, h1, by rw [List.length_map]; omega, fun x hx => ?_, ?_⟩
  · obtain ⟨i, _, rfl⟩ := List.mem_map.mp hx
    exact .int i
  · rw [all_cnt h2, List.length_map, Bool.and_true]
section
variable {P : Program} {w : World} {K : PySem.W.Frag} {mg : Str → Option Value} {base : Heap} {f : Addr} {fd : FuncData}
theorem ok_reqMany (F : FnP K "require_many" sReqMany f fd) (o_below : Ok P w K mg base "is_count_below" 3 ["bound", "value"] spBelow) {tM : Tok} (h_MU : mg "MOST_UNKNOWNS" = some (.int 3 tM)) : FnOk P w K mg base CX0 4 f fd ["many"] spReqMany := by
  refine F.ok scReqMany (fun vs H Q E h => ?_) (fun cdv A outer s H vs Q E hr h => ?_)
  · obtain ⟨m, rfl, _⟩ := h
    rfl
  · obtain ⟨m, rfl, hm, q⟩ := h
    refine ⟨_, PSs.nox (pss_one (ps_if (pt_not (pt_val (pe_callO o_below (hr.mono (by decide)) (by rfl) (pa_cons (pe_op op_add (pe_glob (v := .int 3) (by rfl) h_MU ⟨_, rfl⟩) pe_int) (pa_cons (pv 0) pa_nil))))) (pss_one (ps_never)) pss_nil)), ?_⟩
    have e : belV (3 + 1) (.int m) = true := by
      show (decide (0 ≤ (m : Int)) && decide ((m : Int) < 3 + 1)) = true
      rw [decide_eq_true (by omega), decide_eq_true (by omega)]
      rfl
    exact ⟨_, _, rfl, rfl, _, rfl, _, _, rfl, .int _, true, congrArg V.bl e, iteF q⟩
theorem ok_isForm (F : FnP K "is_form" sIsForm f fd) (o_many : Ok P w K mg base "require_many" 4 ["many"] spReqMany) (o_form : Ok P w K mg base "has_form" 3 ["many", "item"] spHasForm) : FnOk P w K mg base CX0 5 f fd ["many", "value"] spIsForm := by
  refine F.ok scIsForm (fun vs H Q E h => ?_) (fun cdv A outer s H vs Q E hr h => ?_)
  · obtain ⟨m, v, b, rfl, _⟩ := h
    rfl
  · obtain ⟨m, v, b, rfl, hm, hF, q⟩ := h
    refine ⟨_, PSs.nox (pss_cons (ps_expr (pe_callO o_many (hr.mono (by decide)) (by rfl) (pa_cons (pv 0) pa_nil))) (pss_one (ps_ret (pe_callO o_form (hr.mono (by decide)) (by rfl) (pa_cons (pv 0) (pa_cons (pv 1) pa_nil)))))), ?_⟩
    exact ⟨_, rfl, m, rfl, hm, _, rfl, _, rfl, m, v, b, rfl, hF, q⟩
theorem ok_reqForm (F : FnP K "require_form" sReqForm f fd) (o_form : Ok P w K mg base "has_form" 3 ["many", "item"] spHasForm) (z_any : mg "any" = none) (z_range : mg "range" = none) {tM : Tok} (h_MU : mg "MOST_UNKNOWNS" = some (.int 3 tM)) : FnOk P w K mg base CX0 4 f fd ["form"] spReqForm := by
  have nd := scReqForm.nd
  refine F.ok scReqForm (fun vs H Q E h => ?_) (fun cdv A outer s H vs Q E hr h => ?_)
  · obtain ⟨a, xs, rfl, _⟩ := h
    rfl
  · obtain ⟨a, xs, rfl, hF, q⟩ := h
    have r3 : Room 3 (A.deeper (envOfC "require_form" (defScope sReqForm) s.heap.objs.size f cdv)) := hr
    refine ⟨_, PSs.nox (pss_one (ps_if (pt_not (pt_val (pe_callB (cr_any rfl) (by rfl) z_any (by decide +kernel) (pa_cons
      (pe_lc (own := [("many", 1)]) (g := gName 1) (by rfl) nd (pi_range1 (by rfl) z_range (pa_cons (pe_op op_add (pe_glob (v := .int 3) (by rfl) h_MU ⟨_, rfl⟩) pe_int) pa_nil)) (blkOk_by (N := ["form", "many"]) (sc := defScope sReqForm) (own := [("many", 1)]) (by decide +kernel)) (fun _ _ _ _ _ => pg_name (i := 1) nd rfl (Or.inl rfl)) (fun _ _ _ _ _ => pts_nil)
        (fun _ _ _ _ _ => pe_callO o_form r3 (by rfl) (pa_cons (pv 1) (pa_cons (pv 0) pa_nil)))) pa_nil)))) (pss_one (ps_never)) pss_nil)), ?_⟩
    refine ⟨_, _, rfl, rfl, 4, rfl, by decide, by decide, fun D nD => lc_range (lo := 0) (n := 4) (fun k H' => Same H H' ∧ H' D = some (.lst (((List.range k).map fun j => decide (xs.length = j + 1)).map V.bl))) ⟨same_new nD, upd_same⟩ ?_ ?_⟩
    · rintro j H' hj ⟨sm, hD⟩
      rw [Int.zero_add]
      refine ⟨rfl, ?_⟩
      refine ⟨_, rfl, _, rfl, j, .ref a, _, rfl, (fm_is hF j).keep sm, fun H2 s2 => ⟨_, s2 _ _ hD, ?_, fun b o e => ?_, ?_⟩⟩
      · rw [List.length_map, List.length_map, List.length_range]
        exact small1000 (by omega)
      · rw [upd_ne (ne_of_none (H := H) e nD)]
        exact s2 _ _ (sm _ _ e)
      · rw [upd_same, List.range_succ, List.map_append, List.map_append]
        rfl
    · rintro H' ⟨sm, hD⟩
      refine ⟨D, _, rfl, SqL.of hD, true, ?_, iteF (q H' sm)⟩
      obtain ⟨_, _, l1, l4⟩ := hF
      have e : ((List.range 4).map fun j => decide (xs.length = j + 1)).any id = true := by
        rw [List.any_map, List.any_eq_true]
        exact ⟨xs.length - 1, List.mem_range.mpr (by omega), decide_eq_true (by omega)⟩
      exact congrArg V.bl e
def spVal : Sp := fun vs H Q _ => ∃ (fa pa : Addr) (c : Int) (xs ys : List Int), vs = [.ref fa, .ref pa] ∧ H fa = some (.tup ((c :: xs).map V.int)) ∧ H pa = some (.lst (ys.map V.int)) ∧ xs.length = ys.length ∧ xs.length ≤ 3 ∧ Sz 1000 c ∧
  (∀ x ∈ xs, Sz 1000 x) ∧ (∀ y ∈ ys, Sz 1000 y) ∧ ∀ H', Same H H' → Q (.int (c + dot xs ys)) H'
theorem ok_val (F : FnP K "value" sVal f fd) (o_req : Ok P w K mg base "require_form" 4 ["form"] spReqForm) (o_point : Ok P w K mg base "is_point" 3 ["many", "value"] spIsPoint) (o_value : Ok P w K mg base "form_value" 1 ["form", "point"] spFormValue) (z_len : mg "len" = none) : FnOk P w K mg base CX0 5 f fd ["form", "point"] spVal := by
  refine F.ok scVal (fun vs H Q E h => ?_) (fun cdv A outer s H vs Q E hr h => ?_)
  · obtain ⟨fa, pa, c, xs, ys, rfl, _⟩ := h
    rfl
  · obtain ⟨fa, pa, c, xs, ys, rfl, hf, hp, hl, h3, bc, bx, hy, q⟩ := h
    refine ⟨_, PSs.nox (pss_cons (ps_expr (pe_callO o_req (hr.mono (by decide)) (by rfl) (pa_cons (pv 0) pa_nil)))
      (pss_cons (ps_if (pt_not (pt_val (pe_callO o_point (hr.mono (by decide)) (by rfl) (pa_cons (pe_op op_sub (pe_callB call_len (by rfl) z_len boot_len (pa_cons (pv 0) pa_nil)) pe_int) (pa_cons (pv 1) pa_nil))))) (pss_one (ps_never)) pss_nil)
      (pss_one (ps_ret (pe_callO o_value (hr.mono (by decide)) (by rfl) (pa_cons (pv 0) (pa_cons (pv 1) pa_nil))))))), ?_⟩
    have fm : Fm H fa (c :: xs) := ⟨hf, fun x hx => by
      rcases List.mem_cons.mp hx with rfl | hx
      · exact bc.1
      · exact (bx x hx).1, by simp, by simp; omega⟩
    refine ⟨_, rfl, fa, _, rfl, fm, fun H1 s1 => ?_⟩
    refine ⟨_, rfl, _, xs.length + 1, rfl, .inr ⟨_, SqT.of (s1 _ _ hf), by simp⟩, _, _, rfl, rfl, _, rfl, xs.length, .ref pa, true, ?_, .inl ⟨pa, _, rfl, s1 _ _ hp, by simp; omega, fun x hx => ?_, ?_⟩, fun H2 s2 => ⟨true, rfl, iteF ?_⟩⟩
    · have e : (((xs.length + 1 : Nat) : Int) - 1) = (xs.length : Int) := by omega
      show [V.int (((xs.length + 1 : Nat) : Int) - 1), V.ref pa] = _
      rw [e]
    · obtain ⟨i, _, rfl⟩ := List.mem_map.mp hx
      exact .int i
    · rw [all_cnt (fun y h => (hy y h).1), List.length_map, decide_eq_true hl.symm]
      rfl
    · have s := s1.trans s2
      exact ⟨_, rfl, _, rfl, fa, pa, c, xs, ys, rfl, s _ _ hf, s _ _ hp, hl, by omega, bx, hy, fun H3 s3 => q H3 (s.trans s3)⟩
/-- a list of forms for m unknowns, a's and their numbers -/
def Fs (H : Hp) (la : Addr) (m : Nat) (ps : List (Addr × List Int)) : Prop := H la = some (.lst (ps.map fun p => V.ref p.1)) ∧ ∀ p ∈ ps, H p.1 = some (.tup (p.2.map V.int)) ∧ p.2.length = m + 1 ∧ ∀ x ∈ p.2, Sz 1000 x
theorem Fs.keep {H H' : Hp} (s : Same H H') {la : Addr} {m : Nat} {ps : List (Addr × List Int)} (h : Fs H la m ps) : Fs H' la m ps := ⟨s _ _ h.1, fun p hp => ⟨s _ _ (h.2 p hp).1, (h.2 p hp).2⟩⟩
def spReqForms : Sp := fun vs H Q _ => ∃ (la : Addr) (m : Nat) (ps : List (Addr × List Int)), vs = [.ref la, .int m, .int ps.length] ∧ m ≤ 3 ∧ ps.length ≤ 3 ∧ Fs H la m ps ∧ ∀ H', Same H H' → Q .non H'
theorem ok_reqForms (F : FnP K "require_forms" sReqForms f fd) (o_form : Ok P w K mg base "has_form" 3 ["many", "item"] spHasForm) (z_isinstance : mg "isinstance" = none) (z_list : mg "list" = none) (z_len : mg "len" = none) (z_all : mg "all" = none) :
    FnOk P w K mg base CX0 4 f fd ["forms", "many", "how_many"] spReqForms := by
  have nd := scReqForms.nd
  refine F.ok scReqForms (fun vs H Q E h => ?_) (fun cdv A outer s H vs Q E hr h => ?_)
  · obtain ⟨la, m, ps, rfl, _⟩ := h
    rfl
  · obtain ⟨la, m, ps, rfl, hm, hn, hF, q⟩ := h
    have r3 : Room 3 (A.deeper (envOfC "require_forms" (defScope sReqForms) s.heap.objs.size f cdv)) := hr
    refine ⟨_, PSs.nox (pss_cons (ps_if (PW.pt (pw_or (pt_not (pt_val (pe_callB call_isi (by rfl) z_isinstance (by decide +kernel) (pa_cons (pv 0) (pa_cons (pe_bltn (v := .ty "list") (by rfl) z_list (by decide +kernel) rfl) pa_nil))))) (pw_or1 (pt_cmpR op_ne (pe_callB call_len (by rfl) z_len boot_len (pa_cons (pv 0) pa_nil)) (pv 2) (nomark _))))) (pss_one (ps_never)) pss_nil)
      (pss_one (ps_if (pt_not (pt_val (pe_callB (cr_all rfl) (by rfl) z_all (by decide +kernel) (pa_cons
        (pe_lc (own := [("form", 3)]) (g := gName 3) (by rfl) nd (pi_list (pv 0)) (blkOk_by (N := ["forms", "many", "how_many", "form"]) (sc := defScope sReqForms) (own := [("form", 3)]) (by decide +kernel)) (fun _ _ _ _ _ => pg_name (i := 3) nd rfl (Or.inl rfl)) (fun _ _ _ _ _ => pts_nil)
          (fun _ _ _ _ _ => pe_callO o_form r3 (by rfl) (pa_cons (pv 1) (pa_cons (pv 3) pa_nil)))) pa_nil)))) (pss_one (ps_never)) pss_nil))), ?_⟩
    have en : (!decide (V.int ((ps.map fun p => V.ref p.1).length : Int) = V.int (ps.length : Int))) = false := by
      rw [List.length_map, decide_eq_true rfl]
      rfl
    refine ⟨_, rfl, _, _, _, _, true, rfl, .ty "list", .base (.lst hF.1), kit_ty (by decide +kernel), _, rfl, iteF ⟨_, rfl, _, _, rfl, .inl ⟨_, SqL.of hF.1, rfl⟩, _, rfl, rfl, false, congrArg V.bl en, iteF ?_⟩⟩
    refine ⟨_, rfl, la, rfl, ⟨_, SqL.of hF.1⟩, fun D nD => lc_list (K := K) (a := la) (xs := ps.map fun p => V.ref p.1) (fun k H' => Same H H' ∧ H' D = some (.lst (((List.replicate k true)).map V.bl))) ⟨same_new nD, upd_same⟩ (fun k H' _ p => SqL.of (p.1 _ _ hF.1)) ?_ ?_⟩
    · rintro j y H' hj ⟨sm, hD⟩
      rw [List.getElem?_map] at hj
      obtain ⟨p, ep, rfl⟩ := Option.map_eq_some_iff.mp hj
      have lj : j < ps.length := (List.getElem?_eq_some_iff.mp ep).1
      obtain ⟨h1, h2, h3⟩ := hF.2 p (List.mem_of_getElem? ep)
      refine ⟨rfl, ?_⟩
      refine ⟨_, rfl, _, rfl, m, .ref p.1, true, rfl, .inl ⟨p.1, _, rfl, sm _ _ h1, by rw [List.length_map]; omega, fun x hx => ?_, ?_⟩, fun H2 s2 => ⟨_, s2 _ _ hD, ?_, fun b o e => ?_, ?_⟩⟩
      · obtain ⟨i, _, rfl⟩ := List.mem_map.mp hx
        exact .int i
      · rw [all_cnt (fun x hx => (h3 x hx).1), List.length_map, decide_eq_true h2]
        rfl
      · rw [List.length_map, List.length_replicate]
        exact small1000 (by omega)
      · rw [upd_ne (ne_of_none (H := H) e nD)]
        exact s2 _ _ (sm _ _ e)
      · rw [upd_same, List.replicate_succ', List.map_append]
        rfl
    · rintro H' ⟨sm, hD⟩
      refine ⟨D, _, rfl, SqL.of hD, true, ?_, iteF (q H' sm)⟩
      exact congrArg V.bl (by rw [List.all_replicate]; simp)
def spIns : Sp := fun vs H Q _ => ∃ (fa la : Addr) (m : Nat) (c : Int) (xs : List Int) (ps : List (Addr × List Int)), vs = [.ref fa, .int m, .ref la] ∧ H fa = some (.tup ((c :: xs).map V.int)) ∧ m ≤ 3 ∧ xs.length = ps.length ∧ xs.length ≤ 3 ∧ Sz 1000 c ∧ (∀ x ∈ xs, Sz 1000 x) ∧ Fs H la m ps ∧
  ∀ (H' : Hp) (r : Addr), Same H H' → H r = none → H' r = some (.tup (((List.range (m + 1)).map (withV c xs (ps.map fun p => p.2))).map V.int)) → Q (.ref r) H'
theorem ok_ins (F : FnP K "inserted" sIns f fd) (o_req : Ok P w K mg base "require_form" 4 ["form"] spReqForm) (o_many : Ok P w K mg base "require_many" 4 ["many"] spReqMany) (o_forms : Ok P w K mg base "require_forms" 4 ["forms", "many", "how_many"] spReqForms) (o_with : Ok P w K mg base "form_with" 2 ["form", "many", "forms"] spWith)
    (z_len : mg "len" = none) : FnOk P w K mg base CX0 5 f fd ["form", "many", "forms"] spIns := by
  refine F.ok scIns (fun vs H Q E h => ?_) (fun cdv A outer s H vs Q E hr h => ?_)
  · obtain ⟨fa, la, m, c, xs, ps, rfl, _⟩ := h
    rfl
  · obtain ⟨fa, la, m, c, xs, ps, rfl, hf, hm, hl, h3, bc, bx, hF, q⟩ := h
    refine ⟨_, PSs.nox (pss_cons (ps_expr (pe_callO o_req (hr.mono (by decide)) (by rfl) (pa_cons (pv 0) pa_nil)))
      (pss_cons (ps_expr (pe_callO o_many (hr.mono (by decide)) (by rfl) (pa_cons (pv 1) pa_nil)))
      (pss_cons (ps_expr (pe_callO o_forms (hr.mono (by decide)) (by rfl) (pa_cons (pv 2) (pa_cons (pv 1) (pa_cons (pe_op op_sub (pe_callB call_len (by rfl) z_len boot_len (pa_cons (pv 0) pa_nil)) pe_int) pa_nil)))))
      (pss_one (ps_ret (pe_callO o_with (hr.mono (by decide)) (by rfl) (pa_cons (pv 0) (pa_cons (pv 1) (pa_cons (pv 2) pa_nil))))))))), ?_⟩
    have fm : Fm H fa (c :: xs) := ⟨hf, fun x hx => by
      rcases List.mem_cons.mp hx with rfl | hx
      · exact bc.1
      · exact (bx x hx).1, by simp, by simp; omega⟩
    refine ⟨_, rfl, fa, _, rfl, fm, fun H1 s1 => ⟨_, rfl, m, rfl, hm, ?_⟩⟩
    refine ⟨_, rfl, _, rfl, _, rfl, _, xs.length + 1, rfl, .inr ⟨_, SqT.of (s1 _ _ hf), by simp⟩, _, _, rfl, rfl, la, m, ps, ?_, hm, by omega, hF.keep s1, fun H2 s2 => ?_⟩
    · show [V.ref la, V.int m, V.int (((xs.length + 1 : Nat) : Int) - 1)] = _
      have e : (((xs.length + 1 : Nat) : Int) - 1) = (ps.length : Int) := by omega
      rw [e]
    · have s := s1.trans s2
      have hF2 := hF.keep s
      exact ⟨_, rfl, _, rfl, _, rfl, fa, la, m, c, xs, ps, rfl, s _ _ hf, hF2.1, hl, by omega, by omega, bx, hF2.2, fun H3 r s3 nr hr3 => q H3 r (s.trans s3) (was_new s nr) hr3⟩
end
end K1
set_option Elab.async false
set_option linter.all false
set_option maxRecDepth 100000
set_option maxHeartbeats 4000000
/-! Defs that are called where no repr is under way: what is around them has no guards. -/
namespace XV
open PySem PySem.Spec PyProof.Rows L2
structure FnG (P : Program) (w : World) (K : PySem.W.Frag) (mg : Str → Option Value) (base : Heap) (Z : CXT) (k : Nat) (f : Addr) (fd : FuncData) (ps : List Str) (sp : Sp) : Prop where
  gl : ∀ l H Q E, sp l H Q E → l.length = ps.length
  go : ∀ (A : Around) (o : List Env) (s : Shared) (H : Hp) (ar : Args) (us : List Value) (l : List V) (Q : VK) (E : XK), A.guards = some [] → Room k A → Env0 P w K mg base A o s H → BindsTo s fd ar (ps.zip us) → Vals l us → sp l H Q E →
    codeAny (model P w) A (.call (.ref f) ar) (CR Z o P w H s Q E) s
theorem FnG.of {P : Program} {w : World} {K : PySem.W.Frag} {mg : Str → Option Value} {base : Heap} {Z : CXT} {k : Nat} {f : Addr} {fd : FuncData} {ps : List Str} {sp : Sp} (F : FnOk P w K mg base Z k f fd ps sp) : FnG P w K mg base Z k f fd ps sp :=
  ⟨F.len, fun A o s H ar us l Q E _ => F.run A o s H ar us l Q E⟩
section
variable {P : Program} {w : World} {K : PySem.W.Frag} {mg : Str → Option Value} {base : Heap} {x qual : Str} {params : Arguments} {body : List Stmt} {scope : Scope} {dvs : List V} {kws : List (Str × V)} {f : Addr} {fd : FuncData}
/-- a def by its body, where nothing guards -/
theorem okG {Z : CXT} {N ps : List Str} {k : Nat} {sp : Sp} (F : FunD K x qual params body scope dvs kws f fd) (S : FnScope N ps scope) (gl : ∀ l H Q E, sp l H Q E → l.length = ps.length)
    (bd : ∀ (cdv : Value) (A : Around) (o : List Env) (s : Shared) (H : Hp) (l : List V) (Q : VK) (E : XK), (A.deeper (envOfC qual scope s.heap.objs.size f cdv)).guards = some [] → Room k (A.deeper (envOfC qual scope s.heap.objs.size f cdv)) → sp l H Q E →
      ∃ t, PSs (cxOf Z P w K mg base N qual scope f cdv A o s H E) body t ∧ t { nx := fun _ H' => Q .non H', rt := Q } (start N l) H) : FnG P w K mg base Z (k + 1) f fd ps sp := by
  obtain ⟨oc, od, dV, kV, doc, pm, an, cdv, ct, osl, rfl, lk, hcd, _, _⟩ := F.ex
  refine ⟨gl, fun A o s H ar us l Q E ag hr e0 hb r hs => ?_⟩
  have hlen := gl _ _ _ _ hs
  have inK : K.In s.heap := e0.mod.kin.keeps fun b ob e => (e0.bs b ob e).1
  have nol : s.heap.NoLimit := e0.mod.nolimit.keeps fun b ob e => (e0.bs b ob e).1
  have kinds : ∀ y ∈ ps.zip us, scope.names.lookup y.1 = some .local ∨ (scope.names.lookup y.1 = some .cell ∧ ((cellsFrom (s.heap.objs.size + 1) scope.names []).lookup y.1).isSome = true) := by
    rintro ⟨n, v⟩ hy
    exact (S.par n (List.of_mem_zip hy).1).imp id fun q => ⟨q, PySem.W.cellsFrom_some _ _ _ (.inl q)⟩
  refine codeAny_call_function hr.depth (inK _ _ lk) rfl S.co S.gen rfl (PySem.W.codeRec_of inK hcd) (hb _ _ _ _ ?_)
  refine wpAny_newFunctionEnv_cells S.kind kinds fun env he s1 xx => ?_
  subst he
  refine ⟨nol.keeps xx.toInCall.keep, codeAny_func ?_⟩
  obtain ⟨t, ht, hq⟩ := bd cdv A o s H l Q E (show A.guards = some [] from ag) (hr.deeper _) hs
  have J0 := inv_start (CX := Z) (E := E) S hr.hd e0 hlen r xx
  refine wpAny_mono (ht.run [] s1 (start N l) H _ J0 hq) (fun fl s' z => ?_) fun e s' z => z
  have done : ∀ {τ : L2.St} {H' : Hp} {v : V} {u : Value}, Inv (cxOf Z P w K mg base N qual scope f cdv A o s H E) [] τ H' s' → RelV v u → Q v H' → CE o P w H s Q u s' := fun J rv q => ⟨_, _, J.os, J.bare, J.base, J.hok, rv, q⟩
  cases fl with
  | next =>
    obtain ⟨τ, H', J, q⟩ := z
    exact done (v := V.non) (u := Value.none) J rfl q
  | ret u =>
    obtain ⟨v, τ, H', J, rv, q⟩ := z
    exact done J rv q
  | brk =>
    obtain ⟨_, _, _, q⟩ := z
    exact q.elim
  | cont =>
    obtain ⟨_, _, _, q⟩ := z
    exact q.elim
end
/-- the module's name x is a def that keeps sp where nothing guards -/
structure OkG (P : Program) (w : World) (K : PySem.W.Frag) (mg : Str → Option Value) (base : Heap) (x : Str) (k : Nat) (ps : List Str) (sp : Sp) : Prop where
  ex : ∃ f fd, FnG P w K mg base CX0 k f fd ps sp ∧ mg x = some (.ref f) ∧ PySem.W.keepIn K (.ref f) = true ∧ Binds K fd ps []
section
variable {X : Cx} {k : Nat} {f : Addr} {fd : FuncData} {ps : List Str} {sp : Sp} {x : Str} {e : Expr} {es : List Expr} {t : TA} {p pos : Pos}
theorem run_g {pins : List (Addr × Obj)} {σ : L2.St} {H : Hp} {s : Shared} {Q : VK} {us : List Value} {l : List V} (F : FnG X.prog X.w X.K X.mg X.base CX0 k f fd ps sp) (ag : X.A.guards = some []) (hr : Room k X.A) (hb : Binds X.K fd ps [])
    (I : Inv X pins σ H s) (r : Vals l us) (h : sp l H Q E0) : wpAny (model X.prog X.w) X.A (call (.ref f) us) (EP X pins σ Q) X.xe s := by
  have hl : us.length = ps.length := r.length ▸ F.gl _ _ _ _ h
  have b := hb s us I.kIn (by rw [List.append_nil]; exact hl)
  rw [List.append_nil] at b
  refine wpAny_call (codeAny_mono (F.go X.A X.stack s H ⟨us, []⟩ us l Q E0 ag hr I.env0 b r h) fun r' s' hq => ?_)
  cases r' with
  | error er => exact hq.elim
  | ok fl => cases fl with
    | ret u => exact I.after hq
    | next => exact hq.elim
    | brk => exact hq.elim
    | cont => exact hq.elim
theorem pe_callG (o : OkG X.prog X.w X.K X.mg X.base x k ps sp) (ag : X.A.guards = some []) (hr : Room k X.A) (hg : Gl X x) (ha : PA X (e :: es) t) (hdb : (x == ("__debug__" : Str)) = false := by decide)
    (he : starEach (e :: es) X.env = (false, eval e X.env) :: starEach es X.env := by rfl) (hpl : (backTo pos (starEach es X.env)).any (·.1) = false := by rfl) :
    PE X (.Call (.Name x p) (e :: es) [] pos) (fun σ H Q => t σ H fun l H1 => sp l H1 Q E0) := by
  obtain ⟨f, fd, F, hm, hk, b⟩ := o.ex
  refine ⟨fun pins s σ H Q I h => ?_⟩
  refine wpAny_Call_Name_kw (ld_glob I hg hm ?_ hdb)
  refine PySem.W.callWith_K (h₀ := X.base) I.ok.mod.kin hk (thn (ha.run pos pins s σ H _ I h) fun us s1 z => ?_) he hpl
  obtain ⟨l, H1, I1, r, q⟩ := z
  exact ⟨I1.kIn, run_g F ag hr b I1 r q⟩
theorem pe_callG0 (o : OkG X.prog X.w X.K X.mg X.base x k ps sp) (ag : X.A.guards = some []) (hr : Room k X.A) (hg : Gl X x) (hdb : (x == ("__debug__" : Str)) = false := by decide) :
    PE X (.Call (.Name x p) [] [] pos) (fun σ H Q => sp [] H Q E0) := by
  obtain ⟨f, fd, F, hm, hk, b⟩ := o.ex
  refine ⟨fun pins s σ H Q I h => ?_⟩
  refine wpAny_Call_Name_kw (ld_glob I hg hm ?_ hdb)
  exact PySem.W.callWith_K0 I.kIn hk (run_g (us := []) F ag hr b I .nil h)
end
theorem OkG.mk' {P : Program} {w : World} {K : PySem.W.Frag} {mg : Str → Option Value} {base : Heap} {x : Str} {k : Nat} {ps : List Str} {sp : Sp} {body : List Stmt} {params : Arguments} {scope : Scope} {f : Addr} {fd : FuncData}
    (F : FunD K x x params body scope [] [] f fd) (g : mg x = some (.ref f)) (b : ∀ (kV doc pm : Value) (an : Option Addr) (cdv ct : Value) (us : List Value), us.length = ps.length → bindArgs (PySem.W.fnOf x x params body scope .none kV doc pm an cdv ct) ⟨us, []⟩ = pure (ps.zip us))
    (ok : FnG P w K mg base CX0 k f fd ps sp) : OkG P w K mg base x k ps sp := ⟨f, fd, ok, g, F.kp, F.bindsN b⟩
end XV
set_option Elab.async false
set_option linter.all false
set_option maxRecDepth 100000
set_option maxHeartbeats 4000000
/-! The end of a law whose def is told of where nothing guards. -/
namespace XV
open PySem PySem.Spec PyProof.Rows L2
theorem law_g {P : Program} {w : World} {K : PySem.W.Frag} {mg mb : Str → Option Value} {k : Nat} {fa a : Addr} {fd : FuncData} {x : Str} {sp : Sp} {s : Shared} {us : List Value} {ns : List Int}
    (KX : K.In s.heap) (gn : s.heap.Ns mainGlobals mg) (bn : s.heap.Ns builtinsNs mb) (bb : ∀ y : Str, y ≠ "__name__" → mb y = bootBuiltins y) (nl : s.heap.NoLimit) (g0 : s.gens = #[])
    (ha : s.heap.get? a = some { cls := .type "list", data := .seq us.toArray }) (hi : IntsAre us ns) (hl : ns.length ≤ sizeLine) (hr : Room k callerA)
    (F : ∀ base : Heap, K.In base → base.Ns mainGlobals mg → FnG P w K mg base CX0 k fa fd [x] sp) (hb : ∀ (s' : Shared) (u : Value), BindsTo s' fd ⟨[u], []⟩ [(x, u)])
    (hsp : ∀ H : Hp, Only H → SqL K H a (ns.map V.int) → sp [.ref a] H (fun v _ => v = .bl true) fun _ _ _ => False) :
    codeAny (model P w) callerA (.call (.ref fa) ⟨[.ref a], []⟩) (fun r s' => r = .ok (.ret (.bool true)) ∧ OldK s.heap s'.heap ∧ s'.os = s.os ∧ AllBare s'.gens) s := by
  have rv := vals_ints hi
  have len := hi.length
  -- H tells of the script alone, or of nothing
  have main : ∀ H : Hp, Only H → SqL K H a (ns.map V.int) → HOk P w H s.heap → (∀ b, H b ≠ none → b = a) → (H a ≠ none → K.lookup a = none) →
      codeAny (model P w) callerA (.call (.ref fa) ⟨[.ref a], []⟩) (fun r s' => r = .ok (.ret (.bool true)) ∧ OldK s.heap s'.heap ∧ s'.os = s.os ∧ AllBare s'.gens) s := by
    intro H only told ok alone notK
    have part : ∀ {b : Addr} {o : Obj}, s.heap.get? b = some o → H b = none → (hidT s.heap H).get? b = some o := fun e n => hidT_get e n
    have dictN : ∀ {b : Addr} {o : Obj} {es : Array DictEntry} {ep : Nat}, s.heap.get? b = some o → o.data = .dict es ep → H b = none := by
      intro b o es ep e d
      by_cases q : H b = none
      · exact q
      · obtain rfl := alone b q
        rw [ha] at e
        cases e
        exact nomatch (show Data.seq us.toArray _ = Data.dict es ep from d)
    have nsP : ∀ {b : Addr} {m : Str → Option Value}, s.heap.Ns b m → (hidT s.heap H).Ns b m := by
      rintro b m ⟨o, es, ep, e, d, r⟩
      exact ⟨o, es, ep, part e (dictN e d), d, r⟩
    have KP : K.In (hidT s.heap H) := fun b o e => part (KX b o e) (by
      by_cases q : H b = none
      · exact q
      · obtain rfl := alone b q
        rw [notK q] at e
        cases e)
    have md : Mod K mg (hidT s.heap H) := ⟨KP, nsP gn, ⟨mb, nsP bn, bb⟩, nl.imp fun _ z => ⟨nsP z.1, z.2⟩⟩
    have st : Env0 P w K mg (hidT s.heap H) callerA [] s H := { frames := rfl, mod := md, bs := fun b o e => of_hidT e, bsz := Nat.le_of_eq (hidT_size _ _), funs := trivial, frf := fun b z => absurd (show b ∈ ([] : List Addr) from z) (by simp), hok := ok, bare := .of_eq g0 }
    refine codeAny_mono ((F _ KP (nsP gn)).go callerA [] s H ⟨[.ref a], []⟩ [.ref a] [.ref a] _ _ rfl hr st (hb s (.ref a)) (.cons rfl .nil) (hsp H only told)) fun r s' h => ?_
    cases r with
    | error er => exact h.elim
    | ok fl => cases fl with
      | next => exact h.elim
      | brk => exact h.elim
      | cont => exact h.elim
      | ret u =>
        obtain ⟨v, H', os, bare, un, ok', r', q⟩ := h
        obtain rfl : v = .bl true := q
        obtain rfl : u = Value.bool true := r'
        refine ⟨rfl, OldK.of_keep fun b o e => ?_, os, bare⟩
        by_cases q : H b = none
        · exact un.keep b o e q (fun z => nomatch (show b ∈ ([] : List Addr) from z)) (by simp)
        · rcases only b with z | ⟨ob, xs, z⟩
          · exact absurd z q
          · obtain ⟨e1, _⟩ := ok b _ z
            obtain ⟨e2, _⟩ := ok' b _ (un.frzs b ob _ z)
            rw [e] at e1
            cases e1
            exact e2
  cases hk : K.lookup a with
  | some o =>
    obtain rfl := Option.some.inj (ha.symm.trans (KX a o hk))
    exact main (fun _ => none) (fun _ => .inl rfl) (.inr ⟨_, us.toArray, _, hk, rfl, rfl, rfl, by rw [List.size_toArray, len]; exact hl, by simpa using rv⟩) (fun b u z => nomatch (show (none : Option HO) = some u from z)) (fun b z => absurd rfl z) fun z => absurd rfl z
  | none =>
    let o1 : Obj := { cls := .type "list", data := .seq us.toArray }
    have at_ : ∀ b : Addr, b = a → (fun b : Addr => if b = a then some (HO.frz o1 (.lst (ns.map V.int))) else none) b = some (.frz o1 (.lst (ns.map V.int))) := fun b e => if_pos e
    have off : ∀ b : Addr, b ≠ a → (fun b : Addr => if b = a then some (HO.frz o1 (.lst (ns.map V.int))) else none) b = none := fun b e => if_neg e
    refine main (fun b => if b = a then some (.frz o1 (.lst (ns.map V.int))) else none) (fun b => ?_) (.inl (.inr ⟨o1, if_pos rfl⟩)) (fun b u z => ?_) (fun b z => ?_) fun _ => hk
    · by_cases e : b = a
      · exact .inr ⟨_, _, at_ b e⟩
      · exact .inl (off b e)
    · by_cases e : b = a
      · cases (at_ b e).symm.trans z
        subst e
        exact ⟨ha, by rw [List.length_map]; exact hl, us, _, rv, ha⟩
      · cases (off b e).symm.trans z
    · by_cases e : b = a
      · exact e
      · exact absurd (off b e) z
theorem walk_ofG {l : PySem.W.OpenLaw} {n k : Nat} {q : Program} {loose : List Str} {XP : (Str → Option Value) → Heap → Prop} {YP : World → Heap → Prop} {d : DefRec} {x : Str}
    (hn : l.most = some n) (hz : n ≤ sizeLine) (hd : d.params.defaults = []) (hr : Room k callerA)
    (F : ∀ (w : World) (mg : Str → Option Value) (fa : Addr) (h : Heap), YP w h → h.Ns mainGlobals mg → mg d.name = some (.ref fa) →
      ∃ (K : PySem.W.Frag) (fd : FuncData) (sp : Sp), K.In h ∧ (∀ (s : Shared) (u : Value), BindsTo s fd ⟨[u], []⟩ [(x, u)]) ∧
        (∀ (H : Hp) (a : Addr) (ns : List Int), ns.length ≤ n → Only H → SqL K H a (ns.map V.int) → sp [.ref a] H (fun v _ => v = .bl true) fun _ _ _ => False) ∧
        ∀ base : Heap, K.In base → base.Ns mainGlobals mg → FnG l.prog w K mg base CX0 k fa fd [x] sp) :
    PySem.W.WalkO q loose XP YP l.row.toRowW d [] (fun f vs => PySem.call f vs) := by
  refine Att.attach_call hn hd fun w s₀ s₁ mg mb fa o pm cd doc a us ns G Y ho hd' hcd hmg hobj hints hlen hg => ?_
  obtain ⟨K, fd, sp, KX, hb, hsp, hF⟩ := F w mg fa _ Y G.T.g hmg
  exact law_g KX G.T.g G.T.b G.T.builtins G.T.nolimit hg hobj hints (Nat.le_trans hlen hz) hr hF hb fun H hO hS => hsp H a ns hlen hO hS
end XV
set_option Elab.async false
set_option linter.all false
set_option maxRecDepth 100000
set_option maxHeartbeats 4000000
/-! An error that an except suite has caught, held in a name behind the suite. -/
namespace XV
open PySem PySem.Spec PyProof.Rows L2
/-- at a: an error of the class cls that was raised and caught, its dict at d -/
def exz (a : Addr) (cls : Value) (d : Option Addr) : HO := .ext fun h => ∃ (oe : Obj) (vs : Array Value), h.get? a = some oe ∧ Zc cls d oe ∧ oe.data = .fields vs
theorem exz_ok {P : Program} {w : World} {H : Hp} {h : Heap} {a : Addr} {cls : Value} {d : Option Addr} {oe : Obj} {vs : Array Value} (e : h.get? a = some oe) (z : Zc cls d oe) (f : oe.data = .fields vs) : ObjOk P w H h a (exz a cls d) :=
  ⟨⟨oe, vs, e, z, f⟩, ⟨oe, e⟩, fun _ _ y k => y.elim fun o y => y.elim fun v y => ⟨o, v, k o y.1, y.2⟩⟩
theorem exz_at {P : Program} {w : World} {H : Hp} {h : Heap} {a : Addr} {cls : Value} {d : Option Addr} (hok : HOk P w H h) (e : H a = some (exz a cls d)) : ∃ (oe : Obj) (vs : Array Value), h.get? a = some oe ∧ Zc cls d oe ∧ oe.data = .fields vs := by
  have x : ObjOk P w H h a (.ext fun h => ∃ (oe : Obj) (vs : Array Value), h.get? a = some oe ∧ Zc cls d oe ∧ oe.data = .fields vs) := hok a _ e
  exact x.1
/-- what is there, new since the entry and not told of, is told of -/
theorem tell {X : Cx} {pins : List (Addr × Obj)} {σ : L2.St} {H : Hp} {s : Shared} {a : Addr} {cls : Value} {d : Option Addr} {oe : Obj} {vs : Array Value} (I : Inv X pins σ H s) (e : s.heap.get? a = some oe) (z : Zc cls d oe) (f : oe.data = .fields vs)
    (na : H a = none) (n0 : X.s_0.heap.get? a = none) (nL : a ≠ X.env.locals) (np : ∀ p ∈ X.pn ++ pins, p.1 ≠ a) : Inv X pins σ (upd H a (exz a cls d)) s := by
  have nc : ∀ x c, X.env.cells.lookup x = some c → c ≠ a := fun x c l q => by
    obtain ⟨v, o, ho, hd⟩ := I.cell x c l
    rw [q, e] at ho
    cases ho
    rw [f] at hd
    cases hd
  refine { ok := I.ok, os := I.os, bare := I.bare, base := ?_, loc := I.loc, cell := I.cell, free := ?_, freeC := fun x c l => ?_, pin := fun p hp => ?_, hok := fun b o q => ?_, len := I.len }
  · refine { keep := I.base.keep, slot := I.base.slot, free := fun b o q n hx => ?_, there := I.base.there, tups := fun b xs q => ?_, frzs := fun b o u q => ?_, tbls := fun b ps q => ?_ }
    · rw [upd_ne (fun y => by rw [y, n0] at q; cases q)]
      exact I.base.free b o q n hx
    · have y := I.base.tups b xs q
      rw [upd_ne (ne_of_none y na)]
      exact y
    · have y := I.base.frzs b o u q
      rw [upd_ne (ne_of_none y na)]
      exact y
    · obtain ⟨m, y⟩ := I.base.tbls b ps q
      exact ⟨m, by rw [upd_ne (ne_of_none y na)]; exact y⟩
  · rw [upd_ne (Ne.symm nL)]
    exact I.free
  · rw [upd_ne (nc x c l)]
    exact I.freeC x c l
  · obtain ⟨p1, p2, p3⟩ := I.pin p hp
    exact ⟨p1, by rw [upd_ne (np p hp)]; exact p2, p3⟩
  · by_cases hb : b = a
    · subst hb
      rw [upd_same] at q
      cases q
      exact exz_ok e z f
    · rw [upd_ne hb] at q
      exact (I.hok b o q).stay (fun c w' _ y => y) (fun c y => by rw [upd_ne (ne_of_none y na)]; exact y) fun c xs y => by
        rw [upd_ne (ne_of_none y na)]
        exact y
/-- the clause's wish: behind its suite the error is told of -/
def wKeep (K : PySem.W.Frag) (c : Value) (i : Nat) (ts : Addr → Value → Option Addr → TS) (Wout : WX) (D : Ends) : WX := fun cls d σ H => ∃ b, PySem.W.exmOne K cls c = some b ∧
  (b = true → ∀ a, H a = none → ts a cls d { nx := fun σ' H' => H' a = none → D.nx (σ'.set i none) (upd H' a (exz a cls d)), rt := fun _ _ => False, bk := fun _ _ => False, ct := fun _ _ => False } (σ.set i (some (.ref a))) H) ∧ (b = false → Wout cls d σ H)
section
variable {X : Cx} {x n : Str} {c : Value} {i : Nat} {body suite : List Stmt} {b₀ : Stmt} {np pos pos' : Pos} {tb : WX → TS} {ts : Addr → Value → Option Addr → TS} {Wout : WX}
theorem ps_try_keep (hs : X.stack = X.env :: X.outer) (hf : X.env.frame = some X.env.locals) (hex : X.ex = []) (nd : X.N.Nodup) (hi : X.N[i]? = some n) (hln : X.env.kindOf n = some .local) (hc : Names X x c) (tk : Takes X Wout)
    (hb : ∀ (W : WX) (pn : List (Addr × Obj)) (xe : Value → Shared → Prop), Takes (X.tr pn xe) W → PassesOwn (model X.prog X.w) X.A X.env xe → PSs (X.tr pn xe) body (tb W))
    (hsu : ∀ (a : Addr) (oe : Obj) (cls : Value) (d : Option Addr) (pn : List (Addr × Obj)), Zc cls d oe → (∃ vs, oe.data = .fields vs) → PSs (X.suite a ((a, oe) :: pn)) (b₀ :: suite) (ts a cls d)) :
    PS X (.Try body [.ExceptHandler (some (.Name x np)) (some n) (b₀ :: suite) pos'] [] [] pos) (fun D σ H => tb (wKeep X.K c i ts Wout D) D σ H) := by
  refine ⟨fun pins s σ H D I h => ?_⟩
  have ok := I.ok
  have fr : X.A.frames = some (X.env :: X.outer) := ok.frames.trans (congrArg some hs)
  have lc : Loc X.env.scope n := .inl hln
  let catch_ : Value → Shared → Prop := fun e s₁ => wpAny (model X.prog X.w) X.A (noteFrame e X.env) (fun _ s₂ => wpAny (model X.prog X.w) X.A (setFlight e none) (fun _ s₃ =>
    wpAny (model X.prog X.w) X.A (handleBy e X.env [.ExceptHandler (some (.Name x np)) (some n) (b₀ :: suite) pos']) (SP X pins D) X.xe s₃) X.xe s₂) X.xe s₁
  refine wpAny_Try_except ?_
  refine wpAny_mono ((hb (wKeep X.K c i ts Wout D) (X.pn ++ pins) catch_ (fun u s' air => ?_) PassesOwn.looking).run [] s σ H D (I.toTry _) h) (fun fl s1 out => ?_) (fun e s1 z => z)
  · obtain ⟨a, B, sI, pins1, σ1, H1, cls, d, rfl, J1, nb, up, sky, na, os, ag, b, known, yes, no⟩ := air
    have J : Inv X pins σ1 H1 sI := J1.ofTry ok
    have skyE : Sky B (X.env :: X.outer) a (Zc cls d) X.env.locals s'.heap := hs ▸ sky
    -- the error is new since the entry
    have nB : B.get? a = none := by
      rcases skyE with q | q | q
      · exact q.2.1
      · exact q.2.1
      · exact q.2.1
    show wpAny (model X.prog X.w) X.A (noteFrame (.ref a) X.env) _ _ _
    refine Sky.land Zc.steady fr hf skyE fun h3 fly3 up3 => ?_
    have J3 : Inv X pins σ1 H1 { s' with heap := h3 } := J.landed nb fly3.1 (up.trans up3) os ag
    obtain ⟨oe3, vs3, e3, z3, f3⟩ := fly3.there
    have nfr : a ∉ frs (X.env :: X.outer) := fun m => by
      obtain ⟨_, o, e, nf⟩ := fly3.2.2.1.mem m
      rw [e3] at e
      cases e
      exact nf _ f3
    have nL : a ≠ X.env.locals := fun q => nfr (List.mem_filterMap.mpr ⟨X.env, List.mem_cons_self, q ▸ hf⟩)
    have nF : a ∉ X.fs := fun m => (List.mem_filterMap.mp m).elim fun y q => nfr (List.mem_filterMap.mpr ⟨y, List.mem_cons_of_mem _ q.1, q.2⟩)
    have nI : sI.heap.get? a = none := by
      cases q : sI.heap.get? a with
      | none => rfl
      | some o =>
        have y := nb a o q (by rw [hs]; exact nfr)
        rw [nB] at y
        cases y
    have n0 : X.s_0.heap.get? a = none := by
      cases q : X.s_0.heap.get? a with
      | none => rfl
      | some o =>
        obtain ⟨o', y⟩ := J.base.there a o q (by rw [hex]; exact fun z => nomatch z)
        rw [nI] at y
        cases y
    have npin : ∀ p ∈ X.pn ++ pins, p.1 ≠ a := fun p hp q => by
      have y := (J.pin p hp).1
      rw [q, nI] at y
      cases y
    have S3 := J3.suite e3 f3 na nL nF
    refine wpAny_handleBy_cons (codeAny_handlers_test ?_) (by intro q; cases q)
    have tyLook : PySem.W.Looks (model X.prog X.w) h3 (typeOf (.ref a)) cls := fun A Q E s k q => wpAny_typeOf_ref (k _ _ e3) (by rw [z3.1]; exact q)
    have match_ := PySem.W.exm_one (M := model X.prog X.w) J3.kIn tyLook known
    have clause : ∀ {Q : Value → Shared → Prop} {E : Value → Shared → Prop}, Q c { s' with heap := h3 } → wpAny (model X.prog X.w) (X.A.mark (some (.ref a))) (eval (.Name x np) X.env) Q E { s' with heap := h3 } := by
      intro Q E q
      obtain ⟨hg, hdb, hm | ⟨hm, hv, hnn⟩⟩ := hc
      · exact ld_glob (X := X.suite a ((a, oe3) :: (X.pn ++ pins))) S3 hg hm q hdb
      · exact ld_blt (X := X.suite a ((a, oe3) :: (X.pn ++ pins))) S3 hg hm hv q hnn hdb
    refine clause (match_.here ?_)
    cases b with
    | false =>
      show wpAny _ X.A (handleBy (.ref a) X.env []) _ _ _
      refine wpAny_handleBy_nil ?_
      obtain ⟨k1, k2, k3, oe, vs, T, oT, ts', he, hz, hd, h1, hr⟩ := id fly3
      unfold PySem.passOn
      refine wpAny_bind (wpAny_field he hd h1 ?_)
      rw [if_neg (show ¬ ((Value.ref T == Value.none) = true) from by simp)]
      have fin : wpAny (model X.prog X.w) X.A (setFlight (.ref a) X.env.frame) (fun _ s4 => wpAny (model X.prog X.w) X.A (throw (.ref a) : Sem Flow) (SP X pins D) X.xe s4) X.xe { s' with heap := h3 } := by
        rw [hf]
        exact HandSPX.setFlight_upZ fly3 fun h4 held4 up4 => wpAny_throw (tk _ _ ⟨a, B, sI, pins, σ1, H1, cls, d, rfl, J, nb, (up.trans up3).trans up4, .inr (.inr (by rw [hs]; exact held4)), na, os, ag, no rfl⟩)
      first
        | exact wpAny_bind (wpAny_pure (wpAny_bind fin))
        | exact wpAny_bind fin
    | true =>
      refine codeAny_handlers_suite_as ?_
      refine HandSPX.lands_againZ fly3 fun h4 fly4 up4 => ?_
      have J4 : Inv X pins σ1 H1 { s' with heap := h4 } := J.landed nb fly4.1 ((up.trans up3).trans up4) os ag
      obtain ⟨oe4, vs4, e4, z4, f4⟩ := fly4.there
      refine store_ok (X := X.suite a ((a, oe4) :: (X.pn ++ pins))) (v := .ref a) (J4.suite e4 f4 na nL nF) nd hi lc rfl (fun s5 S5 => ?_) (.inr hln)
      refine wpAny_mono ((hsu a oe4 cls d (X.pn ++ pins) z4 ⟨_, f4⟩).run [] s5 _ H1 _ S5 (yes rfl a na)) (fun fl s6 out => ?_) (fun _ _ z => z.elim)
      cases fl with
      | next =>
        obtain ⟨σ6, H6, S6, q6⟩ := out
        obtain ⟨p1, p2, _⟩ := S6.pin (a, oe4) (List.mem_append_left _ List.mem_cons_self)
        have T6 := tell (S6.unsuite ok) p1 z4 f4 p2 n0 nL npin
        exact gone_ok T6 nd hi hln fun s7 J7 => ⟨_, _, J7, q6 p2⟩
      | brk =>
        obtain ⟨_, _, _, q6⟩ := out
        exact q6.elim
      | cont =>
        obtain ⟨_, _, _, q6⟩ := out
        exact q6.elim
      | ret u =>
        obtain ⟨_, _, _, _, _, q6⟩ := out
        exact q6.elim
  · cases fl with
    | next => exact out.elim fun σ' z => z.elim fun H' z => wpAny_execs_nil ⟨σ', H', z.1.ofTry ok, z.2⟩
    | brk => exact out.elim fun σ' z => z.elim fun H' z => ⟨σ', H', z.1.ofTry ok, z.2⟩
    | cont => exact out.elim fun σ' z => z.elim fun H' z => ⟨σ', H', z.1.ofTry ok, z.2⟩
    | ret u =>
      obtain ⟨v, σ', H', J', r, q⟩ := out
      exact ⟨v, σ', H', J'.ofTry ok, r, q⟩
end
/-! ### e.f and isinstance(e, C) of such an error -/
section
variable {X : Cx}
theorem pe_zget {e : Expr} {te : TE} {pos : Pos} {n : Str} (he : PE X e te) (hb : attributeBase e n X.env (eval e X.env) = eval e X.env := by rfl) :
    PE X (.Attribute e n pos) (fun σ H Q => te σ H fun x H1 => ∃ a C d fs v, x = .ref a ∧ H1 a = some (exz a (.ref C) (some d)) ∧ H1 d = some (.xd fs) ∧ XF X.K C n ∧ fs.lookup n = some v ∧ Q v H1) := by
  refine ⟨fun pins s σ H Q I h => ?_⟩
  refine attr_of hb (thn (he.run pins s σ H _ I h) fun u s1 hh => ?_)
  obtain ⟨x, H1, I1, rx, a, C, d, fs, v, ex, ea, ed, T, l, q⟩ := hh
  subst ex
  obtain rfl : u = Value.ref a := rx
  obtain ⟨oe, vs, ho, hz, hf⟩ := exz_at I1.hok ea
  have hx : ObjOk X.prog X.w H1 s1.heap d (.xd fs) := I1.hok d _ ed
  obtain ⟨mA, hns, hrel⟩ := hx
  obtain ⟨od, hod, hl⟩ := lookIn_ns hns
  obtain ⟨w1, hw, rw1⟩ := RelO.some_of (v := v) (o := mA n) (by rw [← l]; exact hrel n)
  have J : PySem.W.InstAt s1.heap a oe C (some od) := ⟨ho, hz.1, by unfold PySem.W.notCls; rw [hf] <;> rfl, by rw [hz.2]; exact hod⟩
  exact HandSPX.exc_get I1.kIn J T.xf.ga T.xf.gg T.xf.exC (PySem.W.findObj_own T.xf.hdC T.no rfl (by rw [hl, hw])) (handed_of rw1) ⟨v, H1, I1.tok _, rw1, q⟩
def rIsZ (K : PySem.W.Frag) : List V → Hp → VK → Prop := fun xs H Q => ∃ (a : Addr) (c : V) (D d : Addr) (fs : List (Str × V)) (cv : Value) (b : Bool), xs = [.ref a, c] ∧ H a = some (exz a (.ref D) (some d)) ∧ H d = some (.xd fs) ∧ ExcC K D ∧ (∀ u, RelV c u → u = cv) ∧ PySem.W.kitOne K (.ref D) cv = some b ∧ Q (.bl b) H
theorem call_isZ : CallR X (.builtin "isinstance") (rIsZ X.K) := by
  intro pins s σ H xs us Q I r h
  obtain ⟨a, c, D, d, fs, cv, b, rfl, ea, ed, C, hcv, e, q⟩ := h
  cases r with
  | cons rx rr =>
    cases rr with
    | cons rt rr =>
      cases rr
      cases rx
      obtain rfl := hcv _ rt
      obtain ⟨oe, vs, ho, hz, hf⟩ := exz_at I.hok ea
      have hx : ObjOk X.prog X.w H s.heap d (.xd fs) := I.hok d _ ed
      obtain ⟨mA, hns, _⟩ := hx
      obtain ⟨od, hod, _⟩ := lookIn_ns hns
      have J : PySem.W.InstAt s.heap a oe D (some od) := ⟨ho, hz.1, by unfold PySem.W.notCls; rw [hf] <;> rfl, by rw [hz.2]; exact hod⟩
      exact PySem.W.kia_one (kitErr C) I.kIn J e (fun z => nomatch z) fun tk => ⟨.bl b, H, I.kept (t' := tk) fun _ _ z => z, rfl, q⟩
end
end XV
set_option Elab.async false
set_option linter.all false
set_option maxRecDepth 100000
set_option maxHeartbeats 4000000
/-! repr of data, where nothing guards; written data. -/
namespace XV
open PySem PySem.Spec PyProof.Rows L2
section
variable {X : Cx}
def rRepr (K : PySem.W.Frag) : List V → Hp → VK → Prop := fun xs H Q => ∃ (v : V) (d : PyData), xs = [v] ∧ Dp K H v d ∧ d.showable = true ∧ d.hasDict = false ∧ d.depth ≤ 60 ∧ d.shown.length ≤ sizeLine ∧ Q (.str d.shown) H
theorem call_reprD (ag : X.A.guards = some []) (hu : X.A.units + 64 < cLine) : CallR X (.builtin "repr") (rRepr X.K) := by
  intro pins s σ H xs us Q I r h
  obtain ⟨v, d, rfl, hd, sh, nd, dp, sz, q⟩ := h
  have deep : ∀ a : Addr, ∀ as, Reads s.heap (.ref a) d as → wpAny (model X.prog X.w) X.A (call (.builtin "repr") [.ref a]) (EP X pins σ Q) X.xe s := fun a as rd =>
    repr_of_reads' rd sh (fun z => by rw [nd] at z; cases z) ag (by omega) (fun _ _ e => e) (fun h' u tk k => ⟨.str d.shown, H, I.kept (t' := tk) k, ⟨u, rfl⟩, q⟩) sz
  cases r with
  | cons rv rr =>
    cases rr
    cases hd with
    | non =>
      cases rv
      exact PySem.P.repr_of_none ⟨.str _, H, I.tok _, ⟨_, rfl⟩, q⟩
    | bl b =>
      cases rv
      exact PySem.P.repr_of_bool ⟨.str _, H, I.tok _, ⟨_, rfl⟩, q⟩
    | int i =>
      obtain ⟨t, rfl⟩ := rv
      exact PySem.P.repr_of_int (of_decide_eq_true (by simpa [PyData.showable] using sh)) ⟨.str _, H, I.tok _, ⟨_, rfl⟩, q⟩
    | str x =>
      obtain ⟨t, rfl⟩ := rv
      exact PySem.P.repr_of_str ⟨.str _, H, I.tok _, ⟨_, rfl⟩, q⟩ sz
    | lst hs ha =>
      cases rv
      obtain ⟨as, rd⟩ := Dp.reads I _ _ _ (Dp.lst hs ha) rfl
      exact deep _ as rd
    | tup hs ha =>
      cases rv
      obtain ⟨as, rd⟩ := Dp.reads I _ _ _ (Dp.tup hs ha) rfl
      exact deep _ as rd
end
/-! ### data that is tracked throughout -/
mutual
inductive Da (H : Hp) : V → PyData → Prop
  | non : Da H .non .none
  | bl (b : Bool) : Da H (.bl b) (.bool b)
  | int (i : Int) : Da H (.int i) (.int i)
  | str (x : Str) : Da H (.str x) (.str x)
  | lst {a : Addr} {xs : List V} {ds : List PyData} : H a = some (.lst xs) → DaAll H xs ds → Da H (.ref a) (.list ds)
  | tup {a : Addr} {xs : List V} {ds : List PyData} : H a = some (.tup xs) → DaAll H xs ds → Da H (.ref a) (.tuple ds)
inductive DaAll (H : Hp) : List V → List PyData → Prop
  | nil : DaAll H [] []
  | cons {v : V} {vs : List V} {d : PyData} {ds : List PyData} : Da H v d → DaAll H vs ds → DaAll H (v :: vs) (d :: ds)
end
mutual
theorem Da.keep {H H' : Hp} (s : Same H H') : ∀ {d : PyData} {v : V}, Da H v d → Da H' v d
  | _, _, .non => .non
  | _, _, .bl b => .bl b
  | _, _, .int i => .int i
  | _, _, .str x => .str x
  | _, _, .lst h a => .lst (s _ _ h) (DaAll.keep s a)
  | _, _, .tup h a => .tup (s _ _ h) (DaAll.keep s a)
theorem DaAll.keep {H H' : Hp} (s : Same H H') : ∀ {ds : List PyData} {vs : List V}, DaAll H vs ds → DaAll H' vs ds
  | _, _, .nil => .nil
  | _, _, .cons h r => .cons (Da.keep s h) (DaAll.keep s r)
end
mutual
theorem Da.dp {K : PySem.W.Frag} {H : Hp} : ∀ {d : PyData} {v : V}, Da H v d → Dp K H v d
  | _, _, .non => .non
  | _, _, .bl b => .bl b
  | _, _, .int i => .int i
  | _, _, .str x => .str x
  | _, _, .lst h a => .lst (SqL.of h) (DaAll.dp a)
  | _, _, .tup h a => .tup (SqT.of h) (DaAll.dp a)
theorem DaAll.dp {K : PySem.W.Frag} {H : Hp} : ∀ {ds : List PyData} {vs : List V}, DaAll H vs ds → DpAll K H vs ds
  | _, _, .nil => .nil
  | _, _, .cons h r => .cons (Da.dp h) (DaAll.dp r)
end
theorem DaAll.length {H : Hp} : ∀ {ds : List PyData} {vs : List V}, DaAll H vs ds → vs.length = ds.length
  | _, _, .nil => rfl
  | _, _, .cons _ r => congrArg (· + 1) (DaAll.length r)
theorem DaAll.get {H : Hp} : ∀ {ds : List PyData} {vs : List V} {i : Nat} {v : V}, DaAll H vs ds → vs[i]? = some v → ∃ d, ds[i]? = some d ∧ Da H v d
  | _, _, i, v, .nil, h => by simp at h
  | _, _, 0, v, .cons a r, h => by
    cases h
    exact ⟨_, rfl, a⟩
  | _, _, i + 1, v, .cons a r, h => by
    obtain ⟨d, e, x⟩ := DaAll.get (i := i) r (by simpa using h)
    exact ⟨d, by simpa using e, x⟩
/-! ### written data -/
def litsN (f : Expr → Option PyData) : List Expr → Option (List PyData)
  | [] => some []
  | e :: es => match f e, litsN f es with
    | some d, some ds => some (d :: ds)
    | _, _ => none
def litN : Nat → Expr → Option PyData
  | 0, _ => none
  | n + 1, e => match e with
    | .Constant .none _ _ => some .none
    | .Constant (.bool b) _ _ => some (.bool b)
    | .Constant (.int i) _ _ => some (.int i)
    | .Constant (.str x) _ _ => some (.str x)
    | .UnaryOp .USub (.Constant (.int i) _ _) _ => some (.int (-i))
    | .List es _ => if es.length ≤ 1000 then (litsN (litN n) es).map .list else none
    | .Tuple es _ _ => if es.length ≤ 1000 then (litsN (litN n) es).map .tuple else none
    | _ => none
/-- the reading of written data -/
def tLit (d : PyData) : TE := fun _ H Q => ∀ (v : V) (H' : Hp), Same H H' → Da H' v d → Q v H'
def tLits (ds : List PyData) : TA := fun _ H Q => ∀ (vs : List V) (H' : Hp), Same H H' → DaAll H' vs ds → vs.length = ds.length → Q vs H'
theorem PE.le {X : Cx} {e : Expr} {t t' : TE} (h : PE X e t) (i : ∀ σ H Q, t' σ H Q → t σ H Q) : PE X e t' := ⟨fun pins s σ H Q I z => h.run pins s σ H Q I (i _ _ _ z)⟩
theorem PA.le {X : Cx} {es : List Expr} {t t' : TA} (h : PA X es t) (i : ∀ σ H Q, t' σ H Q → t σ H Q) : PA X es t' := ⟨fun p pins s σ H Q I z => h.run p pins s σ H Q I (i _ _ _ z)⟩
theorem litsN_len {f : Expr → Option PyData} : ∀ (es : List Expr) (ds : List PyData), litsN f es = some ds → ds.length = es.length
  | [], ds, h => by
    cases h
    rfl
  | e :: es, ds, h => by
    unfold litsN at h
    split at h
    · rename_i d ds' h1 h2
      cases h
      rw [List.length_cons, List.length_cons, litsN_len es ds' h2]
    · cases h
theorem lits_ok {X : Cx} {f : Expr → Option PyData} (hf : ∀ e d, f e = some d → PE X e (tLit d)) (hs : ∀ e d es, f e = some d → starEach (e :: es) X.env = (false, eval e X.env) :: starEach es X.env) :
    ∀ (es : List Expr) (ds : List PyData), litsN f es = some ds → PA X es (tLits ds)
  | [], ds, h => by
    cases h
    exact PA.le pa_nil fun σ H Q z => z [] H (fun _ _ e => e) .nil rfl
  | e :: es, ds, h => by
    unfold litsN at h
    split at h
    · rename_i d ds' h1 h2
      cases h
      exact PA.le (pa_cons (hf e d h1) (lits_ok hf hs es ds' h2) (hs e d es h1)) fun σ H Q z v H1 s1 p1 vs H2 s2 p2 l2 => z (v :: vs) H2 (s1.trans s2) (.cons (p1.keep s2) p2) (by rw [List.length_cons, List.length_cons, l2])
    · cases h
theorem lit_star {n : Nat} {e : Expr} {d : PyData} {es : List Expr} {env : Env} (h : litN n e = some d) : starEach (e :: es) env = (false, eval e env) :: starEach es env := by
  cases n with
  | zero => cases h
  | succ n => cases e <;> first | rfl | cases h
theorem lit_ok {X : Cx} : ∀ (n : Nat) (e : Expr) (d : PyData), litN n e = some d → PE X e (tLit d)
  | 0, _, _, h => by cases h
  | n + 1, e, d, h => by
    have small : ∀ m : Nat, m ≤ 1000 → m ≤ sizeLine := fun m hm => by
      rw [sizeLine_eq]
      omega
    unfold litN at h
    split at h
    · cases h
      exact PE.le pe_non fun σ H Q z => z _ H (fun _ _ e => e) .non
    · cases h
      exact PE.le pe_bl fun σ H Q z => z _ H (fun _ _ e => e) (.bl _)
    · cases h
      exact PE.le pe_int fun σ H Q z => z _ H (fun _ _ e => e) (.int _)
    · cases h
      exact PE.le pe_str fun σ H Q z => z _ H (fun _ _ e => e) (.str _)
    · cases h
      exact PE.le (pe_un un_neg pe_int) fun σ H Q z => ⟨_, rfl, z _ H (fun _ _ e => e) (.int _)⟩
    · rename_i es p
      split at h
      · rename_i hl
        cases q : litsN (litN n) es with
        | none =>
          rw [q] at h
          cases h
        | some ds =>
          rw [q] at h
          cases h
          exact PE.le (pe_lst (lits_ok (lit_ok n) (fun _ _ _ => lit_star) es ds q)) fun σ H Q z vs H1 s1 p1 l1 => ⟨by rw [l1, litsN_len _ _ q]; exact small _ hl, fun p np =>
            z _ _ (s1.trans (same_new np)) (.lst (upd_same) (p1.keep (same_new np)))⟩
      · cases h
    · rename_i es k p
      split at h
      · rename_i hl
        cases q : litsN (litN n) es with
        | none =>
          rw [q] at h
          cases h
        | some ds =>
          rw [q] at h
          cases h
          exact PE.le (pe_tup (lits_ok (lit_ok n) (fun _ _ _ => lit_star) es ds q)) fun σ H Q z vs H1 s1 p1 l1 => ⟨by rw [l1, litsN_len _ _ q]; exact small _ hl, fun p np =>
            z _ _ (s1.trans (same_new np)) (.tup (upd_same) (p1.keep (same_new np)))⟩
      · cases h
    · cases h
theorem pe_lit {X : Cx} (n : Nat) {e : Expr} {d : PyData} (h : litN n e = some d) : PE X e (tLit d) := lit_ok n e d h
end XV
set_option Elab.async false
set_option linter.all false
set_option maxRecDepth 100000
set_option maxHeartbeats 4000000
/-! raise C(e), C an error class with one field. -/
namespace XV
open PySem PySem.Spec PyProof.Rows L2
theorem XCls.binds {P : Program} {w : World} {K : PySem.W.Frag} {mg : Str → Option Value} {base : Heap} {nm fld : Str} {C fI : Addr} {fd : FuncData} (T : XCls P w K mg base nm fld C fI fd) : Binds K fd ["self", fld] [] := fun s us X hl => by
  rw [List.append_nil] at hl ⊢
  match us, hl with
  | [x, u], _ => exact T.b1 s x u X
/-- a reading that may be weakened -/
def tMono (te : TE) : TE := fun σ H Q => ∃ q : VK, te σ H q ∧ ∀ v H', q v H' → Q v H'
theorem pe_mono {X : Cx} {e : Expr} {te : TE} (he : PE X e te) : PE X e (tMono te) := ⟨fun pins s σ H Q I h => by
  obtain ⟨q, h, i⟩ := h
  exact thn (he.run pins s σ H q I h) fun u s1 ⟨v, H1, I1, r, z⟩ => ⟨v, H1, I1, r, i v H1 z⟩⟩
section
variable {X : Cx} {nm fld : Str} {C fI : Addr} {fd : FuncData} {e : Expr} {te : TE} {p pos pos2 : Pos}
theorem pmk_x (T : XCls X.prog X.w X.K X.mg X.base nm fld C fI fd) (hr : Room 2 X.A) (hg : Gl X nm) (he : PE X e te) (hdb : (nm == ("__debug__" : Str)) = false := by decide)
    (hs : starEach (e :: []) X.env = (false, eval e X.env) :: starEach [] X.env := by rfl) (hpl : (backTo pos (starEach [] X.env)).any (·.1) = false := by rfl) :
    PMk X (.Call (.Name nm p) [e] [] pos) (fun σ H Q => te σ H fun v H1 => ∀ d, H1 d = none → Q (.ref C) (some d) (upd H1 d (.xd [(fld, v)]))) := by
  have low := pmk_oex (X := X) (p := p) (pos := pos) T.ox T.iC T.tI T.ini hr T.binds .nil pass0 hg T.g (pa_cons (pe_mono he) pa_nil hs) hdb hs hpl
  intro pins s σ H Q I h
  refine low pins s σ H Q I ⟨_, h, fun v H1 q => ⟨(by show 1 ≤ 1000; decide), fun a na => ⟨a, v, rfl, upd_same, fun d nd ne => ⟨rfl, d, [(fld, v)], upd_same, ?_, ?_, ?_⟩⟩⟩⟩
  · rw [upd_ne ne, upd_same]
  · rw [upd_ne ne] at nd
    exact nd
  · rw [upd_ne ne] at nd
    have e1 : upd (del (upd (upd (upd H1 a (exo a C none)) d (exd d [(fld, v)])) a (exo a C (some d))) a) d (.xd [(fld, v)]) = upd H1 d (.xd [(fld, v)]) := by
      funext b
      by_cases q1 : b = d
      · rw [q1, upd_same, upd_same]
      · rw [upd_ne q1, upd_ne q1]
        by_cases q2 : b = a
        · rw [q2, del_same, na]
        · rw [del_ne q2, upd_ne q2, upd_ne q1, upd_ne q2]
    rw [e1]
    exact q d nd
theorem ps_raiseX {W : WX} (hc : X.calm = true) (T : XCls X.prog X.w X.K X.mg X.base nm fld C fI fd) (hr : Room 2 X.A) (tk : Takes X W) (hg : Gl X nm) (he : PE X e te) (hdb : (nm == ("__debug__" : Str)) = false := by decide)
    (hs : starEach (e :: []) X.env = (false, eval e X.env) :: starEach [] X.env := by rfl) (hpl : (backTo pos (starEach [] X.env)).any (·.1) = false := by rfl) :
    PS X (.Raise (some (.Call (.Name nm p) [e] [] pos)) none pos2) (fun _ σ H => te σ H fun v H1 => ∀ d, H1 d = none → W (.ref C) (some d) σ (upd H1 d (.xd [(fld, v)]))) :=
  ps_raise hc tk (pmk_x T hr hg he hdb hs hpl)
end
/-- the module's name x is a def that keeps sp and may raise -/
structure OkX (P : Program) (w : World) (K : PySem.W.Frag) (mg : Str → Option Value) (base : Heap) (x : Str) (k : Nat) (ps : List Str) (sp : Sp) : Prop where
  ex : ∃ f fd, FnOk P w K mg base (L2.CX P w) k f fd ps sp ∧ mg x = some (.ref f) ∧ PySem.W.keepIn K (.ref f) = true ∧ Binds K fd ps []
theorem OkX.mk' {P : Program} {w : World} {K : PySem.W.Frag} {mg : Str → Option Value} {base : Heap} {x : Str} {k : Nat} {ps : List Str} {sp : Sp} {body : List Stmt} {params : Arguments} {scope : Scope} {f : Addr} {fd : FuncData}
    (F : FunD K x x params body scope [] [] f fd) (g : mg x = some (.ref f)) (b : ∀ (kV doc pm : Value) (an : Option Addr) (cdv ct : Value) (us : List Value), us.length = ps.length → bindArgs (PySem.W.fnOf x x params body scope .none kV doc pm an cdv ct) ⟨us, []⟩ = pure (ps.zip us))
    (ok : FnOk P w K mg base (L2.CX P w) k f fd ps sp) : OkX P w K mg base x k ps sp := ⟨f, fd, ok, g, F.kp, F.bindsN b⟩
section
variable {X : Cx} {k : Nat} {ps : List Str} {sp : Sp} {x : Str} {e : Expr} {es : List Expr} {t : TA} {p pos : Pos} {E : XK} {W : WX}
/-- a call within a def that lets out what the callee lets out -/
theorem pe_callX (o : OkX X.prog X.w X.K X.mg X.base x k ps sp) (tk : Takes X fun cls d _ H => E cls d H) (hr : Room k X.A) (hg : Gl X x) (ha : PA X (e :: es) t) (hdb : (x == ("__debug__" : Str)) = false := by decide)
    (he : starEach (e :: es) X.env = (false, eval e X.env) :: starEach es X.env := by rfl) (hpl : (backTo pos (starEach es X.env)).any (·.1) = false := by rfl) :
    PE X (.Call (.Name x p) (e :: es) [] pos) (tCall sp [] E t) := by
  obtain ⟨f, fd, F, hm, hk, b⟩ := o.ex
  exact pe_call F hr hg hm hk b .nil (passes_call tk fun _ _ _ _ h => h) ha hdb he hpl
/-- a call within a try -/
theorem pe_callT (o : OkX X.prog X.w X.K X.mg X.base x k ps sp) (tk : Takes X W) (hr : Room k X.A) (hg : Gl X x) (ha : PA X (e :: es) t) (hdb : (x == ("__debug__" : Str)) = false := by decide)
    (he : starEach (e :: es) X.env = (false, eval e X.env) :: starEach es X.env := by rfl) (hpl : (backTo pos (starEach es X.env)).any (·.1) = false := by rfl) :
    PE X (.Call (.Name x p) (e :: es) [] pos) (tCallS sp (WE W) t) := by
  obtain ⟨f, fd, F, hm, hk, b⟩ := o.ex
  exact pe_callS F hr hg hm hk b (fun σ => passAt tk σ) ha hdb he hpl
end
end XV
set_option Elab.async false
set_option linter.all false
set_option maxRecDepth 100000
set_option maxHeartbeats 4000000
namespace K1
open PySem PySem.Spec PyProof.Rows L2 XV
/-! what the defs refuse -/
def nm1 (i : Nat) : Str := (["InvalidNumber", "InvalidForm", "InvalidPoint", "InvalidList"] : List Str).getD i "LoopError"
abbrev C1 (K : PySem.W.Frag) (i : Nat) : Addr := He.ga K (nm1 i)
structure Cl1 (P : Program) (w : World) (K : PySem.W.Frag) (mg : Str → Option Value) (base : Heap) : Prop where
  x : ∀ i, i < 4 → ∃ fI fd, XCls P w K mg base (nm1 i) "value" (C1 K i) fI fd
  g : ∀ i, i < 5 → mg (nm1 i) = some (.ref (C1 K i))
  e : ∀ i, i < 4 → ExcC K (C1 K i)
  f : ∀ i, i < 4 → XF K (C1 K i) "value"
  kit : ∀ i, i < 4 → ∀ j, j < 4 → PySem.W.kitOne K (.ref (C1 K i)) (.ref (C1 K j)) = some (decide (i = j))
  exm : ∀ i, i < 4 → PySem.W.exmOne K (.ref (C1 K i)) (.ref (C1 K 4)) = some true
/-- the wish: an error of the class at C with the value v -/
def Rz (E : XK) (H : Hp) (C : Addr) (v : V) : Prop := ∀ (H' : Hp) (d : Addr), Same H H' → H' d = none → E (.ref C) (some d) (upd H' d (.xd [("value", v)]))
theorem Rz.at {E : XK} {H H1 : Hp} {C : Addr} {v : V} (h : Rz E H C v) (s : Same H H1) : Rz E H1 C v := fun H' d s1 n => h H' d (s.trans s1) n
/-! ### of data -/
def cntD : PyData → Bool
  | .int i => decide (0 ≤ i)
  | _ => false
def belD (b : Int) : PyData → Bool
  | .int i => decide (0 ≤ i) && decide (i < b)
  | _ => false
def formD (m : Nat) : PyData → Bool
  | .tuple ds => decide (ds.length = m + 1) && ds.all cntD
  | _ => false
def pointD (m : Nat) : PyData → Bool
  | .list ds => decide (ds.length = m) && ds.all cntD
  | _ => false
def shortD : PyData → Bool
  | .tuple ds => decide (ds.length ≤ 100)
  | .list ds => decide (ds.length ≤ 100)
  | _ => true
theorem da_kn {H : Hp} {v : V} {d : PyData} (h : Da H v d) : Kn H v := by
  cases h with
  | non => exact .non
  | bl b => exact .bl b
  | int i => exact .int i
  | str x => exact .str x
  | lst h _ => exact .lst h
  | tup h _ => exact .tup h
theorem da_cnt {H : Hp} {v : V} {d : PyData} (h : Da H v d) : cntV v = cntD d := by cases h <;> rfl
theorem da_bel {H : Hp} {v : V} {d : PyData} (b : Int) (h : Da H v d) : belV b v = belD b d := by cases h <;> rfl
theorem daAll_cnt {H : Hp} : ∀ {ds : List PyData} {vs : List V}, DaAll H vs ds → vs.all cntV = ds.all cntD
  | _, _, .nil => rfl
  | _, _, .cons h r => by rw [List.all_cons, List.all_cons, da_cnt h, daAll_cnt r]
theorem daAll_kn {H : Hp} : ∀ {ds : List PyData} {vs : List V}, DaAll H vs ds → ∀ x ∈ vs, Kn H x
  | _, _, .nil, x, hx => by cases hx
  | _, _, .cons h r, x, hx => by
    rcases List.mem_cons.mp hx with rfl | hx
    · exact da_kn h
    · exact daAll_kn r x hx
theorem da_isF {H : Hp} {v : V} {d : PyData} (m : Nat) (h : Da H v d) (s : shortD d = true) : IsF H m v (formD m d) := by
  cases h with
  | non => exact .inr ⟨.inr (.inr (.inl rfl)), rfl⟩
  | bl b => exact .inr ⟨.inr (.inr (.inr (.inl ⟨b, rfl⟩))), rfl⟩
  | int i => exact .inr ⟨.inr (.inl ⟨i, rfl⟩), rfl⟩
  | str x => exact .inr ⟨.inr (.inr (.inr (.inr ⟨x, rfl⟩))), rfl⟩
  | lst h _ => exact .inr ⟨.inl ⟨_, _, rfl, h⟩, rfl⟩
  | @tup a xs ds h r =>
    have l := r.length
    refine .inl ⟨a, xs, rfl, h, ?_, daAll_kn r, ?_⟩
    · rw [l]
      exact of_decide_eq_true s
    · show (decide (ds.length = m + 1) && ds.all cntD) = _
      rw [l, daAll_cnt r]
theorem da_isP {H : Hp} {v : V} {d : PyData} (m : Nat) (h : Da H v d) (s : shortD d = true) : IsP H m v (pointD m d) := by
  cases h with
  | non => exact .inr ⟨.inr (.inr (.inl rfl)), rfl⟩
  | bl b => exact .inr ⟨.inr (.inr (.inr (.inl ⟨b, rfl⟩))), rfl⟩
  | int i => exact .inr ⟨.inr (.inl ⟨i, rfl⟩), rfl⟩
  | str x => exact .inr ⟨.inr (.inr (.inr (.inr ⟨x, rfl⟩))), rfl⟩
  | tup h _ => exact .inr ⟨.inl ⟨_, _, rfl, h⟩, rfl⟩
  | @lst a xs ds h r =>
    have l := r.length
    refine .inl ⟨a, xs, rfl, h, ?_, daAll_kn r, ?_⟩
    · rw [l]
      exact of_decide_eq_true s
    · show (decide (ds.length = m) && ds.all cntD) = _
      rw [l, daAll_cnt r]
/-! ### the promises -/
def spReqManyX (K : PySem.W.Frag) : Sp := fun vs H Q E => ∃ v : V, vs = [v] ∧ Kn H v ∧ (belV 4 v = true → Q .non H) ∧ (belV 4 v = false → Rz E H (C1 K 0) v)
def spIsFormX (K : PySem.W.Frag) : Sp := fun vs H Q E => ∃ v u : V, vs = [v, u] ∧ Kn H v ∧ belV 4 v = false ∧ Rz E H (C1 K 0) v
/-- whether it is a form for 0 to 3 unknowns -/
def AnyF (H : Hp) (v : V) (b : Bool) : Prop := ∃ bs : Nat → Bool, (∀ m, m < 4 → IsF H m v (bs m)) ∧ b = (List.range 4).any bs
def spReqFormX (K : PySem.W.Frag) : Sp := fun vs H Q E => ∃ (v : V) (b : Bool), vs = [v] ∧ AnyF H v b ∧ (b = true → ∀ H', Same H H' → Q .non H') ∧ (b = false → Rz E H (C1 K 1) v)
section
variable {P : Program} {w : World} {K : PySem.W.Frag} {mg : Str → Option Value} {base : Heap} {f : Addr} {fd : FuncData}
theorem okx_reqMany (F : FnP K "require_many" sReqMany f fd) (Z : Cl1 P w K mg base) (o_below : Ok P w K mg base "is_count_below" 3 ["bound", "value"] spBelow) {tM : Tok} (h_MU : mg "MOST_UNKNOWNS" = some (.int 3 tM)) :
    FnOk P w K mg base (L2.CX P w) 4 f fd ["many"] (spReqManyX K) := by
  obtain ⟨fI, fdI, T⟩ := Z.x 0 (by decide)
  have T : XCls P w K mg base "InvalidNumber" "value" (C1 K 0) fI fdI := T
  refine F.ok scReqMany (fun vs H Q E h => ?_) (fun cdv A outer s H vs Q E hr h => ?_)
  · obtain ⟨m, rfl, _⟩ := h
    rfl
  · obtain ⟨v, rfl, kv, q, r⟩ := h
    refine ⟨_, pss_one (ps_if (pt_not (pt_val (pe_callO o_below (hr.mono (by decide)) (by rfl) (pa_cons (pe_op op_add (pe_glob (v := .int 3) (by rfl) h_MU ⟨_, rfl⟩) pe_int) (pa_cons (pv 0) pa_nil)))))
      (pss_one (ps_raiseX rfl T (hr.mono (by decide)) (takes_of rfl rfl rfl rfl) (by rfl) (pv 0))) pss_nil), ?_⟩
    refine ⟨_, _, rfl, rfl, _, rfl, 4, v, rfl, kv, ?_⟩
    cases e : belV 4 v with
    | true => exact ⟨true, rfl, iteF (q e)⟩
    | false => exact ⟨false, rfl, iteT ⟨_, rfl, fun d nd => r e H d (fun _ _ z => z) nd⟩⟩
theorem okx_isForm (F : FnP K "is_form" sIsForm f fd) (o_many : OkX P w K mg base "require_many" 4 ["many"] (spReqManyX K)) (o_form : Ok P w K mg base "has_form" 3 ["many", "item"] spHasForm) :
    FnOk P w K mg base (L2.CX P w) 5 f fd ["many", "value"] (spIsFormX K) := by
  refine F.ok scIsForm (fun vs H Q E h => ?_) (fun cdv A outer s H vs Q E hr h => ?_)
  · obtain ⟨v, u, rfl, _⟩ := h
    rfl
  · obtain ⟨v, u, rfl, kv, e, r⟩ := h
    refine ⟨_, pss_cons (ps_expr (pe_callX (E := E) o_many (takes_of rfl rfl rfl rfl) (hr.mono (by decide)) (by rfl) (pa_cons (pv 0) pa_nil))) (pss_one (ps_ret (pe_callO o_form (hr.mono (by decide)) (by rfl) (pa_cons (pv 0) (pa_cons (pv 1) pa_nil))))), ?_⟩
    exact ⟨_, rfl, v, rfl, kv, (fun z => by rw [e] at z; cases z), fun _ => r⟩
theorem okx_reqForm (F : FnP K "require_form" sReqForm f fd) (Z : Cl1 P w K mg base) (o_form : Ok P w K mg base "has_form" 3 ["many", "item"] spHasForm) (z_any : mg "any" = none) (z_range : mg "range" = none) {tM : Tok} (h_MU : mg "MOST_UNKNOWNS" = some (.int 3 tM)) :
    FnOk P w K mg base (L2.CX P w) 4 f fd ["form"] (spReqFormX K) := by
  obtain ⟨fI, fdI, T⟩ := Z.x 1 (by decide)
  have T : XCls P w K mg base "InvalidForm" "value" (C1 K 1) fI fdI := T
  have nd := scReqForm.nd
  refine F.ok scReqForm (fun vs H Q E h => ?_) (fun cdv A outer s H vs Q E hr h => ?_)
  · obtain ⟨v, b, rfl, _⟩ := h
    rfl
  · obtain ⟨v, b, rfl, ⟨bs, hF, eb⟩, q, r⟩ := h
    have r3 : Room 3 (A.deeper (envOfC "require_form" (defScope sReqForm) s.heap.objs.size f cdv)) := hr
    refine ⟨_, pss_one (ps_if (pt_not (pt_val (pe_callB (cr_any rfl) (by rfl) z_any (by decide +kernel) (pa_cons
      (pe_lc (own := [("many", 1)]) (g := gName 1) (by rfl) nd (pi_range1 (by rfl) z_range (pa_cons (pe_op op_add (pe_glob (v := .int 3) (by rfl) h_MU ⟨_, rfl⟩) pe_int) pa_nil)) (blkOk_by (N := ["form", "many"]) (sc := defScope sReqForm) (own := [("many", 1)]) (by decide +kernel)) (fun _ _ _ _ _ => pg_name (i := 1) nd rfl (Or.inl rfl)) (fun _ _ _ _ _ => pts_nil)
        (fun _ _ _ _ _ => pe_callO o_form r3 (by rfl) (pa_cons (pv 1) (pa_cons (pv 0) pa_nil)))) pa_nil)))) (pss_one (ps_raiseX rfl T (hr.mono (by decide)) (takes_of rfl rfl rfl rfl) (by rfl) (pv 0))) pss_nil), ?_⟩
    refine ⟨_, _, rfl, rfl, 4, rfl, by decide, by decide, fun D nD => lc_range (lo := 0) (n := 4) (fun k H' => Same H H' ∧ H' D = some (.lst (((List.range k).map bs).map V.bl))) ⟨same_new nD, upd_same⟩ ?_ ?_⟩
    · rintro j H' hj ⟨sm, hD⟩
      rw [Int.zero_add]
      refine ⟨rfl, ?_⟩
      refine ⟨_, rfl, _, rfl, j, v, _, rfl, (hF j hj).keep sm, fun H2 s2 => ⟨_, s2 _ _ hD, ?_, fun b o e => ?_, ?_⟩⟩
      · rw [List.length_map, List.length_map, List.length_range]
        exact small1000 (by omega)
      · rw [upd_ne (ne_of_none (H := H) e nD)]
        exact s2 _ _ (sm _ _ e)
      · rw [upd_same, List.range_succ, List.map_append, List.map_append]
        rfl
    · rintro H' ⟨sm, hD⟩
      have e2 : ((List.range 4).map bs).any id = b := by rw [eb, List.any_map]; rfl
      refine ⟨D, _, rfl, SqL.of hD, b, congrArg V.bl e2, ?_⟩
      cases b with
      | true => exact iteF (q rfl H' sm)
      | false => exact iteT ⟨_, rfl, fun d nd => r rfl H' d sm nd⟩
end
end K1
set_option Elab.async false
set_option linter.all false
set_option maxRecDepth 100000
set_option maxHeartbeats 4000000
namespace K1
open PySem PySem.Spec PyProof.Rows L2 XV
/-- forms, as many as n, for m unknowns -/
def formsD (n m : Nat) : PyData → Bool
  | .list ds => decide (ds.length = n) && ds.all (formD m)
  | _ => false
def shortsD : PyData → Bool
  | .list ds => decide (ds.length ≤ 100) && ds.all shortD
  | _ => true
def ValBad (H : Hp) (a u : V) (j : Nat) (v : V) : Prop := (AnyF H a false ∧ j = 1 ∧ v = a) ∨
  (∃ (fa : Addr) (xs : List V) (m : Nat), a = .ref fa ∧ H fa = some (.tup xs) ∧ xs.length = m + 1 ∧ AnyF H a true ∧ IsP H m u false ∧ j = 2 ∧ v = u)
def spValX (K : PySem.W.Frag) : Sp := fun vs H Q E => ∃ (a u : V) (j : Nat) (v : V), vs = [a, u] ∧ ValBad H a u j v ∧ Rz E H (C1 K j) v
def spReqFormsX (K : PySem.W.Frag) : Sp := fun vs H Q E => ∃ (v : V) (m n : Nat) (d : PyData), vs = [v, .int m, .int n] ∧ Da H v d ∧ shortsD d = true ∧ formsD n m d = false ∧ Rz E H (C1 K 3) v
def InsBad (H : Hp) (a b c : V) (j : Nat) (v : V) : Prop := (AnyF H a false ∧ j = 1 ∧ v = a) ∨ (AnyF H a true ∧ Kn H b ∧ belV 4 b = false ∧ j = 0 ∧ v = b) ∨
  (∃ (fa : Addr) (xs : List V) (n m : Nat) (d : PyData), a = .ref fa ∧ H fa = some (.tup xs) ∧ xs.length = n + 1 ∧ AnyF H a true ∧ b = .int m ∧ m ≤ 3 ∧ Da H c d ∧ shortsD d = true ∧ formsD n m d = false ∧ j = 3 ∧ v = c)
def spInsX (K : PySem.W.Frag) : Sp := fun vs H Q E => ∃ (a b c : V) (j : Nat) (v : V), vs = [a, b, c] ∧ InsBad H a b c j v ∧ Rz E H (C1 K j) v
theorem sub_one (n : Nat) : (((n + 1 : Nat) : Int) - 1) = (n : Int) := by omega
section
variable {P : Program} {w : World} {K : PySem.W.Frag} {mg : Str → Option Value} {base : Heap} {f : Addr} {fd : FuncData}
theorem okx_val (F : FnP K "value" sVal f fd) (Z : Cl1 P w K mg base) (o_req : OkX P w K mg base "require_form" 4 ["form"] (spReqFormX K)) (o_point : Ok P w K mg base "is_point" 3 ["many", "value"] spIsPoint)
    (o_value : Ok P w K mg base "form_value" 1 ["form", "point"] spFormValue) (z_len : mg "len" = none) : FnOk P w K mg base (L2.CX P w) 5 f fd ["form", "point"] (spValX K) := by
  obtain ⟨fI, fdI, T⟩ := Z.x 2 (by decide)
  have T : XCls P w K mg base "InvalidPoint" "value" (C1 K 2) fI fdI := T
  refine F.ok scVal (fun vs H Q E h => ?_) (fun cdv A outer s H vs Q E hr h => ?_)
  · obtain ⟨a, u, j, v, rfl, _⟩ := h
    rfl
  · obtain ⟨a, u, j, v, rfl, bad, r⟩ := h
    refine ⟨_, pss_cons (ps_expr (pe_callX (E := E) o_req (takes_of rfl rfl rfl rfl) (hr.mono (by decide)) (by rfl) (pa_cons (pv 0) pa_nil)))
      (pss_cons (ps_if (pt_not (pt_val (pe_callO o_point (hr.mono (by decide)) (by rfl) (pa_cons (pe_op op_sub (pe_callB call_len (by rfl) z_len boot_len (pa_cons (pv 0) pa_nil)) pe_int) (pa_cons (pv 1) pa_nil))))) (pss_one (ps_raiseX rfl T (hr.mono (by decide)) (takes_of rfl rfl rfl rfl) (by rfl) (pv 1))) pss_nil)
      (pss_one (ps_ret (pe_callO o_value (hr.mono (by decide)) (by rfl) (pa_cons (pv 0) (pa_cons (pv 1) pa_nil)))))), ?_⟩
    rcases bad with ⟨hF, rfl, rfl⟩ | ⟨fa, xs, m, rfl, hx, hl, hF, hP, rfl, rfl⟩
    · exact ⟨_, rfl, v, false, rfl, hF, (fun z => by cases z), fun _ => r⟩
    · refine ⟨_, rfl, _, true, rfl, hF, (fun _ H1 s1 => ?_), fun z => by cases z⟩
      refine ⟨_, rfl, _, m + 1, rfl, .inr ⟨_, SqT.of (s1 _ _ hx), hl.symm⟩, _, _, rfl, rfl, _, rfl, m, v, false, ?_, hP.keep s1, fun H2 s2 => ⟨false, rfl, iteT ⟨_, rfl, fun d nd => r H2 d (s1.trans s2) nd⟩⟩⟩
      show [V.int (((m + 1 : Nat) : Int) - 1), v] = _
      rw [sub_one]
theorem okx_reqForms (F : FnP K "require_forms" sReqForms f fd) (Z : Cl1 P w K mg base) (o_form : Ok P w K mg base "has_form" 3 ["many", "item"] spHasForm) (z_isinstance : mg "isinstance" = none) (z_list : mg "list" = none) (z_len : mg "len" = none) (z_all : mg "all" = none) :
    FnOk P w K mg base (L2.CX P w) 4 f fd ["forms", "many", "how_many"] (spReqFormsX K) := by
  have nd := scReqForms.nd
  obtain ⟨fI, fdI, T⟩ := Z.x 3 (by decide)
  have T : XCls P w K mg base "InvalidList" "value" (C1 K 3) fI fdI := T
  refine F.ok scReqForms (fun vs H Q E h => ?_) (fun cdv A outer s H vs Q E hr h => ?_)
  · obtain ⟨v, m, n, d, rfl, _⟩ := h
    rfl
  · obtain ⟨v, m, n, d, rfl, hd, sh, no, r⟩ := h
    have r3 : Room 3 (A.deeper (envOfC "require_forms" (defScope sReqForms) s.heap.objs.size f cdv)) := hr
    refine ⟨_, pss_cons (ps_if (PW.pt (pw_or (pt_not (pt_val (pe_callB call_isi (by rfl) z_isinstance (by decide +kernel) (pa_cons (pv 0) (pa_cons (pe_bltn (v := .ty "list") (by rfl) z_list (by decide +kernel) rfl) pa_nil))))) (pw_or1 (pt_cmpR op_ne (pe_callB call_len (by rfl) z_len boot_len (pa_cons (pv 0) pa_nil)) (pv 2) (nomark _))))) (pss_one (ps_raiseX rfl T (hr.mono (by decide)) (takes_of rfl rfl rfl rfl) (by rfl) (pv 0))) pss_nil)
      (pss_one (ps_if (pt_not (pt_val (pe_callB (cr_all rfl) (by rfl) z_all (by decide +kernel) (pa_cons
        (pe_lc (own := [("form", 3)]) (g := gName 3) (by rfl) nd (pi_list (pv 0)) (blkOk_by (N := ["forms", "many", "how_many", "form"]) (sc := defScope sReqForms) (own := [("form", 3)]) (by decide +kernel)) (fun _ _ _ _ _ => pg_name (i := 3) nd rfl (Or.inl rfl)) (fun _ _ _ _ _ => pts_nil)
          (fun _ _ _ _ _ => pe_callO o_form r3 (by rfl) (pa_cons (pv 1) (pa_cons (pv 3) pa_nil)))) pa_nil)))) (pss_one (ps_raiseX rfl T (hr.mono (by decide)) (takes_of rfl rfl rfl rfl) (by rfl) (pv 0))) pss_nil)), ?_⟩
    have out : ∀ (H' : Hp), Same H H' → ∀ d, H' d = none → E (.ref (C1 K 3)) (some d) (upd H' d (.xd [("value", v)])) := fun H' sm d nd => r H' d sm nd
    cases hd with
    | non => exact ⟨_, rfl, _, _, _, _, false, rfl, .ty "list", .base .non, kit_ty (by decide +kernel), _, rfl, iteT (iteT ⟨_, rfl, out H (Same.refl H)⟩)⟩
    | bl b => exact ⟨_, rfl, _, _, _, _, false, rfl, .ty "list", .base (.bl b), kit_ty (by decide +kernel), _, rfl, iteT (iteT ⟨_, rfl, out H (Same.refl H)⟩)⟩
    | int i => exact ⟨_, rfl, _, _, _, _, false, rfl, .ty "list", .base (.int i), kit_ty (by decide +kernel), _, rfl, iteT (iteT ⟨_, rfl, out H (Same.refl H)⟩)⟩
    | str x => exact ⟨_, rfl, _, _, _, _, false, rfl, .ty "list", .base (.str x), kit_ty (by decide +kernel), _, rfl, iteT (iteT ⟨_, rfl, out H (Same.refl H)⟩)⟩
    | tup h _ => exact ⟨_, rfl, _, _, _, _, false, rfl, .ty "list", .base (.tup h), kit_ty (by decide +kernel), _, rfl, iteT (iteT ⟨_, rfl, out H (Same.refl H)⟩)⟩
    | @lst la xs ds h da =>
      have l := da.length
      refine ⟨_, rfl, _, _, _, _, true, rfl, .ty "list", .base (.lst h), kit_ty (by decide +kernel), _, rfl, iteF ⟨_, rfl, _, xs.length, rfl, .inl ⟨_, SqL.of h, rfl⟩, _, rfl, rfl, (!decide (xs.length = n)), congrArg (fun b => V.bl (!b)) (nat_dec xs.length n), ?_⟩⟩
      by_cases c : xs.length = n
      · rw [decide_eq_true c]
        have sh2 : ds.length ≤ 100 ∧ ∀ x ∈ ds, shortD x = true := by
          have z : (decide (ds.length ≤ 100) && ds.all shortD) = true := sh
          rw [Bool.and_eq_true, decide_eq_true_eq, List.all_eq_true] at z
          exact z
        have no2 : ds.all (formD m) = false := by
          have z : (decide (ds.length = n) && ds.all (formD m)) = false := no
          rw [decide_eq_true (by omega), Bool.true_and] at z
          exact z
        refine iteF ⟨_, rfl, la, rfl, ⟨_, SqL.of h⟩, fun D nD => lc_list (K := K) (a := la) (xs := xs) (fun k H' => Same H H' ∧ H' D = some (.lst (((ds.map (formD m)).take k).map V.bl))) ⟨same_new nD, upd_same⟩ (fun k H' _ p => SqL.of (p.1 _ _ h)) ?_ ?_⟩
        · rintro j y H' hj ⟨sm, hD⟩
          obtain ⟨dy, ey, hy⟩ := da.get hj
          have lj : j < xs.length := (List.getElem?_eq_some_iff.mp hj).1
          refine ⟨rfl, ?_⟩
          refine ⟨_, rfl, _, rfl, m, y, _, rfl, (da_isF m hy (sh2.2 dy (List.mem_of_getElem? ey))).keep sm, fun H2 s2 => ⟨_, s2 _ _ hD, ?_, fun b o e => ?_, ?_⟩⟩
          · rw [List.length_map]
            exact small1000 (Nat.le_trans (List.length_take_le _ _) (by omega))
          · rw [upd_ne (ne_of_none (H := H) e nD)]
            exact s2 _ _ (sm _ _ e)
          · rw [upd_same, List.take_add_one, List.getElem?_map, ey, List.map_append]
            rfl
        · rintro H' ⟨sm, hD⟩
          have el : (ds.map (formD m)).take xs.length = ds.map (formD m) := List.take_of_length_le (by simp; omega)
          rw [el] at hD
          have e : (ds.map (formD m)).all id = false := by
            rw [List.all_map]
            exact no2
          exact ⟨D, _, rfl, SqL.of hD, false, congrArg V.bl e, iteT ⟨_, rfl, out H' sm⟩⟩
      · rw [decide_eq_false c]
        exact iteT ⟨_, rfl, out H (Same.refl H)⟩
theorem okx_ins (F : FnP K "inserted" sIns f fd) (o_req : OkX P w K mg base "require_form" 4 ["form"] (spReqFormX K)) (o_many : OkX P w K mg base "require_many" 4 ["many"] (spReqManyX K)) (o_forms : OkX P w K mg base "require_forms" 4 ["forms", "many", "how_many"] (spReqFormsX K))
    (o_with : Ok P w K mg base "form_with" 2 ["form", "many", "forms"] spWith) (z_len : mg "len" = none) : FnOk P w K mg base (L2.CX P w) 5 f fd ["form", "many", "forms"] (spInsX K) := by
  refine F.ok scIns (fun vs H Q E h => ?_) (fun cdv A outer s H vs Q E hr h => ?_)
  · obtain ⟨a, b, c, j, v, rfl, _⟩ := h
    rfl
  · obtain ⟨a, b, c, j, v, rfl, bad, r⟩ := h
    refine ⟨_, pss_cons (ps_expr (pe_callX (E := E) o_req (takes_of rfl rfl rfl rfl) (hr.mono (by decide)) (by rfl) (pa_cons (pv 0) pa_nil)))
      (pss_cons (ps_expr (pe_callX (E := E) o_many (takes_of rfl rfl rfl rfl) (hr.mono (by decide)) (by rfl) (pa_cons (pv 1) pa_nil)))
      (pss_cons (ps_expr (pe_callX (E := E) o_forms (takes_of rfl rfl rfl rfl) (hr.mono (by decide)) (by rfl) (pa_cons (pv 2) (pa_cons (pv 1) (pa_cons (pe_op op_sub (pe_callB call_len (by rfl) z_len boot_len (pa_cons (pv 0) pa_nil)) pe_int) pa_nil)))))
      (pss_one (ps_ret (pe_callO o_with (hr.mono (by decide)) (by rfl) (pa_cons (pv 0) (pa_cons (pv 1) (pa_cons (pv 2) pa_nil)))))))), ?_⟩
    rcases bad with ⟨hF, rfl, rfl⟩ | ⟨hF, kb, eb, rfl, rfl⟩ | ⟨fa, xs, n, m, d, rfl, hx, hl, hF, rfl, hm, hd, sh, no, rfl, rfl⟩
    · exact ⟨_, rfl, v, false, rfl, hF, (fun z => by cases z), fun _ => r⟩
    · refine ⟨_, rfl, a, true, rfl, hF, (fun _ H1 s1 => ?_), fun z => by cases z⟩
      exact ⟨_, rfl, v, rfl, kb.keep s1, (fun z => by rw [eb] at z; cases z), fun _ => r.at s1⟩
    · refine ⟨_, rfl, _, true, rfl, hF, (fun _ H1 s1 => ?_), fun z => by cases z⟩
      have e4 : belV 4 (.int m) = true := by
        show (decide (0 ≤ (m : Int)) && decide ((m : Int) < 4)) = true
        rw [decide_eq_true (by omega), decide_eq_true (by omega)]
        rfl
      refine ⟨_, rfl, .int m, rfl, .int m, (fun _ => ?_), fun z => by rw [e4] at z; cases z⟩
      refine ⟨_, rfl, _, rfl, _, rfl, _, n + 1, rfl, .inr ⟨_, SqT.of (s1 _ _ hx), hl.symm⟩, _, _, rfl, rfl, v, m, n, d, ?_, hd.keep s1, sh, no, r.at s1⟩
      show [v, V.int m, V.int (((n + 1 : Nat) : Int) - 1)] = _
      rw [sub_one]
end
end K1
set_option Elab.async false
set_option linter.all false
set_option maxRecDepth 100000
set_option maxHeartbeats 4000000
namespace K1
open PySem PySem.Spec PyProof.Rows L2 XV
abbrev sCaught : Stmt := top 33
abbrev sOnly : Stmt := top 34
abbrev sRefused : Stmt := top 35
abbrev nCaught : List Str := ["_law_which", "_law_given", "_law_error", "e", "_law_kinds"]
theorem scCaught : FnScope nCaught ["_law_which", "_law_given"] (defScope sCaught) := ⟨rfl, rfl, rfl, by decide +kernel, rfl, by decide +kernel, by decide +kernel⟩
theorem scOnly : FnScope ["_law_place", "_law_bad", "_law_at"] ["_law_place", "_law_bad"] (defScope sOnly) := ⟨rfl, rfl, rfl, by decide +kernel, rfl, by decide +kernel, by decide +kernel⟩
/-! ### of data: what is refused -/
def anyD (d : PyData) : Bool := (List.range 4).any fun m => formD m d
theorem da_any {H : Hp} {v : V} {d : PyData} (h : Da H v d) (s : shortD d = true) : AnyF H v (anyD d) := ⟨fun m => formD m d, fun m _ => da_isF m h s, rfl⟩
/-- the class and the place of the argument that is refused -/
def refN (a : PyData) : Option (Nat × Nat) := if belD 4 a then none else some (0, 0)
def refV (a u : PyData) : Option (Nat × Nat) := if anyD a then (match a with
    | .tuple ds => if pointD (ds.length - 1) u then none else some (2, 1)
    | _ => none) else some (1, 0)
def refI (a b c : PyData) : Option (Nat × Nat) := if anyD a then (if belD 4 b then (match a, b with
    | .tuple ds, .int m => if formsD (ds.length - 1) m.toNat c then none else some (3, 2)
    | _, _ => none) else some (0, 1)) else some (1, 0)
def refJ : Nat → List PyData → Option (Nat × Nat)
  | 0, [a, _] => refN a
  | 1, a :: u :: _ => refV a u
  | 2, [a, b, c] => refI a b c
  | _, _ => none
def kindsD (j : Nat) (d : PyData) : PyData := .list [.list [.bool (decide (j = 0)), .bool (decide (j = 1)), .bool (decide (j = 2)), .bool (decide (j = 3))], .str d.shown]
/-- data whose repr is to be had -/
def okD (d : PyData) : Bool := d.showable && (!d.hasDict && (decide (d.depth ≤ 60) && (decide (d.shown.length ≤ 100000) && PyData.strOk d.shown)))
theorem okD_ok {d : PyData} (h : okD d = true) : d.showable = true ∧ d.hasDict = false ∧ d.depth ≤ 60 ∧ d.shown.length ≤ sizeLine ∧ PyData.strOk d.shown = true := by
  unfold okD at h
  simp only [Bool.and_eq_true, Bool.not_eq_true', decide_eq_true_eq] at h
  obtain ⟨h1, h2, h3, h4, h5⟩ := h
  exact ⟨h1, h2, h3, by rw [sizeLine_eq]; omega, h5⟩
def spCaught : Sp := fun vs H Q _ => ∃ (wh : Nat) (ga : Addr) (as_ : List V) (ds : List PyData) (j i : Nat) (d : PyData), vs = [.int wh, .ref ga] ∧ H ga = some (.lst as_) ∧ DaAll H as_ ds ∧ (∀ x ∈ ds, shortD x = true) ∧ (∀ x ∈ ds, shortsD x = true) ∧
  refJ wh ds = some (j, i) ∧ ds[i]? = some d ∧ okD d = true ∧ ∀ (H' : Hp) (p : Addr), Same H H' → Da H' (.ref p) (kindsD j d) → Q (.ref p) H'
def spOnly : Sp := fun vs H Q _ => ∃ (j : Nat) (v : V) (d : PyData), vs = [.int j, v] ∧ Da H v d ∧ okD d = true ∧ ∀ (H' : Hp) (p : Addr), Same H H' → Da H' (.ref p) (kindsD j d) → Q (.ref p) H'
theorem look_v (f : Str) (v : V) : List.lookup f [(f, v)] = some v := by simp [List.lookup]
theorem any_len {H : Hp} {v : V} {d : PyData} (h : Da H v d) (e : anyD d = true) : ∃ (fa : Addr) (xs : List V) (ds : List PyData) (m : Nat), v = .ref fa ∧ d = .tuple ds ∧ H fa = some (.tup xs) ∧ xs.length = m + 1 ∧ ds.length = m + 1 ∧ m < 4 := by
  obtain ⟨m, hm, e⟩ := List.any_eq_true.mp e
  cases h with
  | @tup fa xs ds h a =>
    have z : (decide (ds.length = m + 1) && ds.all cntD) = true := e
    rw [Bool.and_eq_true, decide_eq_true_eq] at z
    exact ⟨fa, xs, ds, m, rfl, rfl, h, by rw [a.length]; exact z.1, z.1, List.mem_range.mp hm⟩
  | non => cases e
  | bl b => cases e
  | int i => cases e
  | str x => cases e
  | lst h a => cases e
/-- what refJ says, of the heap -/
theorem ref_val {H : Hp} {a u : V} {da du : PyData} {j i : Nat} (ha : Da H a da) (hu : Da H u du) (sa : shortD da = true) (su : shortD du = true) (r : refV da du = some (j, i)) : ∃ v d, ([a, u] : List V)[i]? = some v ∧ [da, du][i]? = some d ∧ Da H v d ∧ ValBad H a u j v ∧ j < 4 := by
  unfold refV at r
  by_cases e : anyD da = true
  · rw [if_pos e] at r
    obtain ⟨fa, xs, ds, m, rfl, rfl, hx, l1, l2, hm⟩ := any_len ha e
    have r' : (if pointD (ds.length - 1) du = true then none else some (2, 1)) = some (j, i) := r
    by_cases c : pointD (ds.length - 1) du = true
    · rw [if_pos c] at r'
      cases r'
    · rw [if_neg c] at r'
      cases r'
      have hP := da_isP (ds.length - 1) hu su
      rw [Bool.eq_false_iff.mpr c] at hP
      have hA := da_any ha sa
      rw [e] at hA
      have em : ds.length - 1 = m := by omega
      rw [em] at hP
      exact ⟨u, du, rfl, rfl, hu, .inr ⟨fa, xs, m, rfl, hx, l1, hA, hP, rfl, rfl⟩, by decide⟩
  · rw [if_neg e] at r
    cases r
    have hA := da_any ha sa
    rw [Bool.eq_false_iff.mpr e] at hA
    exact ⟨a, da, rfl, rfl, ha, .inl ⟨hA, rfl, rfl⟩, by decide⟩
theorem ref_ins {H : Hp} {a b c : V} {da db dc : PyData} {j i : Nat} (ha : Da H a da) (hb : Da H b db) (hc : Da H c dc) (sa : shortD da = true) (sc : shortsD dc = true) (r : refI da db dc = some (j, i)) : ∃ v d, ([a, b, c] : List V)[i]? = some v ∧ [da, db, dc][i]? = some d ∧ Da H v d ∧ InsBad H a b c j v ∧ j < 4 := by
  unfold refI at r
  have hA := da_any ha sa
  by_cases e : anyD da = true
  · rw [if_pos e] at r
    rw [e] at hA
    by_cases e4 : belD 4 db = true
    · rw [if_pos e4] at r
      obtain ⟨fa, xs, ds, m, rfl, rfl, hx, l1, l2, hm⟩ := any_len ha e
      cases hb with
      | int k =>
        have z : (decide (0 ≤ k) && decide (k < 4)) = true := e4
        rw [Bool.and_eq_true, decide_eq_true_eq, decide_eq_true_eq] at z
        have r' : (if formsD (ds.length - 1) k.toNat dc = true then none else some (3, 2)) = some (j, i) := r
        by_cases q : formsD (ds.length - 1) k.toNat dc = true
        · rw [if_pos q] at r'
          cases r'
        · rw [if_neg q] at r'
          cases r'
          exact ⟨c, dc, rfl, rfl, hc, .inr (.inr ⟨fa, xs, ds.length - 1, k.toNat, dc, rfl, hx, by omega, hA, by rw [Int.toNat_of_nonneg z.1], by omega, hc, sc, Bool.eq_false_iff.mpr q, rfl, rfl⟩), by decide⟩
      | non => cases e4
      | bl b => cases e4
      | str x => cases e4
      | lst h a => cases e4
      | tup h a => cases e4
    · rw [if_neg e4] at r
      cases r
      exact ⟨b, db, rfl, rfl, hb, .inr (.inl ⟨hA, da_kn hb, by rw [da_bel 4 hb]; exact Bool.eq_false_iff.mpr e4, rfl, rfl⟩), by decide⟩
  · rw [if_neg e] at r
    cases r
    rw [Bool.eq_false_iff.mpr e] at hA
    exact ⟨a, da, rfl, rfl, ha, .inl ⟨hA, rfl, rfl⟩, by decide⟩
end K1
set_option Elab.async false
set_option linter.all false
set_option maxRecDepth 100000
set_option maxHeartbeats 4000000
namespace K1
open PySem PySem.Spec PyProof.Rows L2 XV
theorem int_ne {x y : Nat} (h : x ≠ y) : ¬ decide (V.int (x : Int) = V.int (y : Int)) = true := fun c => h (by have := V.int.inj (of_decide_eq_true c); omega)
section
variable {P : Program} {w : World} {K : PySem.W.Frag} {mg : Str → Option Value} {base : Heap} {f : Addr} {fd : FuncData}
theorem ok_caught (F : FnP K "_law_caught" sCaught f fd) (Z : Cl1 P w K mg base) (o_isForm : OkX P w K mg base "is_form" 5 ["many", "value"] (spIsFormX K)) (o_val : OkX P w K mg base "value" 5 ["form", "point"] (spValX K)) (o_ins : OkX P w K mg base "inserted" 5 ["form", "many", "forms"] (spInsX K))
    (z_isinstance : mg "isinstance" = none) (z_repr : mg "repr" = none) : FnG P w K mg base CX0 6 f fd ["_law_which", "_law_given"] spCaught := by
  have nd := scCaught.nd
  have gN : mg "InvalidNumber" = some (.ref (C1 K 0)) := Z.g 0 (by decide)
  have gF : mg "InvalidForm" = some (.ref (C1 K 1)) := Z.g 1 (by decide)
  have gP : mg "InvalidPoint" = some (.ref (C1 K 2)) := Z.g 2 (by decide)
  have gL : mg "InvalidList" = some (.ref (C1 K 3)) := Z.g 3 (by decide)
  have gE : mg "LoopError" = some (.ref (C1 K 4)) := Z.g 4 (by decide)
  refine okG F scCaught (fun vs H Q E h => ?_) (fun cdv A outer s H vs Q E ag hr h => ?_)
  · obtain ⟨wh, ga, as_, ds, j, i, d, rfl, _⟩ := h
    rfl
  · obtain ⟨wh, ga, as_, ds, j, i, d, rfl, hg, hda, sh1, sh2, rf, di, od, q⟩ := h
    have hu := hr.units
    refine ⟨_, PSs.nox (pss_cons (ps_set (i := 2) nd rfl (Or.inl rfl) pe_non)
      (C8.pss_cut (ps_try_keep (i := 3) rfl rfl rfl nd rfl rfl ⟨by rfl, by decide, .inl gE⟩ takes0
        (fun W pn xe tk _ => pss_one (ps_if (pt_cmpR op_eq (pv 0) pe_int (nomark _))
          (pss_one (ps_expr (pe_callT o_isForm tk hr (by rfl) (pa_cons (pe_ix (ix_listK (K := K) rfl) (pv 1) pe_int (fun _ _ => rfl)) (pa_cons (pe_ix (ix_listK (K := K) rfl) (pv 1) pe_int (fun _ _ => rfl)) pa_nil)))))
          (pss_one (ps_if (pt_cmpR op_eq (pv 0) pe_int (nomark _))
            (pss_one (ps_expr (pe_callT o_val tk hr (by rfl) (pa_cons (pe_ix (ix_listK (K := K) rfl) (pv 1) pe_int (fun _ _ => rfl)) (pa_cons (pe_ix (ix_listK (K := K) rfl) (pv 1) pe_int (fun _ _ => rfl)) pa_nil)))))
            (pss_one (ps_expr (pe_callT o_ins tk hr (by rfl) (pa_cons (pe_ix (ix_listK (K := K) rfl) (pv 1) pe_int (fun _ _ => rfl)) (pa_cons (pe_ix (ix_listK (K := K) rfl) (pv 1) pe_int (fun _ _ => rfl)) (pa_cons (pe_ix (ix_listK (K := K) rfl) (pv 1) pe_int (fun _ _ => rfl)) pa_nil))))))))))
        (fun a oe cls d pn hz hf => pss_one (ps_set (i := 2) nd rfl (Or.inl rfl) (pv 3))))
      (pss_cons (ps_set (i := 4) nd rfl (Or.inl rfl) (pe_lst (pa_cons (pe_callB call_isZ (by rfl) z_isinstance (by decide +kernel) (pa_cons (pv 2) (pa_cons (pe_glob (v := .ref (C1 K 0)) (by rfl) gN rfl) pa_nil)))
          (pa_cons (pe_callB call_isZ (by rfl) z_isinstance (by decide +kernel) (pa_cons (pv 2) (pa_cons (pe_glob (v := .ref (C1 K 1)) (by rfl) gF rfl) pa_nil)))
          (pa_cons (pe_callB call_isZ (by rfl) z_isinstance (by decide +kernel) (pa_cons (pv 2) (pa_cons (pe_glob (v := .ref (C1 K 2)) (by rfl) gP rfl) pa_nil))) pa_nil)))))
      (pss_one (ps_ret (pe_lst (pa_cons (pe_op op_cat (pv 4) (pe_lst (pa_cons (pe_callB call_isZ (by rfl) z_isinstance (by decide +kernel) (pa_cons (pv 2) (pa_cons (pe_glob (v := .ref (C1 K 3)) (by rfl) gL rfl) pa_nil))) pa_nil)))
        (pa_cons (pe_ifExp (pt_cmp (pc_isN (pv 2))) pe_non (pe_callB (call_reprD ag hu) (by rfl) z_repr (by decide +kernel) (pa_cons (pe_zget (pv 2)) pa_nil))) pa_nil)))))))), ?_⟩
    refine ⟨fun σ' H' => ∃ (a dx : Addr) (v : V), σ' = [some (.int wh), some (.ref ga), some (.ref a), none, none] ∧ j < 4 ∧ Same H H' ∧ H' a = some (exz a (.ref (C1 K j)) (some dx)) ∧ H' dx = some (.xd [("value", v)]) ∧ Da H' v d, ?_, ?_⟩
    · -- the call raises: what the clause wishes
      have wish : ∀ (v : V), j < 4 → Da H v d → Rz (WE (wKeep K (.ref (C1 K 4)) 3 (fun a cls d => tAsg (tVar 3) (gName 2)) (fun _ _ _ _ => False)
          { nx := fun σ' H' => ∃ (a dx : Addr) (v : V), σ' = [some (.int wh), some (.ref ga), some (.ref a), none, none] ∧ j < 4 ∧ Same H H' ∧ H' a = some (exz a (.ref (C1 K j)) (some dx)) ∧ H' dx = some (.xd [("value", v)]) ∧ Da H' v d, rt := Q })
          [some (.int wh), some (.ref ga), some .non, none, none]) H (C1 K j) v := fun v hj hv H' dx sm nd => by
        refine ⟨true, Z.exm j hj, fun _ a na => ?_, fun z => nomatch z⟩
        refine ⟨_, rfl, fun na2 => ⟨a, dx, v, rfl, hj, (sm.trans (same_new nd)).trans (same_new na2), upd_same, ?_, ?_⟩⟩
        · rw [upd_ne (ne_of_none upd_same na2)]
          exact upd_same
        · exact ((hv.keep sm).keep (same_new nd)).keep (same_new na2)
      have at2 : ∀ (x y : V), atI [x, y] ((0 : Nat) : Int) = some x ∧ atI [x, y] ((1 : Nat) : Int) = some y := fun x y => ⟨atI_nat rfl, atI_nat rfl⟩
      have at3 : ∀ (x y z : V), atI [x, y, z] ((0 : Nat) : Int) = some x ∧ atI [x, y, z] ((1 : Nat) : Int) = some y ∧ atI [x, y, z] ((2 : Nat) : Int) = some z := fun x y z => ⟨atI_nat rfl, atI_nat rfl, atI_nat rfl⟩
      match wh, ds, rf with
      | 0, [da, du], rf =>
        cases hda with
        | cons ha r1 => cases r1 with
          | cons hu2 r2 =>
            cases r2
            rename_i x y
            have rf : refN da = some (j, i) := rf
            unfold refN at rf
            by_cases e : belD 4 da = true
            · rw [if_pos e] at rf
              cases rf
            · rw [if_neg e] at rf
              cases rf
              cases di
              refine ⟨_, rfl, rfl, _, rfl, ite2 (fun _ => ?_) (fun c => absurd (decide_eq_true rfl) c)⟩
              exact ⟨_, rfl, ga, _, _, _, rfl, rfl, SqL.of hg, (at2 x y).1, _, rfl, ga, _, _, _, rfl, rfl, SqL.of hg, (at2 x y).2, x, y, rfl, da_kn ha, by rw [da_bel 4 ha]; exact Bool.eq_false_iff.mpr e, wish x (by decide) ha⟩
      | 1, da :: du :: dr, rf =>
        cases hda with
        | cons ha r1 => cases r1 with
          | cons hu2 r2 =>
            rename_i x y zs
            have rf : refV da du = some (j, i) := rf
            obtain ⟨v, d', e1, e2, hv, bad, hj⟩ := ref_val ha hu2 (sh1 _ (by simp)) (sh1 _ (by simp)) rf
            have ilt : i < 2 := (List.getElem?_eq_some_iff.mp e2).1
            have e3 : (da :: du :: dr)[i]? = some d' := by
              rcases (by omega : i = 0 ∨ i = 1) with rfl | rfl <;> exact e2
            cases e3.symm.trans di
            have a0 : atI (x :: y :: zs) ((0 : Nat) : Int) = some x := atI_nat rfl
            have a1 : atI (x :: y :: zs) ((1 : Nat) : Int) = some y := atI_nat rfl
            refine ⟨_, rfl, rfl, _, rfl, ite2 (fun c => absurd c (int_ne (x := 1) (y := 0) (by decide))) fun _ => ⟨_, rfl, rfl, _, rfl, ite2 (fun _ => ?_) (fun c => absurd (decide_eq_true rfl) c)⟩⟩
            exact ⟨_, rfl, ga, _, _, _, rfl, rfl, SqL.of hg, a0, _, rfl, ga, _, _, _, rfl, rfl, SqL.of hg, a1, x, y, j, v, rfl, bad, wish v hj hv⟩
      | 2, [da, db, dc], rf =>
        have rf : refI da db dc = some (j, i) := rf
        cases hda with
        | cons ha r1 => cases r1 with
          | cons hb r2 => cases r2 with
            | cons hc r3 =>
              cases r3
              rename_i x y z
              obtain ⟨v, d', e1, e2, hv, bad, hj⟩ := ref_ins ha hb hc (sh1 _ (by simp)) (sh2 _ (by simp)) rf
              cases e2.symm.trans di
              refine ⟨_, rfl, rfl, _, rfl, ite2 (fun c => absurd c (int_ne (x := 2) (y := 0) (by decide))) fun _ => ⟨_, rfl, rfl, _, rfl, ite2 (fun c => absurd c (int_ne (x := 2) (y := 1) (by decide))) fun _ => ?_⟩⟩
              exact ⟨_, rfl, ga, _, _, _, rfl, rfl, SqL.of hg, (at3 x y z).1, _, rfl, ga, _, _, _, rfl, rfl, SqL.of hg, (at3 x y z).2.1, _, rfl, ga, _, _, _, rfl, rfl, SqL.of hg, (at3 x y z).2.2, x, y, z, j, v, rfl, bad, wish v hj hv⟩
    · rintro σ' H1 ⟨a, dx, v, rfl, hj, sm, ha, hx, hv⟩
      refine ⟨_, rfl, _, _, _, _, _, _, _, rfl, ha, hx, Z.e j hj, (fun u r => r), Z.kit j hj 0 (by decide), _, rfl, _, _, _, _, _, _, _, rfl, ha, hx, Z.e j hj, (fun u r => r), Z.kit j hj 1 (by decide),
        _, rfl, _, _, _, _, _, _, _, rfl, ha, hx, Z.e j hj, (fun u r => r), Z.kit j hj 2 (by decide), (by show 3 ≤ sizeLine; decide), fun l1 n1 => ?_⟩
      have s1 := same_new (o := .lst [.bl (decide (j = 0)), .bl (decide (j = 1)), .bl (decide (j = 2))]) n1
      refine ⟨_, rfl, _, rfl, _, _, _, _, _, _, _, rfl, s1 _ _ ha, s1 _ _ hx, Z.e j hj, (fun u r => r), Z.kit j hj 3 (by decide), (by show 1 ≤ sizeLine; decide), fun l2 n2 => ?_⟩
      have s2 := same_new (o := .lst [.bl (decide (j = 3))]) n2
      refine ⟨_, _, _, _, rfl, rfl, s2 _ _ upd_same, upd_same, (by show 3 + 1 ≤ sizeLine; decide), fun l3 n3 => ?_⟩
      have s3 := same_new (o := .lst [.bl (decide (j = 0)), .bl (decide (j = 1)), .bl (decide (j = 2)), .bl (decide (j = 3))]) n3
      have sA := (s1.trans s2).trans s3
      obtain ⟨o1, o2, o3, o4, _⟩ := okD_ok od
      refine ⟨_, rfl, _, rfl, ite2 (fun c => nomatch of_decide_eq_true c) fun _ => ?_⟩
      refine ⟨_, rfl, a, _, dx, _, v, rfl, sA _ _ ha, sA _ _ hx, Z.f j hj, look_v _ _, v, d, rfl, (hv.keep sA).dp, o1, o2, o3, o4, (by show 2 ≤ sizeLine; decide), fun p np => ?_⟩
      refine q _ p ((sm.trans sA).trans (same_new np)) (.lst upd_same (.cons (.lst (same_new np _ _ upd_same) (.cons (.bl _) (.cons (.bl _) (.cons (.bl _) (.cons (.bl _) .nil))))) (.cons (.str _) .nil)))
end
end K1
set_option Elab.async false
set_option linter.all false
set_option maxRecDepth 100000
set_option maxHeartbeats 4000000
namespace K1
open PySem PySem.Spec PyProof.Rows L2 XV
theorem kinds_lay (j : Nat) {d : PyData} (h : okD d = true) : (kindsD j d).canLay0 = true := by simp [kindsD, PyData.canLay0, PyData.canLayAll0, (okD_ok h).2.2.2.2]
theorem kinds_shaped (j : Nat) {d : PyData} (h : okD d = true) : SeqAt.shaped (kindsD j d) = true := by
  have e : (kindsD j d).depth ≤ 64 := by simp [kindsD, PyData.depth, PyData.depthAll]
  unfold SeqAt.shaped
  rw [kinds_lay j h, decide_eq_true e]
  rfl
theorem daAll_append {H : Hp} : ∀ {ds es : List PyData} {vs ws : List V}, DaAll H vs ds → DaAll H ws es → DaAll H (vs ++ ws) (ds ++ es)
  | _, _, _, _, .nil, h => h
  | _, _, _, _, .cons a r, h => .cons a (daAll_append r h)
section
variable {P : Program} {w : World} {K : PySem.W.Frag} {mg : Str → Option Value} {base : Heap} {f : Addr} {fd : FuncData}
theorem ok_only (F : FnP K "_law_only" sOnly f fd) (z_range : mg "range" = none) (z_repr : mg "repr" = none) : FnG P w K mg base CX0 1 f fd ["_law_place", "_law_bad"] spOnly := by
  have nd := scOnly.nd
  refine okG F scOnly (fun vs H Q E h => ?_) (fun cdv A outer s H vs Q E ag hr h => ?_)
  · obtain ⟨j, v, d, rfl, _⟩ := h
    rfl
  · obtain ⟨j, v, d, rfl, hv, od, q⟩ := h
    have hu := hr.units
    refine ⟨_, PSs.nox (pss_one (ps_ret (pe_lst (pa_cons
      (pe_lc (own := [("_law_at", 2)]) (g := gName 2) (by rfl) nd (pi_range1 (by rfl) z_range (pa_cons pe_int pa_nil)) (blkOk_by (N := ["_law_place", "_law_bad", "_law_at"]) (sc := defScope sOnly) (own := [("_law_at", 2)]) (by decide +kernel)) (fun _ _ _ _ _ => pg_name (i := 2) nd rfl (Or.inl rfl)) (fun _ _ _ _ _ => pts_nil)
        (fun _ _ _ _ _ => pe_cmpR op_eq (pv 2) (pv 0) (nomark _))) (pa_cons (pe_callB (call_reprD ag hu) (by rfl) z_repr (by decide +kernel) (pa_cons (pv 1) pa_nil)) pa_nil))))), ?_⟩
    obtain ⟨o1, o2, o3, o4, _⟩ := okD_ok od
    refine ⟨4, rfl, by decide, by decide, fun D nD => lc_range (lo := 0) (n := 4) (fun k H' => Same H H' ∧ H' D = some (.lst (((List.range k).map fun m => decide (j = m)).map V.bl))) ⟨same_new nD, upd_same⟩ ?_ ?_⟩
    · rintro k H' hk ⟨sm, hD⟩
      rw [Int.zero_add]
      have e : decide (V.int (k : Int) = V.int (j : Int)) = decide (j = k) := by
        rw [nat_dec]
        exact decide_eq_decide.mpr ⟨Eq.symm, Eq.symm⟩
      refine ⟨rfl, _, rfl, _, rfl, rfl, _, hD, ?_, fun b o z => ?_, ?_⟩
      · rw [List.length_map, List.length_map, List.length_range]
        exact small1000 (by omega)
      · rw [upd_ne (ne_of_none (H := H) z nD)]
        exact sm _ _ z
      · rw [upd_same, List.range_succ, List.map_append, List.map_append, e]
        rfl
    · rintro H' ⟨sm, hD⟩
      refine ⟨_, rfl, v, d, rfl, (hv.keep sm).dp, o1, o2, o3, o4, (by show 2 ≤ sizeLine; decide), fun p np => ?_⟩
      exact q _ p (sm.trans (same_new np)) (.lst upd_same (.cons (.lst (same_new np _ _ hD) (.cons (.bl _) (.cons (.bl _) (.cons (.bl _) (.cons (.bl _) .nil))))) (.cons (.str _) .nil)))
end
end K1
set_option Elab.async false
set_option linter.all false
set_option maxRecDepth 100000
set_option maxHeartbeats 4000000
namespace K1
open PySem PySem.Spec PyProof.Rows L2 XV
abbrev nRefused : List Str := ["_law_bad", "_law_which", "_law_bads"]
theorem scRefused : FnScope nRefused [] (defScope sRefused) := ⟨rfl, rfl, rfl, by decide +kernel, rfl, by decide +kernel, by decide +kernel⟩
def i_ (k : Int) : PyData := .int k
def t2 : PyData := .tuple [.int 1, .int 2]
def t3 : PyData := .tuple [.int 0, .int 1, .int 2]
/-- what is asked of an item d, handed in among others: all are short, its repr is to be had, and this is refused -/
def askD (wh : Nat) (ds : List PyData) (j i : Nat) : Bool := ds.all shortD && (ds.all shortsD && decide (refJ wh ds = some (j, i)))
def bads1 : List PyData := [.none, .int (-1), .int 4, .bool true, .bool false, .str "1", .list [.int 1]]
def bads2 : List PyData := [.none, .tuple [], .list [.int 1, .int 2], .tuple [.int 1, .int (-1)], .tuple [.int (-1), .int 1], .tuple [.int 1, .none, .int 1], .tuple [.bool true, .int 0], .tuple [.int 1, .int 2, .int 3, .int 4, .int 5], .int 3, .str "12", .tuple [.tuple [.int 1]]]
def bads3 : List PyData := [.none, .list [], .list [.int 1], .list [.int 1, .int 2, .int 3], .tuple [.int 1, .int 2], .list [.int 1, .int (-2)], .list [.int 1, .bool true], .list [.int (-2), .int 1], .list [.bool true, .int 1], .list [.none, .int 1], .str "12"]
def bads4 : List PyData := [.none, .list [], .list [t2], .list [t2, .tuple [.int 1]], .tuple [t2, t2], .list [t2, .list [.int 1, .int 2]], .list [t2, t2, t2]]
def bads5 : List PyData := [.list [t2, .tuple [.int 1, .int (-2)]], .list [.tuple [.int 1, .int (-2)], t2], .list [.tuple [.int 1, .int 2, .int 0], t2], .list [.none, t2], .list [.tuple [.bool true, .int 2], t2]]
theorem ok1 : (bads1.all fun d => okD d && (askD 0 [d, .none] 0 0 && askD 2 [t2, d, .none] 0 1)) = true := by decide +kernel
theorem ok2 : (bads2.all fun d => okD d && (askD 1 [d, .none, .none] 1 0 && askD 2 [d, .none, .none] 1 0)) = true := by decide +kernel
theorem ok3 : (bads3.all fun d => okD d && askD 1 [t3, d] 2 1) = true := by decide +kernel
theorem ok45 : ((bads4 ++ bads5).all fun d => okD d && askD 2 [t3, .int 1, d] 3 2) = true := by decide +kernel
theorem ask_ok {wh : Nat} {ds : List PyData} {j i : Nat} (h : askD wh ds j i = true) : (∀ x ∈ ds, shortD x = true) ∧ (∀ x ∈ ds, shortsD x = true) ∧ refJ wh ds = some (j, i) := by
  unfold askD at h
  simp only [Bool.and_eq_true, decide_eq_true_eq, List.all_eq_true] at h
  exact h
/-- one question: what is caught is what is due -/
theorem ask {K : PySem.W.Frag} {H : Hp} {σ : L2.St} {wh : Nat} {ga : Addr} {as_ : List V} {ds : List PyData} {j i : Nat} {v : V} {d : PyData} {Q : VK} (hg : H ga = some (.lst as_)) (hd : DaAll H as_ ds) (a : askD wh ds j i = true) (e : ds[i]? = some d) (o : okD d = true) (hv : Da H v d)
    (hσ : σ[0]? = some (some v)) (q : ∀ H', Same H H' → Q (.bl false) H') : spCaught [.int wh, .ref ga] H (fun x H1 => ∃ v', σ[0]? = some (some v') ∧ spOnly [.int j, v'] H1 (fun y H2 => rNeD K x y H2 Q) E0) E0 := by
  obtain ⟨s1, s2, rf⟩ := ask_ok a
  refine ⟨wh, ga, as_, ds, j, i, d, rfl, hg, hd, s1, s2, rf, e, o, fun H1 p1 sm1 d1 => ⟨v, hσ, j, v, d, rfl, hv.keep sm1, o, fun H2 p2 sm2 d2 => ⟨_, _, (d1.keep sm2).dp, d2.dp, kinds_shaped j o, kinds_shaped j o, ?_⟩⟩⟩
  rw [SeqAt.eqv_refl _ (kinds_lay j o)]
  exact q H2 (sm1.trans sm2)
def spRefused : Sp := fun vs H Q _ => vs = [] ∧ ∀ H', Same H H' → Q (.bl true) H'
section
variable {P : Program} {w : World} {K : PySem.W.Frag} {mg : Str → Option Value} {base : Heap} {f : Addr} {fd : FuncData}
theorem ok_refused (F : FnP K "_law_refused" sRefused f fd) (o_c : OkG P w K mg base "_law_caught" 6 ["_law_which", "_law_given"] spCaught) (o_o : OkG P w K mg base "_law_only" 1 ["_law_place", "_law_bad"] spOnly) : FnG P w K mg base CX0 7 f fd [] spRefused := by
  have nd := scRefused.nd
  refine okG F scRefused (fun vs H Q E h => ?_) (fun cdv A outer s H vs Q E ag hr h => ?_)
  · obtain ⟨rfl, _⟩ := h
    rfl
  · obtain ⟨rfl, q⟩ := h
    have hu := hr.units
    have r1 : Room 1 (A.deeper (envOfC "_law_refused" (defScope sRefused) s.heap.objs.size f cdv)) := hr.mono (by decide)
    refine ⟨_, PSs.nox (pss_cons (ps_for PassesOwn.never rfl (pi_list (pe_lit 5 (d := .list bads1) rfl)) (pg_name (i := 0) nd rfl (Or.inl rfl))
        (pss_one (ps_if (PW.pt (pw_or (pt_cmpR (op_neD hu) (pe_callG o_c ag hr (by rfl) (pa_cons pe_int (pa_cons (pe_lst (pa_cons (pv 0) (pa_cons pe_non pa_nil))) pa_nil))) (pe_callG o_o ag r1 (by rfl) (pa_cons pe_int (pa_cons (pv 0) pa_nil))) (nomark _))
          (pw_or1 (pt_cmpR (op_neD hu) (pe_callG o_c ag hr (by rfl) (pa_cons pe_int (pa_cons (pe_lst (pa_cons (pe_lit 3 (d := t2) rfl) (pa_cons (pv 0) (pa_cons pe_non pa_nil)))) pa_nil))) (pe_callG o_o ag r1 (by rfl) (pa_cons pe_int (pa_cons (pv 0) pa_nil))) (nomark _))))) (pss_one (ps_ret pe_bl)) pss_nil)))
      (pss_cons (ps_for PassesOwn.never rfl (pi_list (pe_lit 5 (d := .list bads2) rfl)) (pg_name (i := 0) nd rfl (Or.inl rfl))
        (pss_one (ps_for PassesOwn.never rfl (pi_list (pe_lit 3 (d := .list [.int 1, .int 2]) rfl)) (pg_name (i := 1) nd rfl (Or.inl rfl))
          (pss_one (ps_if (pt_cmpR (op_neD hu) (pe_callG o_c ag hr (by rfl) (pa_cons (pv 1) (pa_cons (pe_lst (pa_cons (pv 0) (pa_cons pe_non (pa_cons pe_non pa_nil)))) pa_nil))) (pe_callG o_o ag r1 (by rfl) (pa_cons pe_int (pa_cons (pv 0) pa_nil))) (nomark _)) (pss_one (ps_ret pe_bl)) pss_nil)))))
      (pss_cons (ps_for PassesOwn.never rfl (pi_list (pe_lit 5 (d := .list bads3) rfl)) (pg_name (i := 0) nd rfl (Or.inl rfl))
        (pss_one (ps_if (pt_cmpR (op_neD hu) (pe_callG o_c ag hr (by rfl) (pa_cons pe_int (pa_cons (pe_lst (pa_cons (pe_lit 3 (d := t3) rfl) (pa_cons (pv 0) pa_nil))) pa_nil))) (pe_callG o_o ag r1 (by rfl) (pa_cons pe_int (pa_cons (pv 0) pa_nil))) (nomark _)) (pss_one (ps_ret pe_bl)) pss_nil)))
      (pss_cons (ps_set (i := 2) nd rfl (Or.inl rfl) (pe_lit 5 (d := .list bads4) rfl))
      (pss_cons (ps_for PassesOwn.never rfl (pi_list (pe_op op_cat (pv 2) (pe_lit 5 (d := .list bads5) rfl))) (pg_name (i := 0) nd rfl (Or.inl rfl))
        (pss_one (ps_if (pt_cmpR (op_neD hu) (pe_callG o_c ag hr (by rfl) (pa_cons pe_int (pa_cons (pe_lst (pa_cons (pe_lit 3 (d := t3) rfl) (pa_cons pe_int (pa_cons (pv 0) pa_nil)))) pa_nil))) (pe_callG o_o ag r1 (by rfl) (pa_cons pe_int (pa_cons (pv 0) pa_nil))) (nomark _)) (pss_one (ps_ret pe_bl)) pss_nil)))
      (pss_one (ps_ret pe_bl))))))), ?_⟩
    have small : ∀ n : Nat, n ≤ 1000 → n ≤ sizeLine := fun n hn => by
      rw [sizeLine_eq]
      omega
    have z1 : ∀ d, d ∈ bads1 → okD d = true ∧ askD 0 [d, .none] 0 0 = true ∧ askD 2 [t2, d, .none] 0 1 = true := fun d hd => by
      have z := List.all_eq_true.mp ok1 d hd
      simpa only [Bool.and_eq_true] using z
    have z2 : ∀ d, d ∈ bads2 → okD d = true ∧ askD 1 [d, .none, .none] 1 0 = true ∧ askD 2 [d, .none, .none] 1 0 = true := fun d hd => by
      have z := List.all_eq_true.mp ok2 d hd
      simpa only [Bool.and_eq_true] using z
    have z3 : ∀ d, d ∈ bads3 → okD d = true ∧ askD 1 [t3, d] 2 1 = true := fun d hd => by
      have z := List.all_eq_true.mp ok3 d hd
      simpa only [Bool.and_eq_true] using z
    have z4 : ∀ d, d ∈ bads4 ++ bads5 → okD d = true ∧ askD 2 [t3, .int 1, d] 3 2 = true := fun d hd => by
      have z := List.all_eq_true.mp ok45 d hd
      simpa only [Bool.and_eq_true] using z
    have n2 : 2 ≤ sizeLine := small 2 (by decide)
    have n3 : 3 ≤ sizeLine := small 3 (by decide)
    -- the first loop
    refine fun l1 H1 s1 d1 => ?_
    cases d1 with
    | @lst a1 xs1 _ h1 da1 =>
    refine ⟨a1, rfl, ⟨_, SqL.of h1⟩, for_list (K := K) (a := a1) (xs := xs1) (fun i σ H' => (∃ u0 u1 u2, σ = [u0, u1, u2]) ∧ Same H1 H') ⟨⟨_, _, _, rfl⟩, Same.refl _⟩ (fun i σ H' _ p => SqL.of (p.2 _ _ h1)) ?_ ?_⟩
    · rintro i y σ H' hi ⟨⟨u0, u1, u2, rfl⟩, sm⟩
      obtain ⟨d, ed, hd⟩ := da1.get hi
      obtain ⟨o, k1, k2⟩ := z1 d (List.mem_of_getElem? ed)
      have hd1 := hd.keep sm
      refine ⟨_, rfl, n2, fun l nl => ?_⟩
      have hl := same_new (o := .lst [y, .non]) nl
      refine ask (K := K) (σ := [some y, u1, u2]) (wh := 0) (as_ := [y, .non]) upd_same (.cons (hd1.keep hl) (.cons .non .nil)) k1 rfl o (hd1.keep hl) rfl fun H2 sm2 => ⟨false, rfl, iteF ?_⟩
      refine fun t H3 sm3 dt => ⟨_, rfl, n3, fun l' nl' => ?_⟩
      have hl' := same_new (o := .lst [t, y, .non]) nl'
      have hd3 := ((hd1.keep hl).keep sm2).keep sm3
      exact ask (K := K) (σ := [some y, u1, u2]) (wh := 2) (as_ := [t, y, .non]) upd_same (.cons (dt.keep hl') (.cons (hd3.keep hl') (.cons .non .nil))) k2 rfl o (hd3.keep hl') rfl fun H4 sm4 => ⟨false, rfl, iteF ⟨⟨_, _, _, rfl⟩, ((((sm.trans hl).trans sm2).trans sm3).trans hl').trans sm4⟩⟩
    rintro σ H2 ⟨⟨u0, u1, u2, rfl⟩, sm2⟩
    have S2 := s1.trans sm2
    clear h1 da1 sm2
    -- the second one
    refine fun l1 H3 s3 d3 => ?_
    cases d3 with
    | @lst a3 xs3 _ h3 da3 =>
    refine ⟨a3, rfl, ⟨_, SqL.of h3⟩, for_list (K := K) (a := a3) (xs := xs3) (fun i σ H' => (∃ u0 u1 u2, σ = [u0, u1, u2]) ∧ Same H3 H') ⟨⟨_, _, _, rfl⟩, Same.refl _⟩ (fun i σ H' _ p => SqL.of (p.2 _ _ h3)) ?_ ?_⟩
    · rintro i y σ H' hi ⟨⟨v0, v1, v2, rfl⟩, sm⟩
      obtain ⟨d, ed, hd⟩ := da3.get hi
      obtain ⟨o, k1, k2⟩ := z2 d (List.mem_of_getElem? ed)
      have hd1 := hd.keep sm
      refine fun lw Hw sw dw => ?_
      cases dw with
      | @lst aw xw _ hw daw =>
      refine ⟨aw, rfl, ⟨_, SqL.of hw⟩, for_list (K := K) (a := aw) (xs := xw) (fun i σ H2 => (∃ w1, σ = [some y, w1, v2]) ∧ Same Hw H2) ⟨⟨_, rfl⟩, Same.refl _⟩ (fun i σ H2 _ p => SqL.of (p.2 _ _ hw)) ?_ ?_⟩
      · rintro m yw σ H2 hm ⟨⟨w1, rfl⟩, smw⟩
        obtain ⟨dm, em, hdm⟩ := daw.get hm
        have hd2 := (hd1.keep sw).keep smw
        have hwh : ∃ wh : Nat, yw = .int wh ∧ askD wh [d, .none, .none] 1 0 = true := by
          match m, em with
          | 0, em =>
            cases em
            cases hdm
            exact ⟨1, rfl, k1⟩
          | 1, em =>
            cases em
            cases hdm
            exact ⟨2, rfl, k2⟩
          | m + 2, em => simp at em
        obtain ⟨wh, rfl, k⟩ := hwh
        refine ⟨_, rfl, _, rfl, n3, fun l nl => ?_⟩
        have hl := same_new (o := .lst [y, .non, .non]) nl
        exact ask (K := K) (σ := [some y, some (.int wh), v2]) (wh := wh) (as_ := [y, .non, .non]) upd_same (.cons (hd2.keep hl) (.cons .non (.cons .non .nil))) k rfl o (hd2.keep hl) rfl fun H5 sm5 => ⟨false, rfl, iteF ⟨⟨_, rfl⟩, (smw.trans hl).trans sm5⟩⟩
      · rintro σ H2 ⟨⟨w1, rfl⟩, smw⟩
        exact ⟨⟨_, _, _, rfl⟩, (sm.trans sw).trans smw⟩
    rintro σ H4 ⟨⟨v0, v1, v2, rfl⟩, sm4⟩
    have S4 := (S2.trans s3).trans sm4
    clear h3 da3 sm4
    -- the third one
    refine fun l5 H5 s5 d5 => ?_
    cases d5 with
    | @lst a5 xs5 _ h5 da5 =>
    refine ⟨a5, rfl, ⟨_, SqL.of h5⟩, for_list (K := K) (a := a5) (xs := xs5) (fun i σ H' => (∃ u0 u1 u2, σ = [u0, u1, u2]) ∧ Same H5 H') ⟨⟨_, _, _, rfl⟩, Same.refl _⟩ (fun i σ H' _ p => SqL.of (p.2 _ _ h5)) ?_ ?_⟩
    · rintro i y σ H' hi ⟨⟨w0, w1, w2, rfl⟩, sm⟩
      obtain ⟨d, ed, hd⟩ := da5.get hi
      obtain ⟨o, k1⟩ := z3 d (List.mem_of_getElem? ed)
      refine fun t H3 sm3 dt => ⟨_, rfl, n2, fun l' nl' => ?_⟩
      have hl' := same_new (o := .lst [t, y]) nl'
      have hd3 := (hd.keep sm).keep sm3
      exact ask (K := K) (σ := [some y, w1, w2]) (wh := 1) (as_ := [t, y]) upd_same (.cons (dt.keep hl') (.cons (hd3.keep hl') .nil)) k1 rfl o (hd3.keep hl') rfl fun H4 sm4 => ⟨false, rfl, iteF ⟨⟨_, _, _, rfl⟩, ((sm.trans sm3).trans hl').trans sm4⟩⟩
    rintro σ H6 ⟨⟨w0, w1, w2, rfl⟩, sm6⟩
    have S6 := (S4.trans s5).trans sm6
    clear h5 da5 sm6
    -- the fourth one
    refine fun lb H7 s7 d7 => ?_
    cases d7 with
    | @lst a7 xs7 _ h7 da7 =>
    refine ⟨_, rfl, fun lc H8 s8 d8 => ?_⟩
    cases d8 with
    | @lst a8 xs8 _ h8 da8 =>
    have le7 := da7.length
    have le8 := da8.length
    refine ⟨a7, a8, xs7, xs8, rfl, rfl, s8 _ _ h7, h8, ?_, fun p np => ?_⟩
    · rw [le7, le8]
      exact small _ (by decide)
    have h9 : upd H8 p (.lst (xs7 ++ xs8)) p = some (.lst (xs7 ++ xs8)) := upd_same
    have s9 := same_new (o := .lst (xs7 ++ xs8)) np
    have da9 : DaAll (upd H8 p (.lst (xs7 ++ xs8))) (xs7 ++ xs8) (bads4 ++ bads5) := (daAll_append (da7.keep s8) da8).keep s9
    have S9 := ((S6.trans s7).trans s8).trans s9
    generalize upd H8 p (.lst (xs7 ++ xs8)) = H9 at *
    refine ⟨p, rfl, ⟨_, SqL.of h9⟩, for_list (K := K) (a := p) (xs := xs7 ++ xs8) (fun i σ H' => (∃ u0 u1 u2, σ = [u0, u1, u2]) ∧ Same H9 H') ⟨⟨_, _, _, rfl⟩, Same.refl _⟩ (fun i σ H' _ p => SqL.of (p.2 _ _ h9)) ?_ ?_⟩
    · rintro i y σ H' hi ⟨⟨x0, x1, x2, rfl⟩, sm⟩
      obtain ⟨d, ed, hd⟩ := da9.get hi
      obtain ⟨o, k1⟩ := z4 d (List.mem_of_getElem? ed)
      refine fun t H3 sm3 dt => ⟨_, rfl, n3, fun l' nl' => ?_⟩
      have hl' := same_new (o := .lst [t, .int 1, y]) nl'
      have hd3 := (hd.keep sm).keep sm3
      exact ask (K := K) (σ := [some y, x1, x2]) (wh := 2) (as_ := [t, .int 1, y]) upd_same (.cons (dt.keep hl') (.cons (.int 1) (.cons (hd3.keep hl') .nil))) k1 rfl o (hd3.keep hl') rfl fun H4 sm4 => ⟨false, rfl, iteF ⟨⟨_, _, _, rfl⟩, ((sm.trans sm3).trans hl').trans sm4⟩⟩
    rintro σ H10 ⟨_, sm10⟩
    exact q H10 (S9.trans sm10)
end
end K1
set_option Elab.async false
set_option linter.all false
set_option maxRecDepth 100000
set_option maxHeartbeats 4000000
namespace K1
open PySem PySem.Spec PyProof.Rows L2 XV
/-- the sum of what stands at j in the forms, times the numbers -/
def colS (xs : List Int) (ns : List (List Int)) (j : Nat) : Int := (List.zipWith (· * ·) xs (ns.map fun n => n.getD j 0)).sum
theorem withV_eq (c : Int) (xs : List Int) (ns : List (List Int)) (j : Nat) : withV c xs ns j = (if j = 0 then c else 0) + colS xs ns j := by
  unfold withV colS
  rw [List.zipWith_map_right]
  congr 2
  exact congrArg (fun f => List.zipWith f xs ns) (funext fun x => funext fun n => Int.mul_comm _ _)
theorem dot_nil (ys : List Int) : dot [] ys = 0 := rfl
theorem dot_cons (x y : Int) (xs ys : List Int) : dot (x :: xs) (y :: ys) = x * y + dot xs ys := rfl
theorem dot_nil' (xs : List Int) : dot xs [] = 0 := by
  unfold dot
  rw [List.zipWith_nil_right]
  rfl
theorem dot_lin (u v : Nat → Int) (x : Int) : ∀ (L : List Nat) (ys : List Int), dot (L.map fun j => u j * x + v j) ys = x * dot (L.map u) ys + dot (L.map v) ys
  | [], ys => by simp [dot_nil]
  | j :: L, [] => by simp [dot_nil']
  | j :: L, y :: ys => by
    rw [List.map_cons, List.map_cons, List.map_cons, dot_cons, dot_cons, dot_cons, dot_lin u v x L ys, Int.mul_add, Int.add_mul]
    have e : u j * x * y = x * (u j * y) := by rw [Int.mul_comm (u j) x, Int.mul_assoc]
    omega
theorem dot_zero : ∀ (L : List Nat) (ys : List Int), dot (L.map fun _ => (0 : Int)) ys = 0
  | [], ys => rfl
  | j :: L, [] => dot_nil' _
  | j :: L, y :: ys => by
    rw [List.map_cons, dot_cons, dot_zero L ys, Int.zero_mul, Int.add_zero]
theorem tail_map {m : Nat} {n : List Int} (h : n.length = m + 1) : n.tail = (List.range m).map fun j => n.getD (j + 1) 0 := by
  cases n with
  | nil => cases h
  | cons a n =>
    have l : n.length = m := by simpa using h
    show n = _
    refine List.ext_getElem (by simp [l]) fun i h1 h2 => ?_
    rw [List.getElem_map, List.getElem_range, List.getD_eq_getElem?_getD, List.getElem?_cons_succ, List.getElem?_eq_getElem h1]
    rfl
/-- a form's value -/
def valF (n ys : List Int) : Int := n.getD 0 0 + dot n.tail ys
theorem ins_val (ys : List Int) (m : Nat) : ∀ (xs : List Int) (ns : List (List Int)), (∀ n ∈ ns, n.length = m + 1) → colS xs ns 0 + dot ((List.range m).map fun j => colS xs ns (j + 1)) ys = dot xs (ns.map fun n => valF n ys)
  | [], ns, _ => by
    have e : ∀ j, colS [] ns j = 0 := fun j => rfl
    rw [e, dot_nil, Int.zero_add]
    exact (congrArg (fun f => dot ((List.range m).map f) ys) (funext fun j => e (j + 1))).trans (dot_zero _ _)
  | x :: xs, [], _ => by
    have e : ∀ j, colS (x :: xs) [] j = 0 := fun j => rfl
    rw [e, List.map_nil, dot_nil', Int.zero_add]
    exact (congrArg (fun f => dot ((List.range m).map f) ys) (funext fun j => e (j + 1))).trans (dot_zero _ _)
  | x :: xs, n :: ns, h => by
    have ih := ins_val ys m xs ns fun z hz => h z (List.mem_cons_of_mem _ hz)
    have hn := h n List.mem_cons_self
    have e : ∀ j, colS (x :: xs) (n :: ns) j = n.getD j 0 * x + colS xs ns j := fun j => by
      show x * n.getD j 0 + colS xs ns j = _
      rw [Int.mul_comm]
    have e2 : ((List.range m).map fun j => colS (x :: xs) (n :: ns) (j + 1)) = (List.range m).map fun j => n.getD (j + 1) 0 * x + colS xs ns (j + 1) := congrArg (fun f => (List.range m).map f) (funext fun j => e (j + 1))
    rw [e2, e, dot_lin (fun j => n.getD (j + 1) 0) (fun j => colS xs ns (j + 1)), List.map_cons, dot_cons, ← ih]
    show _ = x * (n.getD 0 0 + dot n.tail ys) + _
    rw [tail_map hn, Int.mul_add, Int.mul_comm x (n.getD 0 0)]
    omega
/-- the value of an inserted form -/
theorem found_val (c : Int) (xs : List Int) (ns : List (List Int)) (ys : List Int) (m : Nat) (h : ∀ n ∈ ns, n.length = m + 1) :
    withV c xs ns 0 + dot ((List.range m).map fun j => withV c xs ns (j + 1)) ys = c + dot xs (ns.map fun n => valF n ys) := by
  have e : ((List.range m).map fun j => withV c xs ns (j + 1)) = (List.range m).map fun j => colS xs ns (j + 1) := congrArg (fun f => (List.range m).map f) (funext fun j => by rw [withV_eq, if_neg (by omega), Int.zero_add])
  rw [e, withV_eq, if_pos rfl, ← ins_val ys m xs ns h]
  omega
theorem found_list (c : Int) (xs : List Int) (ns : List (List Int)) (m : Nat) : (List.range (m + 1)).map (withV c xs ns) = withV c xs ns 0 :: (List.range m).map fun j => withV c xs ns (j + 1) := by
  rw [List.range_succ_eq_map, List.map_cons, List.map_map]
  rfl
theorem found_due (c : Int) (xs : List Int) (ns : List (List Int)) (m : Nat) : (List.range (m + 1)).map (withV c xs ns) = [c + colS xs ns 0] ++ (List.range m).map fun j => colS xs ns (j + 1) := by
  rw [found_list, withV_eq, if_pos rfl]
  refine congrArg (fun l => (c + colS xs ns 0) :: l) ?_
  exact congrArg (fun f => (List.range m).map f) (funext fun j => by rw [withV_eq, if_neg (by omega), Int.zero_add])
/-! ### sizes -/
theorem Sz.le {k l : Nat} {x : Int} (h : Sz k x) (hl : k ≤ l) : Sz l x := by
  refine ⟨h.1, Int.lt_of_lt_of_le h.2 ?_⟩
  have e : (2 : Nat) ^ k ≤ 2 ^ l := Nat.pow_le_pow_right (by decide) hl
  have e2 : ((2 ^ k : Nat) : Int) ≤ ((2 ^ l : Nat) : Int) := Int.ofNat_le.mpr e
  simpa [Int.natCast_pow] using e2
theorem Sz.add {k : Nat} {x y : Int} (h : Sz k x) (g : Sz k y) : Sz (k + 1) (x + y) := by
  refine ⟨Int.add_nonneg h.1 g.1, ?_⟩
  have h2 := h.2
  have g2 := g.2
  rw [Int.pow_succ]
  omega
theorem Sz.zero (k : Nat) : Sz k 0 := ⟨Int.le_refl 0, Int.pow_pos (by decide)⟩
theorem sz_dot {k l : Nat} : ∀ (xs ys : List Int), (∀ x ∈ xs, Sz k x) → (∀ y ∈ ys, Sz l y) → Sz (k + l + xs.length) (dot xs ys)
  | [], ys, _, _ => Sz.zero _
  | x :: xs, [], _, _ => by
    rw [dot_nil']
    exact Sz.zero _
  | x :: xs, y :: ys, hx, hy => by
    rw [dot_cons]
    have a := ((hx x List.mem_cons_self).mul (hy y List.mem_cons_self)).le (Nat.le_add_right (k + l) xs.length)
    have b := sz_dot xs ys (fun z hz => hx z (List.mem_cons_of_mem _ hz)) fun z hz => hy z (List.mem_cons_of_mem _ hz)
    exact a.add b
theorem sz_getD {k : Nat} {n : List Int} (h : ∀ x ∈ n, Sz k x) (j : Nat) : Sz k (n.getD j 0) := by
  rw [List.getD_eq_getElem?_getD]
  cases e : n[j]? with
  | none => exact Sz.zero k
  | some y => exact h y (List.mem_of_getElem? e)
theorem sz_colS {k l : Nat} {xs : List Int} {ns : List (List Int)} (hx : ∀ x ∈ xs, Sz k x) (hn : ∀ n ∈ ns, ∀ x ∈ n, Sz l x) (j : Nat) : Sz (k + l + xs.length) (colS xs ns j) := by
  refine sz_dot xs (ns.map fun n => n.getD j 0) hx fun y hy => ?_
  obtain ⟨n, hn2, rfl⟩ := List.mem_map.mp hy
  exact sz_getD (hn n hn2) j
theorem sz_withV {k l : Nat} {c : Int} {xs : List Int} {ns : List (List Int)} (hc : Sz (k + l + xs.length) c) (hx : ∀ x ∈ xs, Sz k x) (hn : ∀ n ∈ ns, ∀ x ∈ n, Sz l x) (j : Nat) : Sz (k + l + xs.length + 1) (withV c xs ns j) := by
  rw [withV_eq]
  refine Sz.add ?_ (sz_colS hx hn j)
  by_cases e : j = 0
  · rw [if_pos e]
    exact hc
  · rw [if_neg e]
    exact Sz.zero _
theorem sz_valF {k l : Nat} {n ys : List Int} (hn : ∀ x ∈ n, Sz k x) (hy : ∀ y ∈ ys, Sz l y) : Sz (k + l + n.length + 1) (valF n ys) := by
  refine Sz.add ((sz_getD hn 0).le (by omega)) ((sz_dot n.tail ys (fun x hx => hn x (List.mem_of_mem_tail hx)) hy).le ?_)
  rw [List.length_tail]
  omega
end K1
set_option Elab.async false
set_option linter.all false
set_option maxRecDepth 100000
set_option maxHeartbeats 4000000
/-! f(k = v, ..), all by keywords, the names in the parameters' order turned round. -/
namespace XV
open PySem PySem.Spec PyProof.Rows L2
theorem vals_rev : ∀ {vs : List V} {us : List Value}, Vals vs us → Vals vs.reverse us.reverse
  | _, _, .nil => .nil
  | _, _, .cons r rr => by
    rw [List.reverse_cons, List.reverse_cons]
    exact (vals_rev rr).append (.cons r .nil)
structure OkK (P : Program) (w : World) (K : PySem.W.Frag) (mg : Str → Option Value) (base : Heap) (x : Str) (k : Nat) (ps : List Str) (sp : Sp) : Prop where
  ex : ∃ f fd, FnOk P w K mg base CX0 k f fd ps sp ∧ mg x = some (.ref f) ∧ PySem.W.keepIn K (.ref f) = true ∧ KBn K fd ps 0 ps.reverse (fun _ ws => ws.reverse) (fun _ zs => zs.reverse)
theorem OkK.mk' {P : Program} {w : World} {K : PySem.W.Frag} {mg : Str → Option Value} {base : Heap} {x : Str} {k : Nat} {ps : List Str} {sp : Sp} {body : List Stmt} {params : Arguments} {scope : Scope} {f : Addr} {fd : FuncData}
    (F : FunD K x x params body scope [] [] f fd) (g : mg x = some (.ref f)) (b : ∀ (kV doc pm : Value) (an : Option Addr) (cdv ct : Value) (ws : List Value), ws.length = ps.length → bindArgs (PySem.W.fnOf x x params body scope .none kV doc pm an cdv ct) ⟨[], ps.reverse.zip ws⟩ = pure (ps.zip ws.reverse))
    (ok : FnOk P w K mg base CX0 k f fd ps sp) : OkK P w K mg base x k ps sp := by
  refine ⟨f, fd, ok, g, F.kp, ⟨fun s us ws _ l1 l2 => ?_, fun _ r => vals_rev r⟩⟩
  obtain ⟨oc, od, dV, kV, doc, pm, an, cdv, ct, osl, rfl, lk, hcd, hD, hK⟩ := F.ex
  rcases hD with ⟨_, rfl⟩ | ⟨e, _⟩
  · obtain rfl := List.length_eq_zero_iff.mp l1
    exact .of_eq (b kV doc pm an cdv ct ws (by rw [l2, List.length_reverse]))
  · exact absurd rfl e
section
variable {X : Cx} {k : Nat} {ps : List Str} {sp : Sp} {x : Str} {kws : List Keyword} {tk : TA} {p pos : Pos}
theorem pe_callK (o : OkK X.prog X.w X.K X.mg X.base x k ps sp) (hr : Room k X.A) (hg : Gl X x) (hk : PK X kws tk) (hdb : (x == ("__debug__" : Str)) = false := by decide)
    (hall : (backToKw pos (keywordEach kws X.env)).all (·.1.isSome) = true := by rfl) (hks : (backToKw pos (keywordEach kws X.env)).filterMap (·.1) = ps.reverse := by rfl)
    (hpl : ((backTo pos (starEach [] X.env)).any (·.1) || (backToKw pos (keywordEach kws X.env)).any (·.1.isNone)) = false := by rfl) :
    PE X (.Call (.Name x p) [] kws pos) (fun σ H Q => tk σ H fun zs H1 => zs.length = ps.reverse.length ∧ sp zs.reverse H1 Q E0) := by
  obtain ⟨f, fd, F, hm, kp, B⟩ := o.ex
  refine ⟨fun pins s σ H Q I h => ?_⟩
  refine wpAny_Call_Name_kw (ld_glob I hg hm ?_ hdb)
  refine PySem.W.callWith_KW0 (h₀ := X.base) I.ok.mod.kin kp hall (thn (hk.run pos pins s σ H _ I h) fun ws s1 z => ?_) hpl
  obtain ⟨zs, H1, I1, r, l, q⟩ := z
  refine ⟨I1.kIn, ?_⟩
  rw [hks]
  exact run_fnN (us := []) (vs := []) F hr B pass0 I1 .nil r rfl l q
end
end XV
set_option Elab.async false
set_option linter.all false
set_option maxRecDepth 100000
set_option maxHeartbeats 4000000
namespace XV
open PySem PySem.Spec PyProof.Rows L2
section
variable {X : Cx}
/-- t + u, t[lo:hi]: the answer is to be read, wherever it stands -/
def rCatS : R2 := fun x y H Q => ∃ a b xs ys, x = .ref a ∧ y = .ref b ∧ H a = some (.tup xs) ∧ H b = some (.tup ys) ∧ xs.length + ys.length ≤ sizeLine ∧ ∀ (H' : Hp) (p : Addr), Same H H' → H' p = some (.tup (xs ++ ys)) → Q (.ref p) H'
theorem op_catS : OpR X (binaryOp .Add) rCatS := by
  intro pins s σ H x y v u Q I rx ry h
  obtain ⟨a, b, xs, ys, rfl, rfl, ha, hb, hz, q⟩ := h
  refine op_catA pins s σ H _ _ v u Q I rx ry ⟨a, b, xs, ys, rfl, rfl, SqT.of ha, SqT.of hb, hz, fun e => ?_, fun _ e => ?_, fun _ _ p np => q _ p (same_new np) upd_same⟩
  · subst e
    exact q H b (fun _ _ z => z) hb
  · subst e
    exact q H a (fun _ _ z => z) (by rw [List.append_nil]; exact ha)
def rSlS : V → Option Int → Option Int → Hp → VK → Prop := fun x lo hi H Q => ∃ a xs, x = .ref a ∧ H a = some (.tup xs) ∧ ∀ (H' : Hp) (p : Addr), Same H H' → H' p = some (.tup (cutV xs lo hi)) → Q (.ref p) H'
theorem sl_tupS : SlR X rSlS := by
  intro pins s σ H x v vl vu lo hi sl Q I rx hs pl pu h
  obtain ⟨a, xs, rfl, hx, q⟩ := h
  refine sl_tupA pins s σ H _ v vl vu lo hi sl Q I rx hs pl pu ⟨a, xs, rfl, SqT.of hx, fun w => q H a (fun _ _ z => z) ?_, fun _ p np => q _ p (same_new np) upd_same⟩
  rw [hx]
  unfold cutV
  rw [w.1, w.2, List.drop_zero, Nat.sub_zero, List.take_length]
end
end XV
namespace K1
open PySem PySem.Spec PyProof.Rows L2 XV
abbrev sGood : Stmt := top 32
abbrev nGood : List Str := ["_law_generator_here", "_law_many", "_law_other", "_law_at", "_law_form_here", "_law_forms", "_law_given", "_law_found", "_law_due", "_law_bound", "_law_point", "_law_values", "_law_near", "_law_wrong", "_law_bad", "_law_place", "_law_one"]
theorem scGood : FnScope nGood ["_law_generator_here"] (defScope sGood) := ⟨rfl, rfl, rfl, by decide +kernel, rfl, by decide +kernel, by decide +kernel⟩
abbrev scP : Scope := { kind := .function, names := [(Str.ofString ".0", .local), (Str.ofString "_law_place", .cell), (Str.ofString "sum", .globalImplicit), (Str.ofString "range", .globalImplicit), (Str.ofString "_law_form_here", .cell), (Str.ofString "_law_forms", .cell), (Str.ofString "_law_many", .cell)], isGenerator := false, isCoroutine := false }
abbrev scA : Scope := { kind := .function, names := [(Str.ofString ".0", .local), (Str.ofString "_law_at", .local), (Str.ofString "_law_form_here", .free), (Str.ofString "_law_forms", .free), (Str.ofString "_law_place", .free)], isGenerator := false, isCoroutine := false }
theorem blk_pa : BlkOk nGood scP scA [("_law_at", 3)] := blkOk_by (by decide +kernel)
theorem dr_new {H : Hp} {g p : Addr} {n : Nat} {o : HO} (d : Dr H g n) (np : H p = none) : Dr (upd H p o) g n := by
  obtain ⟨a, b, c, e, r⟩ := d
  exact ⟨a, b, c, by rw [upd_ne (ne_of_none e np)]; exact e, r⟩
theorem dr_upd {H : Hp} {g p : Addr} {n : Nat} {o : HO} (d : Dr H g n) (h : g ≠ p) : Dr (L2.upd H p o) g n := by
  obtain ⟨a, b, c, e, r⟩ := d
  exact ⟨a, b, c, by rw [upd_ne h]; exact e, r⟩
theorem dr_ne {H : Hp} {g p : Addr} {n : Nat} (d : Dr H g n) (np : H p = none) : g ≠ p := by
  obtain ⟨a, b, c, e, r⟩ := d
  exact ne_of_none e np
theorem dr_tup {H H' : Hp} {g p : Addr} {n : Nat} {xs : List V} (d : Dr H g n) (b : But H H' g) (h : H p = some (.tup xs)) : H' p = some (.tup xs) := by
  obtain ⟨_, _, _, e, _⟩ := d
  exact b _ _ (fun z => by rw [z, e] at h; cases h) h
theorem but_new {H H' : Hp} {g p : Addr} {o : HO} (b : But H H' g) (np : H' p = none) : But H (upd H' p o) g := b.trans (Same.but (same_new np))
/-- forms for m unknowns with small numbers -/
def Fk (H : Hp) (la : Addr) (m : Nat) (ps : List (Addr × List Int)) : Prop := H la = some (.lst (ps.map fun p => V.ref p.1)) ∧ ∀ p ∈ ps, H p.1 = some (.tup (p.2.map V.int)) ∧ p.2.length = m + 1 ∧ ∀ x ∈ p.2, Sz 100 x
/-- behind the drawing of the forms -/
structure GA (H0 H : Hp) (g : Addr) (n k m : Nat) (fa la : Addr) (c : Int) (xs : List Int) (ps : List (Addr × List Int)) : Prop where
  but : But H0 H g
  dr : Dr H g n
  k4 : k < 4
  m4 : m < 4
  hf : H fa = some (.tup ((c :: xs).map V.int))
  lx : xs.length = k
  sc : Sz 100 c
  sx : ∀ x ∈ xs, Sz 100 x
  fk : Fk H la m ps
  lp : ps.length = k
  la_ : la ≠ g
theorem GA.same {H0 H H' : Hp} {g : Addr} {n k m : Nat} {fa la : Addr} {c : Int} {xs : List Int} {ps : List (Addr × List Int)} (A : GA H0 H g n k m fa la c xs ps) (s : Same H H') : GA H0 H' g n k m fa la c xs ps :=
  { but := A.but.trans (Same.but s), dr := A.dr.elim fun a z => z.elim fun b z => z.elim fun c z => ⟨a, b, c, s _ _ z.1, z.2⟩, k4 := A.k4, m4 := A.m4, hf := s _ _ A.hf, lx := A.lx, sc := A.sc, sx := A.sx, fk := ⟨s _ _ A.fk.1, fun p hp => ⟨s _ _ (A.fk.2 p hp).1, (A.fk.2 p hp).2⟩⟩, lp := A.lp, la_ := A.la_ }
theorem GA.drawn {H0 H H' : Hp} {g : Addr} {n n' k m : Nat} {fa la : Addr} {c : Int} {xs : List Int} {ps : List (Addr × List Int)} (A : GA H0 H g n k m fa la c xs ps) (b : But H H' g) (d : Dr H' g n') : GA H0 H' g n' k m fa la c xs ps :=
  { but := A.but.trans b, dr := d, k4 := A.k4, m4 := A.m4, hf := dr_tup A.dr b A.hf, lx := A.lx, sc := A.sc, sx := A.sx, fk := ⟨b _ _ A.la_ A.fk.1, fun p hp => ⟨dr_tup A.dr b (A.fk.2 p hp).1, (A.fk.2 p hp).2⟩⟩, lp := A.lp, la_ := A.la_ }
theorem lay_ints : ∀ l : List Int, PyData.canLayAll0 (l.map PyData.int) = true
  | [] => by simp [PyData.canLayAll0]
  | x :: l => by simp [PyData.canLayAll0, PyData.canLay0, lay_ints l]
theorem depth_ints : ∀ l : List Int, PyData.depthAll (l.map PyData.int) = 0
  | [] => by simp [PyData.depthAll]
  | x :: l => by simp [PyData.depthAll, PyData.depth, depth_ints l]
theorem shaped_tup (l : List Int) : SeqAt.shaped (.tuple (l.map PyData.int)) = true := by simp [SeqAt.shaped, PyData.canLay0, lay_ints, PyData.depth, depth_ints]
theorem shaped_lst (l : List Int) : SeqAt.shaped (.list (l.map PyData.int)) = true := by simp [SeqAt.shaped, PyData.canLay0, lay_ints, PyData.depth, depth_ints]
theorem lay_forms : ∀ ls : List (List Int), PyData.canLayAll0 (ls.map fun l => PyData.tuple (l.map PyData.int)) = true
  | [] => by simp [PyData.canLayAll0]
  | l :: ls => by
    have ih := lay_forms ls
    simp [PyData.canLayAll0, PyData.canLay0, lay_ints, ih]
theorem depth_forms : ∀ ls : List (List Int), PyData.depthAll (ls.map fun l => PyData.tuple (l.map PyData.int)) ≤ 1
  | [] => by simp [PyData.depthAll]
  | l :: ls => by
    have ih := depth_forms ls
    simp only [List.map_cons, PyData.depthAll, PyData.depth, depth_ints]
    omega
theorem shaped_forms (ls : List (List Int)) : SeqAt.shaped (.list (ls.map fun l => PyData.tuple (l.map PyData.int))) = true := by
  have h := depth_forms ls
  have e : (PyData.list (ls.map fun l => PyData.tuple (l.map PyData.int))).depth ≤ 64 := by
    simp only [PyData.depth]
    omega
  have e2 : (PyData.list (ls.map fun l => PyData.tuple (l.map PyData.int))).canLay0 = true := by
    simp only [PyData.canLay0]
    exact lay_forms ls
  unfold SeqAt.shaped
  rw [e2, decide_eq_true e]
  rfl
theorem dp_ints {K : PySem.W.Frag} {H : Hp} : ∀ l : List Int, DpAll K H (l.map V.int) (l.map PyData.int)
  | [] => .nil
  | x :: l => .cons (.int x) (dp_ints l)
theorem dp_formsA {K : PySem.W.Frag} {H : Hp} : ∀ ps : List (Addr × List Int), (∀ p ∈ ps, H p.1 = some (.tup (p.2.map V.int))) → DpAll K H (ps.map fun p => V.ref p.1) ((ps.map fun p => p.2).map fun l => PyData.tuple (l.map PyData.int))
  | [], _ => .nil
  | p :: ps, h => .cons (.tup (SqT.of (h p List.mem_cons_self)) (dp_ints p.2)) (dp_formsA ps fun q hq => h q (List.mem_cons_of_mem _ hq))
theorem dp_forms {K : PySem.W.Frag} {H : Hp} {la : Addr} {ps : List (Addr × List Int)} (h : H la = some (.lst (ps.map fun p => V.ref p.1))) (hp : ∀ p ∈ ps, H p.1 = some (.tup (p.2.map V.int))) : Dp K H (.ref la) (.list ((ps.map fun p => p.2).map fun l => PyData.tuple (l.map PyData.int))) :=
  .lst (SqL.of h) (dp_formsA ps hp)
theorem GA.szW {H0 H : Hp} {g : Addr} {n k m : Nat} {fa la : Addr} {c : Int} {xs : List Int} {ps : List (Addr × List Int)} (A : GA H0 H g n k m fa la c xs ps) (j : Nat) : Sz 300 (withV c xs (ps.map fun p => p.2) j) := by
  have l := A.lx
  have k4 := A.k4
  refine (sz_withV (k := 100) (l := 100) (A.sc.le (by omega)) A.sx (fun z hz => ?_) j).le (by omega)
  obtain ⟨p, hp, rfl⟩ := List.mem_map.mp hz
  exact (A.fk.2 p hp).2.2
theorem GA.at_ {H0 H : Hp} {g : Addr} {n k m : Nat} {fa la : Addr} {c : Int} {xs : List Int} {ps : List (Addr × List Int)} (A : GA H0 H g n k m fa la c xs ps) {j i : Nat} {p : Addr × List Int} (ep : ps[j]? = some p) (hi : i ≤ m) : atI (p.2.map V.int) (i : Int) = some (V.int (p.2.getD i 0)) := by
  have l := (A.fk.2 p (List.mem_of_getElem? ep)).2.1
  refine atI_nat ?_
  rw [List.getElem?_map, List.getD_eq_getElem?_getD, List.getElem?_eq_getElem (by omega)]
  rfl
/-- the numbers at j: a turn of the sums -/
theorem GA.item {H0 H : Hp} {g : Addr} {n k m : Nat} {fa la : Addr} {c : Int} {xs : List Int} {ps : List (Addr × List Int)} (A : GA H0 H g n k m fa la c xs ps) {j i : Nat} (hj : j < k) (hi : i ≤ m) : ∃ (x : Int) (p : Addr × List Int), xs[j]? = some x ∧ ps[j]? = some p ∧
    atI ((c :: xs).map V.int) ((j : Int) + 1) = some (V.int x) ∧ atI (ps.map fun p => V.ref p.1) (j : Int) = some (V.ref p.1) ∧ (List.zipWith (· * ·) xs ((ps.map fun p => p.2).map fun n => n.getD i 0))[j]? = some (x * p.2.getD i 0) ∧ Sz 100 x ∧ Sz 100 (p.2.getD i 0) := by
  have l1 := A.lx
  have l2 := A.lp
  have ex : xs[j]? = some xs[j] := List.getElem?_eq_getElem (by omega)
  have ep : ps[j]? = some ps[j] := List.getElem?_eq_getElem (by omega)
  refine ⟨xs[j], ps[j], ex, ep, ?_, ?_, ?_, A.sx _ (List.mem_of_getElem? ex), sz_getD (A.fk.2 _ (List.mem_of_getElem? ep)).2.2 i⟩
  · have e : ((c :: xs).map V.int)[j + 1]? = some (.int xs[j]) := by
      rw [List.map_cons, List.getElem?_cons_succ, List.getElem?_map, ex]
      rfl
    exact atI_nat e
  · refine atI_nat ?_
    rw [List.getElem?_map, ep]
    rfl
  · refine zw_get ex ?_
    rw [List.getElem?_map, List.getElem?_map, ep]
    rfl
theorem kn_app {H : Hp} {lw : Addr} {ws ws' : List V} {v : V} (hw : H lw = some (.lst ws)) (h : Kn H v) : Kn (L2.upd H lw (.lst ws')) v := by
  cases h with
  | int i => exact .int i
  | non => exact .non
  | bl b => exact .bl b
  | str z => exact .str z
  | @lst a xs h =>
    by_cases e : a = lw
    · rw [e]
      exact .lst upd_same
    · exact .lst ((upd_ne e).trans h)
  | @tup a xs h => exact .tup ((upd_ne (fun e => by rw [e, hw] at h; cases h)).trans h)
theorem isF_app {H : Hp} {lw : Addr} {ws ws' : List V} {m : Nat} {v : V} {b : Bool} (hw : H lw = some (.lst ws)) (h : IsF H m v b) : IsF (L2.upd H lw (.lst ws')) m v b := by
  rcases h with ⟨a, xs, e, h1, h2, h3, h4⟩ | ⟨h, e⟩
  · exact .inl ⟨a, xs, e, (upd_ne (fun z => by rw [z, hw] at h1; cases h1)).trans h1, h2, fun x hx => kn_app hw (h3 x hx), h4⟩
  · refine .inr ⟨?_, e⟩
    rcases h with ⟨a, xs, e1, h⟩ | h
    · by_cases z : a = lw
      · exact .inl ⟨a, _, e1, by rw [z]; exact upd_same⟩
      · exact .inl ⟨a, xs, e1, (upd_ne z).trans h⟩
    · exact .inr h
theorem GA.app {H0 H : Hp} {g : Addr} {n k m : Nat} {fa la : Addr} {c : Int} {xs : List Int} {ps : List (Addr × List Int)} {lw : Addr} {ws ws' : List V} (A : GA H0 H g n k m fa la c xs ps) (hw : H lw = some (.lst ws)) (wg : lw ≠ g) (wl : lw ≠ la) (w0 : H0 lw = none) : GA H0 (L2.upd H lw (.lst ws')) g n k m fa la c xs ps := by
  have tp : ∀ {a : Addr} {ys : List V}, H a = some (.tup ys) → (L2.upd H lw (.lst ws')) a = some (.tup ys) := fun {a ys} h => (upd_ne (fun z => by rw [z, hw] at h; cases h)).trans h
  exact { but := fun b o nb e => by rw [upd_ne (ne_of_none e w0)]; exact A.but b o nb e, dr := dr_upd A.dr (Ne.symm wg), k4 := A.k4, m4 := A.m4, hf := tp A.hf, lx := A.lx, sc := A.sc, sx := A.sx, fk := ⟨(upd_ne (Ne.symm wl)).trans A.fk.1, fun p hp => ⟨tp (A.fk.2 p hp).1, (A.fk.2 p hp).2⟩⟩, lp := A.lp, la_ := A.la_ }
theorem cut_mem {xs : List V} {lo hi : Option Int} {x : V} (h : x ∈ cutV xs lo hi) : x ∈ xs := List.mem_of_mem_drop (List.mem_of_mem_take h)
def spGood : Sp := fun vs H Q _ => ∃ (g : Addr) (n : Nat), vs = [.ref g] ∧ Dr H g n ∧ n ≤ 100000 ∧ ∀ H' : Hp, But H H' g → Q (.bl true) H'
section
variable {P : Program} {w : World} {K : PySem.W.Frag} {mg : Str → Option Value} {base : Heap} {f : Addr} {fd : FuncData}
theorem ok_good (F : FnP K "_law_good" sGood f fd) (oRand : Ok P w K mg base "_law_random" 2 ["_law_generator_here", "_law_bound"] spRand) (oForm : Ok P w K mg base "_law_form" 4 ["_law_generator_here", "_law_many"] spForm) (oVal : Ok P w K mg base "_law_value" 1 ["_law_form_here", "_law_point"] spValue)
    (oIns : Ok P w K mg base "inserted" 5 ["form", "many", "forms"] spIns) (oInsK : OkK P w K mg base "inserted" 5 ["form", "many", "forms"] spIns) (oIs : Ok P w K mg base "is_form" 5 ["many", "value"] spIsForm) (oIsK : OkK P w K mg base "is_form" 5 ["many", "value"] spIsForm)
    (oV : Ok P w K mg base "value" 5 ["form", "point"] spVal) (oVK : OkK P w K mg base "value" 5 ["form", "point"] spVal)
    (z_range : mg "range" = none) (z_list : mg "list" = none) (z_tuple : mg "tuple" = none) (z_isinstance : mg "isinstance" = none) (z_len : mg "len" = none) (z_sum : mg "sum" = none) : FnOk P w K mg base CX0 6 f fd ["_law_generator_here"] spGood := by
  have nd := scGood.nd
  refine F.ok scGood (fun vs H Q E h => ?_) (fun cdv A outer s H vs Q E hr h => ?_)
  · obtain ⟨g, n, rfl, _⟩ := h
    rfl
  · obtain ⟨g, n, rfl, dr, hn, q⟩ := h
    have hu := hr.units
    have r5 : Room 5 (A.deeper (envOfC "_law_good" (defScope sGood) s.heap.objs.size f cdv)) := hr
    have r4 := r5.mono (by decide : 4 ≤ 5)
    have r2 := r5.mono (by decide : 2 ≤ 5)
    have r1 := r5.mono (by decide : 1 ≤ 5)
    refine ⟨_, PSs.nox (pss_cons (ps_asg (pe_tup (pa_cons (pe_callO oRand r2 (by rfl) (pa_cons (pv 0) (pa_cons pe_int pa_nil))) (pa_cons (pe_callO oRand r2 (by rfl) (pa_cons (pv 0) (pa_cons pe_int pa_nil))) pa_nil)))
        (pg_tup rfl (pgs_cons (pg_name (i := 1) nd rfl (Or.inr rfl)) (pgs_cons (pg_name (i := 2) nd rfl (Or.inr rfl)) pgs_nil))))
      (C8.pss_cut (ps_asg (pe_tup (pa_cons (pe_callO oForm r4 (by rfl) (pa_cons (pv 0) (pa_cons (pv 1) pa_nil))) (pa_cons
          (pe_lc (own := [("_law_at", 3)]) (g := gName 3) (by rfl) nd (pi_range1 (by rfl) z_range (pa_cons (pv 1) pa_nil)) (blkOk_by (N := nGood) (sc := defScope sGood) (own := [("_law_at", 3)]) (by decide +kernel)) (fun _ _ _ _ _ => pg_name (i := 3) nd rfl (Or.inl rfl)) (fun _ _ _ _ _ => pts_nil)
            (fun _ _ _ _ _ => pe_callO oForm r4 (by rfl) (pa_cons (pv 0) (pa_cons (pv 2) pa_nil)))) pa_nil)))
        (pg_tup rfl (pgs_cons (pg_name (i := 4) nd rfl (Or.inr rfl)) (pgs_cons (pg_name (i := 5) nd rfl (Or.inr rfl)) pgs_nil))))
      (pss_cons (ps_set (i := 6) nd rfl (Or.inl rfl) (pe_callTy call_list_of (by rfl) z_list (by decide +kernel) (pa_cons (pv 5) pa_nil)))
      (pss_cons (ps_set (i := 7) nd rfl (Or.inl rfl) (pe_callO oIns r5 (by rfl) (pa_cons (pv 4) (pa_cons (pv 2) (pa_cons (pv 6) pa_nil)))))
      (C8.pss_cut (ps_if (PW.pt (pw_or (pt_cmpR (op_neD hu) (pv 6) (pv 5) (nomark _)) (pw_or (pt_not (pt_val (pe_callB call_isi (by rfl) z_isinstance (by decide +kernel) (pa_cons (pv 7) (pa_cons (pe_bltn (v := .ty "tuple") (by rfl) z_tuple (by decide +kernel) rfl) pa_nil)))))
          (pw_or (pt_cmpR op_ne (pe_callB call_len (by rfl) z_len boot_len (pa_cons (pv 7) pa_nil)) (pe_op op_add (pv 2) pe_int) (nomark _)) (pw_or1 (pt_cmpR op_notBl (pe_callO oIs r5 (by rfl) (pa_cons (pv 2) (pa_cons (pv 7) pa_nil))) pe_bl (nomark _))))))) (pss_one (ps_ret pe_bl)) pss_nil)
      (pss_cons (ps_set (i := 8) nd rfl (Or.inl rfl) (pe_lst (pa_cons (pe_op op_add (pe_ix ix_tup (pv 4) pe_int (fun _ _ => rfl)) (pe_callB (cr_sum rfl) (by rfl) z_sum (by decide +kernel) (pa_cons
          (pe_lc (own := [("_law_at", 3)]) (g := gName 3) (by rfl) nd (pi_range1 (by rfl) z_range (pa_cons (pv 1) pa_nil)) (blkOk_by (N := nGood) (sc := defScope sGood) (own := [("_law_at", 3)]) (by decide +kernel)) (fun _ _ _ _ _ => pg_name (i := 3) nd rfl (Or.inl rfl)) (fun _ _ _ _ _ => pts_nil)
            (fun _ _ _ _ _ => pe_op op_mulW (pe_ix (ix_tupK (K := K) rfl) (pv 4) (pe_op op_add (pv 3) pe_int) (fun _ _ => rfl)) (pe_ix (ix_tupK (K := K) rfl) (pe_ix (ix_listK (K := K) rfl) (pv 5) (pv 3) (fun _ _ => rfl)) pe_int (fun _ _ => rfl)))) pa_nil))) pa_nil)))
      (C8.pss_cut (ps_set (i := 8) nd rfl (Or.inl rfl) (pe_op op_cat (pv 8)
          (pe_lc (own := [("_law_place", 15)]) (g := gName 15) (by rfl) nd (pi_range1 (by rfl) z_range (pa_cons (pv 2) pa_nil)) (blkOk_by (N := nGood) (sc := defScope sGood) (own := [("_law_place", 15)]) (by decide +kernel)) (fun _ _ _ _ _ => pg_name (i := 15) nd rfl (Or.inr rfl)) (fun _ _ _ _ _ => pts_nil)
            (fun _ _ _ _ _ => pe_callB (cr_sumK (K := K) rfl rfl) (by rfl) z_sum (by decide +kernel) (pa_cons
              (pe_lc (own := [("_law_at", 3)]) (g := gName 3) (by rfl) nd (pi_range1 (by rfl) z_range (pa_cons (pv 1) pa_nil)) blk_pa (fun _ _ _ _ _ => pg_name (i := 3) nd rfl (Or.inl rfl)) (fun _ _ _ _ _ => pts_nil)
                (fun _ _ _ _ _ => pe_op op_mulW (pe_ix (ix_tupK (K := K) rfl) (pv 4) (pe_op op_add (pv 3) pe_int) (fun _ _ => rfl)) (pe_ix (ix_tupK (K := K) rfl) (pe_ix (ix_listK (K := K) rfl) (pv 5) (pv 3) (fun _ _ => rfl)) (pe_op op_add (pv 15) pe_int) (fun _ _ => rfl)))) pa_nil)))))
      (C8.pss_cut (ps_if (PW.pt (pw_or (pt_cmpR (op_neD hu) (pe_callTy call_list_of (by rfl) z_list (by decide +kernel) (pa_cons (pv 7) pa_nil)) (pv 8) (nomark _))
          (pw_or1 (pt_cmpR (op_neD hu) (pe_callK oInsK r5 (by rfl) (pk_cons (pv 5) (pk_cons (pv 2) (pk_cons (pv 4) pk_nil)))) (pv 7) (nomark _))))) (pss_one (ps_ret pe_bl)) pss_nil)
      (C8.pss_cut (ps_for PassesOwn.never rfl (pi_list (pe_lst (pa_cons pe_int (pa_cons (pe_op op_powW pe_int pe_int) pa_nil)))) (pg_name (i := 9) nd rfl (Or.inr rfl))
          (pss_cons (ps_set (i := 10) nd rfl (Or.inr rfl) (pe_lc (own := [("_law_at", 3)]) (g := gName 3) (by rfl) nd (pi_range1 (by rfl) z_range (pa_cons (pv 2) pa_nil)) (blkOk_by (N := nGood) (sc := defScope sGood) (own := [("_law_at", 3)]) (by decide +kernel)) (fun _ _ _ _ _ => pg_name (i := 3) nd rfl (Or.inl rfl)) (fun _ _ _ _ _ => pts_nil)
              (fun _ _ _ _ _ => pe_callO oRand r2 (by rfl) (pa_cons (pv 0) (pa_cons (pv 9) pa_nil)))))
          (pss_cons (ps_setLc (i := 11) (own := [("_law_one", 16)]) (g := gName 16) (by rfl) nd rfl rfl (sw_true rfl rfl rfl (by decide +kernel)) (pi_list (pv 5)) (blkOk_by (N := nGood) (sc := defScope sGood) (own := [("_law_one", 16)]) (by decide +kernel)) (fun _ _ _ _ _ => pg_name (i := 16) nd rfl (Or.inl rfl)) (fun _ _ _ _ _ => pts_nil)
              (fun _ _ _ _ _ => pe_callO oVal r1 (by rfl) (pa_cons (pv 16) (pa_cons (pv 10) pa_nil))))
          (pss_one (ps_if (PW.pt (pw_or (pt_cmpR op_ne (pe_callO oV r5 (by rfl) (pa_cons (pv 7) (pa_cons (pv 10) pa_nil))) (pe_callO oVal r1 (by rfl) (pa_cons (pv 4) (pa_cons (pv 11) pa_nil))) (nomark _))
            (pw_or1 (pt_cmpR op_ne (pe_callK oVK r5 (by rfl) (pk_cons (pe_callTy call_list_of (by rfl) z_list (by decide +kernel) (pa_cons (pv 10) pa_nil)) (pk_cons (pv 7) pk_nil))) (pe_callO oVal r1 (by rfl) (pa_cons (pv 7) (pa_cons (pv 10) pa_nil))) (nomark _))))) (pss_one (ps_ret pe_bl)) pss_nil)))))
      (pss_cons (ps_setLc (i := 12) (own := [("_law_at", 3)]) (g := gName 3) (by rfl) nd rfl rfl (sw_true rfl rfl rfl (by decide +kernel)) (pi_range1 (by rfl) z_range (pa_cons (pv 1) pa_nil)) (blkOk_by (N := nGood) (sc := defScope sGood) (own := [("_law_at", 3)]) (by decide +kernel)) (fun _ _ _ _ _ => pg_name (i := 3) nd rfl (Or.inl rfl)) (fun _ _ _ _ _ => pts_nil)
          (fun _ _ _ _ _ => pe_callO oRand r2 (by rfl) (pa_cons (pv 0) (pa_cons pe_int pa_nil))))
      (C8.pss_cut (ps_if (PW.pt (pw_or (pt_cmpR op_ne (pe_callO oV r5 (by rfl) (pa_cons (pv 4) (pa_cons (pv 12) pa_nil))) (pe_callO oVal r1 (by rfl) (pa_cons (pv 4) (pa_cons (pv 12) pa_nil))) (nomark _))
          (pw_or1 (pt_cmpR op_notBl (pe_callK oIsK r5 (by rfl) (pk_cons (pv 4) (pk_cons (pv 1) pk_nil))) pe_bl (nomark _))))) (pss_one (ps_ret pe_bl)) pss_nil)
      (C8.pss_cut (ps_par (i := 13) (j := 14) rfl nd rfl rfl (by decide) rfl rfl (pa_cons (pe_lst (pa_cons (pe_callTy call_list_of (by rfl) z_list (by decide +kernel) (pa_cons (pv 4) pa_nil)) (pa_cons (pe_op op_catS (pv 4) (pe_tup (pa_cons pe_int pa_nil))) (pa_cons (pe_slice sl_tupS (pv 4) (po_some pe_int) po_none) (pa_cons pe_non (pa_cons pe_int (pa_cons pe_str pa_nil)))))))
          (pa_cons (pe_ix ix_list (pe_lit 4 (d := .list [.int (-1), .none, .bool true, .str "1", .tuple [.int 1]]) rfl) (pe_callO oRand r2 (by rfl) (pa_cons (pv 0) (pa_cons pe_int pa_nil))) (fun _ _ => rfl)) pa_nil)) (by rfl))
      (C8.pss_cut (ps_for PassesOwn.never rfl (pi_range1 (by rfl) z_range (pa_cons (pe_op op_add (pv 1) pe_int) pa_nil)) (pg_name (i := 3) nd rfl (Or.inl rfl))
          (pss_one (ps_expr (pe_bm PySem.F.plainAttrs_list PySem.F.slot_list_append PySem.F.type_list_append mt_append (pv 13) (pa_cons
            (pe_op op_catS (pe_op op_catS (pe_slice sl_tupS (pv 4) po_none (po_some (pv 3))) (pe_tup (pa_cons (pv 14) pa_nil))) (pe_slice sl_tupS (pv 4) (po_some (pe_op op_add (pv 3) pe_int)) po_none)) pa_nil)))))
      (pss_one (ps_ret (pe_cmpR (op_eqD hu) (pe_lc (own := [("_law_one", 16)]) (g := gName 16) (tt := _) (by rfl) nd (pi_list (pv 13)) (blkOk_by (N := nGood) (sc := defScope sGood) (own := [("_law_one", 16)]) (by decide +kernel)) (fun _ _ _ _ _ => pg_name (i := 16) nd rfl (Or.inl rfl))
          (fun _ _ _ _ _ => pts_one (pt_cmpR op_notBl (pe_callO oIs r5 (by rfl) (pa_cons (pv 1) (pa_cons (pv 16) pa_nil))) pe_bl (nomark _))) (fun _ _ _ _ _ => pv 16)) (pe_lst pa_nil) (nomark _))))))))))))))))), ?_⟩
    refine ⟨_, rfl, g, n, 4, rfl, dr, by omega, by decide, by decide, fun H1 r r0 rr b1 d1 => ⟨_, rfl, g, n + 20, 4, rfl, d1, by omega, by decide, by decide, fun H2 r' r0' rr' b2 d2 => ⟨(by show 2 ≤ sizeLine; decide), fun p np => ?_⟩⟩⟩
    obtain ⟨k, rfl⟩ := Int.eq_ofNat_of_zero_le r0
    obtain ⟨m, rfl⟩ := Int.eq_ofNat_of_zero_le r0'
    have hk : k < 4 := by omega
    have hm : m < 4 := by omega
    have b3 : But H (upd H2 p (.tup [.int k, .int m])) g := but_new (b1.trans b2) np
    have d3 : Dr (upd H2 p (.tup [.int k, .int m])) g (n + 40) := dr_new d2 np
    refine ⟨p, _, rfl, SqT.of upd_same, rfl, _, _, rfl, _, _, rfl, rfl, ?_⟩
    clear b1 b2 d1 d2 rr rr' r0 r0'
    generalize upd H2 p (.tup [.int k, .int m]) = H3 at *
    refine ⟨fun σ' H' => ∃ fa la c xs ps, σ' = [some (.ref g), some (.int k), some (.int m), none, some (.ref fa), some (.ref la), none, none, none, none, none, none, none, none, none, none, none] ∧ GA H H' g (n + 1000) k m fa la c xs ps, ?_, ?_⟩
    · refine ⟨_, rfl, _, rfl, g, n + 40, k, rfl, d3, by omega, by omega, fun H4 fa xs0 lx0 sx0 b4 d4 nfa hfa => ?_⟩
      obtain ⟨c, xs, rfl⟩ : ∃ c xs, xs0 = c :: xs := by
        cases xs0 with
        | nil => simp at lx0
        | cons c xs => exact ⟨c, xs, rfl⟩
      have lx : xs.length = k := by simpa using lx0
      refine ⟨_, rfl, (k : Int), rfl, by omega, by omega, fun D nD => ?_⟩
      have gD := dr_ne d4 nD
      have eN : ((k : Nat) : Int).toNat = k := by omega
      rw [eN]
      refine lc_range (lo := 0) (n := k) (fun j H' => But H4 H' g ∧ Dr H' g (n + 300 + 200 * j) ∧ ∃ ps : List (Addr × List Int), ps.length = j ∧ (∀ p ∈ ps, H' p.1 = some (.tup (p.2.map V.int)) ∧ p.2.length = m + 1 ∧ ∀ x ∈ p.2, Sz 100 x) ∧ H' D = some (.lst (ps.map fun p => V.ref p.1)))
        ⟨Same.but (same_new nD), (dr_new d4 nD).mono (by omega), [], rfl, (fun p hp => by cases hp), upd_same⟩ ?_ ?_
      · rintro j H' hj ⟨b5, d5, ps, lps, hps, hD⟩
        refine ⟨rfl, ?_⟩
        refine ⟨_, rfl, _, rfl, g, _, m, rfl, d5, by omega, by omega, fun H6 p ys ly sy b6 d6 np hp => ?_⟩
        have hD6 := b6 _ _ (Ne.symm gD) hD
        refine ⟨_, hD6, ?_, fun b o nb e => ?_, (dr_upd d6 gD).mono (by omega), ps ++ [(p, ys)], by simp [lps], ?_, ?_⟩
        · rw [List.length_map]
          exact small1000 (by omega)
        · rw [upd_ne (ne_of_none (H := H4) e nD)]
          exact b6 _ _ nb (b5 _ _ nb e)
        · intro q hq
          rcases List.mem_append.mp hq with hq | hq
          · obtain ⟨h1, h2, h3⟩ := hps q hq
            have h4 := dr_tup d5 b6 h1
            exact ⟨by rw [upd_ne (fun z => by rw [z, hD6] at h4; cases h4)]; exact h4, h2, h3⟩
          · rcases List.mem_singleton.mp hq with rfl
            have hpD : p ≠ D := fun z => by rw [z, hD6] at hp; cases hp
            exact ⟨(upd_ne hpD).trans hp, ly, sy⟩
        · rw [upd_same, List.map_append]
          rfl
      · rintro H' ⟨b5, d5, ps, lps, hps, hD⟩
        refine ⟨(by show 2 ≤ sizeLine; decide), fun t nt => ⟨t, _, rfl, SqT.of upd_same, rfl, _, _, rfl, _, _, rfl, rfl, fa, D, c, xs, ps, rfl, ?_⟩⟩
        exact { but := but_new (b3.trans (b4.trans b5)) nt, dr := (dr_new d5 nt).mono (by omega), k4 := hk, m4 := hm, hf := same_new nt _ _ (dr_tup d4 b5 hfa), lx := lx, sc := sx0 c List.mem_cons_self, sx := fun x hx => sx0 x (List.mem_cons_of_mem _ hx),
                fk := ⟨same_new nt _ _ hD, fun p hp => ⟨same_new nt _ _ (hps p hp).1, (hps p hp).2⟩⟩, lp := lps, la_ := Ne.symm gD }
    · rintro σ' H4 ⟨fa, la, c, xs, ps, rfl, A⟩
      have hk3 : k ≤ 3 := by omega
      have hm3 : m ≤ 3 := by omega
      refine ⟨_, rfl, la, _, rfl, .inl (SqL.of A.fk.1), fun gv ngv => ?_⟩
      have A5 : GA H (upd H4 gv (.lst (ps.map fun p => V.ref p.1))) g (n + 1000) k m fa la c xs ps := A.same (same_new ngv)
      have hgv : (upd H4 gv (.lst (ps.map fun p => V.ref p.1))) gv = some (.lst (ps.map fun p => V.ref p.1)) := upd_same
      generalize upd H4 gv (.lst (ps.map fun p => V.ref p.1)) = H5 at *
      refine ⟨_, rfl, _, rfl, _, rfl, fa, gv, m, c, xs, ps, rfl, A5.hf, hm3, by rw [A5.lx, A5.lp], by rw [A5.lx]; exact hk3, A5.sc.le (by decide), (fun x hx => (A5.sx x hx).le (by decide)), ⟨hgv, fun p hp => ⟨(A5.fk.2 p hp).1, (A5.fk.2 p hp).2.1, fun x hx => ((A5.fk.2 p hp).2.2 x hx).le (by decide)⟩⟩, fun H6 fo s6 nfo hfo => ?_⟩
      have A6 := A5.same s6
      have hgv6 := s6 _ _ hgv
      clear A A5 hgv
      refine ⟨fun σ' H' => σ' = [some (.ref g), some (.int k), some (.int m), none, some (.ref fa), some (.ref la), some (.ref gv), some (.ref fo), none, none, none, none, none, none, none, none, none] ∧ GA H H' g (n + 1000) k m fa la c xs ps ∧ H' fo = some (.tup (((List.range (m + 1)).map (withV c xs (ps.map fun p => p.2))).map V.int)), ?_, ?_⟩
      · refine ⟨_, rfl, _, rfl, _, _, dp_forms hgv6 fun p hp => (A6.fk.2 p hp).1, dp_forms A6.fk.1 fun p hp => (A6.fk.2 p hp).1, shaped_forms _, shaped_forms _, ?_⟩
        rw [SeqAt.eqv_refl _ (SeqAt.canLay_of_shaped (shaped_forms _))]
        refine ⟨false, rfl, iteF ⟨_, rfl, _, _, _, _, true, rfl, .ty "tuple", .base (.tup hfo), kit_ty (by decide +kernel), _, rfl, iteF ⟨_, rfl, _, m + 1, rfl, .inr ⟨_, SqT.of hfo, by simp⟩, _, rfl, _, _, rfl, rfl, rfl, false, ?_, iteF ⟨_, rfl, _, rfl, m, .ref fo, true, rfl, hm3, ?_, fun H7 s7 => ⟨true, true, rfl, rfl, false, rfl, iteF ⟨rfl, A6.same s7, s7 _ _ hfo⟩⟩⟩⟩⟩⟩
        · have e : decide (V.int ((m + 1 : Nat) : Int) = V.int ((m : Int) + 1)) = true := decide_eq_true (congrArg V.int (by omega))
          exact congrArg (fun b => V.bl (!b)) e
        · refine .inl ⟨fo, _, rfl, hfo, by simp; omega, fun x hx => ?_, ?_⟩
          · obtain ⟨i, _, rfl⟩ := List.mem_map.mp hx
            exact .int i
          · rw [all_cnt fun x hx => ?_, List.length_map, List.length_map, List.length_range, decide_eq_true rfl]
            · rfl
            · obtain ⟨j, _, rfl⟩ := List.mem_map.mp hx
              exact (A6.szW j).1
      · rintro σ' H7 ⟨rfl, A7, hfo⟩
        refine ⟨_, rfl, fa, _, _, _, rfl, rfl, SqT.of A7.hf, (show atI ((c :: xs).map V.int) ((0 : Nat) : Int) = some (V.int c) from atI_nat rfl), _, rfl, (k : Int), rfl, by omega, by omega, fun D nD => ?_⟩
        have eN : ((k : Nat) : Int).toNat = k := by omega
        have eM : ((m : Nat) : Int).toNat = m := by omega
        rw [eN]
        refine lc_range (lo := 0) (n := k) (fun j H' => Same H7 H' ∧ H' D = some (.lst (((List.zipWith (· * ·) xs ((ps.map fun p => p.2).map fun n => n.getD 0 0)).take j).map V.int))) ⟨same_new nD, upd_same⟩ ?_ ?_
        · rintro j H' hj ⟨sm, hD⟩
          rw [Int.zero_add]
          obtain ⟨x, p, ex, ep, i1, i2, ez, sx, sz⟩ := A7.item hj (by omega : 0 ≤ m)
          refine ⟨rfl, ?_⟩
          refine ⟨_, rfl, _, rfl, _, _, rfl, rfl, fa, _, _, _, rfl, rfl, SqT.of (sm _ _ A7.hf), i1, _, rfl, _, rfl, la, _, _, _, rfl, rfl, SqL.of (sm _ _ A7.fk.1), i2, p.1, _, _, _, rfl, rfl, SqT.of (sm _ _ (A7.fk.2 p (List.mem_of_getElem? ep)).1), (A7.at_ ep (by omega : 0 ≤ m)), _, _, rfl, rfl, sx.mulW sz (by decide), _, hD, ?_, fun b o e => ?_, ?_⟩
          · rw [List.length_map]
            exact small1000 (Nat.le_trans (List.length_take_le _ _) (by omega))
          · rw [upd_ne (ne_of_none e nD)]
            exact sm _ _ e
          · rw [upd_same, List.take_add_one, ez, List.map_append]
            rfl
        · rintro H8 ⟨s8, hD8⟩
          have el : (List.zipWith (· * ·) xs ((ps.map fun p => p.2).map fun n => n.getD 0 0)).take k = List.zipWith (· * ·) xs ((ps.map fun p => p.2).map fun n => n.getD 0 0) := List.take_of_length_le (by rw [List.length_zipWith, A7.lx]; exact Nat.min_le_left _ _)
          rw [el] at hD8
          refine ⟨D, _, rfl, SqL.of hD8, _, _, rfl, rfl, (by show 1 ≤ sizeLine; decide), fun du ndu => ?_⟩
          have A9 := (A7.same s8).same (same_new (o := .lst [.int (c + colS xs (ps.map fun p => p.2) 0)]) ndu)
          have hfo9 := same_new (o := .lst [.int (c + colS xs (ps.map fun p => p.2) 0)]) ndu _ _ (s8 _ _ hfo)
          have hdu : (upd H8 du (.lst [.int (c + colS xs (ps.map fun p => p.2) 0)])) du = some (.lst [.int (c + colS xs (ps.map fun p => p.2) 0)]) := upd_same
          change C8.tCut _ _ _ _ (upd H8 du (.lst [.int (c + colS xs (ps.map fun p => p.2) 0)]))
          clear hD8 nD A7 hfo A6 hgv6
          generalize upd H8 du (.lst [.int (c + colS xs (ps.map fun p => p.2) 0)]) = H9 at *
          refine ⟨fun σ' H' => ∃ d2 : Addr, σ' = [some (.ref g), some (.int k), some (.int m), none, some (.ref fa), some (.ref la), some (.ref gv), some (.ref fo), some (.ref d2), none, none, none, none, none, none, none, none] ∧ GA H H' g (n + 1000) k m fa la c xs ps ∧
            H' fo = some (.tup (((List.range (m + 1)).map (withV c xs (ps.map fun p => p.2))).map V.int)) ∧ H' d2 = some (.lst (((List.range (m + 1)).map (withV c xs (ps.map fun p => p.2))).map V.int)), ?_, ?_⟩
          · refine ⟨_, rfl, _, rfl, (m : Int), rfl, by omega, by omega, fun D2 nD2 => ?_⟩
            rw [eM]
            refine lc_range (lo := 0) (n := m) (fun j H' => Same H9 H' ∧ H' D2 = some (.lst (((List.range j).map fun i => colS xs (ps.map fun p => p.2) (i + 1)).map V.int))) ⟨same_new nD2, upd_same⟩ ?_ ?_
            · rintro j H' hj ⟨sm, hD⟩
              rw [Int.zero_add]
              refine ⟨rfl, ?_⟩
              refine ⟨_, rfl, (k : Int), rfl, by omega, by omega, fun D3 nD3 => ?_⟩
              rw [eN]
              refine lc_range (lo := 0) (n := k) (fun i H2 => Same H' H2 ∧ H2 D3 = some (.lst (((List.zipWith (· * ·) xs ((ps.map fun p => p.2).map fun n => n.getD (j + 1) 0)).take i).map V.int))) ⟨same_new nD3, upd_same⟩ ?_ ?_
              · rintro i H2 hi ⟨s2, hD3⟩
                rw [Int.zero_add]
                have A2 := (A9.same sm).same s2
                obtain ⟨x, p, ex, ep, i1, i2, ez, sx, sz⟩ := A2.item hi (by omega : j + 1 ≤ m)
                have i3 : atI (p.2.map V.int) ((j : Int) + 1) = some (V.int (p.2.getD (j + 1) 0)) := A2.at_ ep (by omega : j + 1 ≤ m)
                refine ⟨rfl, ?_⟩
                refine ⟨_, rfl, _, rfl, _, _, rfl, rfl, fa, _, _, _, rfl, rfl, SqT.of A2.hf, i1, _, rfl, _, rfl, la, _, _, _, rfl, rfl, SqL.of A2.fk.1, i2, _, rfl, _, _, rfl, rfl, p.1, _, _, _, rfl, rfl, SqT.of (A2.fk.2 p (List.mem_of_getElem? ep)).1, i3, _, _, rfl, rfl, sx.mulW sz (by decide), _, hD3, ?_, fun b o e => ?_, ?_⟩
                · rw [List.length_map]
                  exact small1000 (Nat.le_trans (List.length_take_le _ _) (by omega))
                · rw [upd_ne (ne_of_none e nD3)]
                  exact s2 _ _ e
                · rw [upd_same, List.take_add_one, ez, List.map_append]
                  rfl
              · rintro H2 ⟨s2, hD3⟩
                have el2 : (List.zipWith (· * ·) xs ((ps.map fun p => p.2).map fun n => n.getD (j + 1) 0)).take k = List.zipWith (· * ·) xs ((ps.map fun p => p.2).map fun n => n.getD (j + 1) 0) := List.take_of_length_le (by rw [List.length_zipWith, A9.lx]; exact Nat.min_le_left _ _)
                rw [el2] at hD3
                refine ⟨D3, _, rfl, SqL.of hD3, _, s2 _ _ hD, ?_, fun b o e => ?_, ?_⟩
                · rw [List.length_map, List.length_map, List.length_range]
                  exact small1000 (by omega)
                · rw [upd_ne (ne_of_none (H := H9) e nD2)]
                  exact s2 _ _ (sm _ _ e)
                · rw [upd_same, List.range_succ, List.map_append, List.map_append]
                  rfl
            · rintro H10 ⟨s10, hD10⟩
              refine ⟨du, D2, _, _, rfl, rfl, s10 _ _ hdu, hD10, ?_, fun d2 nd2 => ⟨d2, rfl, (A9.same s10).same (same_new nd2), same_new nd2 _ _ (s10 _ _ hfo9), ?_⟩⟩
              · rw [List.length_map, List.length_map, List.length_range, sizeLine_eq]
                show 1 + m ≤ _
                omega
              · rw [upd_same, found_due, List.map_append]
                rfl
          · rintro σ' H10 ⟨d2, rfl, A10, hfo, hd2⟩
            refine ⟨fun σ' H' => σ' = [some (.ref g), some (.int k), some (.int m), none, some (.ref fa), some (.ref la), some (.ref gv), some (.ref fo), some (.ref d2), none, none, none, none, none, none, none, none] ∧ GA H H' g (n + 1000) k m fa la c xs ps ∧
              H' fo = some (.tup (((List.range (m + 1)).map (withV c xs (ps.map fun p => p.2))).map V.int)), ?_, ?_⟩
            · refine ⟨_, rfl, fo, _, rfl, .inr (SqT.of hfo), fun l nl => ⟨_, rfl, _, _, .lst (SqL.of upd_same) (dp_ints _), .lst (SqL.of (same_new nl _ _ hd2)) (dp_ints _), shaped_lst _, shaped_lst _, ?_⟩⟩
              rw [SeqAt.eqv_refl _ (SeqAt.canLay_of_shaped (shaped_lst _))]
              have A11 := A10.same (same_new (o := .lst (((List.range (m + 1)).map (withV c xs (ps.map fun p => p.2))).map V.int)) nl)
              refine ⟨false, rfl, iteF ⟨_, rfl, _, rfl, _, rfl, rfl, fa, la, m, c, xs, ps, rfl, A11.hf, hm3, by rw [A11.lx, A11.lp], by rw [A11.lx]; exact hk3, A11.sc.le (by decide), (fun x hx => (A11.sx x hx).le (by decide)),
                ⟨A11.fk.1, fun p hp => ⟨(A11.fk.2 p hp).1, (A11.fk.2 p hp).2.1, fun x hx => ((A11.fk.2 p hp).2.2 x hx).le (by decide)⟩⟩, fun H12 r s12 nr hr12 => ⟨_, rfl, _, _, .tup (SqT.of hr12) (dp_ints _), .tup (SqT.of (s12 _ _ (same_new nl _ _ hfo))) (dp_ints _), shaped_tup _, shaped_tup _, ?_⟩⟩⟩
              rw [SeqAt.eqv_refl _ (SeqAt.canLay_of_shaped (shaped_tup _))]
              exact ⟨false, rfl, iteF ⟨rfl, A11.same s12, s12 _ _ (same_new nl _ _ hfo)⟩⟩
            · rintro σ' H11 ⟨rfl, A11, hfo⟩
              clear A10 hd2 hdu A9 hfo9
              refine ⟨fun σ' H' => (∃ x9 x10 x11, σ' = [some (.ref g), some (.int k), some (.int m), none, some (.ref fa), some (.ref la), some (.ref gv), some (.ref fo), some (.ref d2), x9, x10, x11, none, none, none, none, none]) ∧ GA H H' g (n + 4000) k m fa la c xs ps, ?_, ?_⟩
              · refine ⟨_, _, rfl, rfl, ⟨by decide, by decide +kernel⟩, (by show 2 ≤ sizeLine; decide), fun bl nbl => ?_⟩
                have A12 := A11.same (same_new (o := .lst [.int 3, .int (10 ^ (25 : Int).toNat)]) nbl)
                have hfo12 := same_new (o := .lst [.int 3, .int (10 ^ (25 : Int).toNat)]) nbl _ _ hfo
                have gbl := dr_ne A11.dr nbl
                have hbl : (upd H11 bl (.lst [.int 3, .int (10 ^ (25 : Int).toNat)])) bl = some (.lst [.int 3, .int (10 ^ (25 : Int).toNat)]) := upd_same
                rw [found_list] at hfo12
                clear hfo A11
                refine ⟨bl, rfl, ⟨_, SqL.of upd_same⟩, ?_⟩
                generalize upd H11 bl (.lst [.int 3, .int (10 ^ (25 : Int).toNat)]) = H12 at *
                have sf1 : ∀ x ∈ (List.range m).map (fun j => withV c xs (ps.map fun p => p.2) (j + 1)), Sz 300 x := fun x hx => by
                  obtain ⟨j, _, rfl⟩ := List.mem_map.mp hx
                  exact A12.szW _
                refine for_list (K := K) (a := bl) (xs := [.int 3, .int (10 ^ (25 : Int).toNat)]) (fun i σ H' => (∃ x9 x10 x11, σ = [some (.ref g), some (.int k), some (.int m), none, some (.ref fa), some (.ref la), some (.ref gv), some (.ref fo), some (.ref d2), x9, x10, x11, none, none, none, none, none]) ∧ But H12 H' g ∧ Dr H' g (n + 1000 + 1000 * i))
                  ⟨⟨_, _, _, rfl⟩, But.refl _ _, A12.dr⟩ (fun i σ H' _ p => SqL.of (p.2.1 _ _ (Ne.symm gbl) hbl)) ?_ ?_
                · rintro i y σ H' hi ⟨⟨x9, x10, x11, rfl⟩, b, d⟩
                  have hi2 : i < 2 := (List.getElem?_eq_some_iff.mp hi).1
                  have hb : ∃ bd : Int, y = .int bd ∧ 0 < bd ∧ bd ≤ 2 ^ 100 := by
                    match i, hi with
                    | 0, hi => cases hi; exact ⟨3, rfl, by decide, by decide⟩
                    | 1, hi => cases hi; exact ⟨10 ^ (25 : Int).toNat, rfl, by decide, by decide⟩
                    | i + 2, hi => simp at hi
                  obtain ⟨bd, rfl, p0, p1⟩ := hb
                  have AB := A12.drawn b d
                  have hf2 := dr_tup A12.dr b hfo12
                  refine ⟨_, rfl, (m : Int), rfl, by omega, by omega, fun D nD => ?_⟩
                  have gD := dr_ne d nD
                  rw [eM]
                  refine lc_range (lo := 0) (n := m) (fun j H2 => But H' H2 g ∧ Dr H2 g (n + 1000 + 1000 * i + 20 * j) ∧ ∃ ys : List Int, ys.length = j ∧ (∀ y ∈ ys, Sz 100 y) ∧ H2 D = some (.lst (ys.map V.int))) ⟨Same.but (same_new nD), (dr_new d nD).mono (by omega), [], rfl, (fun y hy => by cases hy), upd_same⟩ ?_ ?_
                  · rintro j H2 hj ⟨b2, d3, ys, ly, sy, hD⟩
                    refine ⟨rfl, ?_⟩
                    have p2 : bd < 10 ^ 100 := Int.lt_of_le_of_lt p1 (by decide)
                    refine ⟨_, rfl, _, rfl, g, _, bd, rfl, d3, by omega, p0, p2, fun H6 v v0 v1 b6 d6 => ?_⟩
                    have hD6 := b6 _ _ (Ne.symm gD) hD
                    refine ⟨_, hD6, ?_, fun b' o nb e => ?_, (dr_upd d6 gD).mono (by omega), ys ++ [v], by simp [ly], fun y hy => ?_, ?_⟩
                    · rw [List.length_map]
                      exact small1000 (by omega)
                    · rw [upd_ne (ne_of_none (H := H') e nD)]
                      exact b6 _ _ nb (b2 _ _ nb e)
                    · rcases List.mem_append.mp hy with hy | hy
                      · exact sy y hy
                      · rcases List.mem_singleton.mp hy with rfl
                        exact ⟨v0, Int.lt_of_lt_of_le v1 p1⟩
                    · rw [upd_same, List.map_append]
                      rfl
                  · rintro H2 ⟨b2, d3, ys, ly, sy, hD⟩
                    have A2 := AB.drawn b2 d3
                    have hf3 := dr_tup d b2 hf2
                    refine ⟨_, rfl, la, rfl, ⟨_, SqL.of A2.fk.1⟩, fun D2 nD2 => lc_list (K := K) (a := la) (xs := ps.map fun p => V.ref p.1) (fun j H3 => Same H2 H3 ∧ H3 D2 = some (.lst (((ps.map fun p => valF p.2 ys).take j).map V.int))) ⟨same_new nD2, upd_same⟩ (fun j H3 _ p => SqL.of (p.1 _ _ A2.fk.1)) ?_ ?_⟩
                    · rintro j y H3 hj ⟨sm, hD2⟩
                      rw [List.getElem?_map] at hj
                      obtain ⟨p, ep, rfl⟩ := Option.map_eq_some_iff.mp hj
                      obtain ⟨h1, h2, h3⟩ := A2.fk.2 p (List.mem_of_getElem? ep)
                      have lj : j < ps.length := (List.getElem?_eq_some_iff.mp ep).1
                      have lps := A2.lp
                      obtain ⟨pa, pl⟩ := p
                      cases pl with
                      | nil => simp at h2
                      | cons n0 nt =>
                        have l2 : nt.length = ys.length := by
                          have : (n0 :: nt).length = m + 1 := h2
                          simp at this
                          omega
                        refine ⟨rfl, ?_⟩
                        refine ⟨_, rfl, _, rfl, pa, D, n0, nt, ys, rfl, sm _ _ h1, sm _ _ hD, l2, by omega, (fun x hx => (h3 x (List.mem_cons_of_mem _ hx)).le (by decide)), (fun x hx => (sy x hx).le (by decide)), fun H4 s4 => ⟨_, s4 _ _ hD2, ?_, fun b' o e => ?_, ?_⟩⟩
                        · rw [List.length_map]
                          exact small1000 (Nat.le_trans (List.length_take_le _ _) (by omega))
                        · rw [upd_ne (ne_of_none (H := H2) e nD2)]
                          exact s4 _ _ (sm _ _ e)
                        · rw [upd_same, List.take_add_one, List.getElem?_map, ep, List.map_append]
                          rfl
                    · rintro H3 ⟨s3, hD2⟩
                      have el3 : (ps.map fun p => valF p.2 ys).take (ps.map fun p => V.ref p.1).length = ps.map fun p => valF p.2 ys := List.take_of_length_le (by simp)
                      rw [el3] at hD2
                      have A3 := A2.same s3
                      have hf4 := s3 _ _ hf3
                      have hpt := s3 _ _ hD
                      have lps := A2.lp
                      have lxs := A2.lx
                      have sv : ∀ v ∈ ps.map fun p => valF p.2 ys, Sz 1000 v := fun v hv => by
                        obtain ⟨p, hp, rfl⟩ := List.mem_map.mp hv
                        have := (A2.fk.2 p hp).2.1
                        exact (sz_valF (A2.fk.2 p hp).2.2 sy).le (by omega)
                      refine ⟨_, rfl, _, rfl, fo, D, _, _, ys, rfl, hf4, hpt, by simp [ly], by simp; omega, (A12.szW 0).le (by decide), (fun x hx => (sf1 x hx).le (by decide)), (fun y hy => (sy y hy).le (by decide)), fun H4 s4 => ⟨_, rfl, _, rfl, fa, D2, c, xs, ps.map fun p => valF p.2 ys, rfl, s4 _ _ A3.hf, s4 _ _ hD2, by simp; omega, by omega, (fun x hx => (A3.sx x hx).le (by decide)), sv, fun H5 s5 => ⟨rfl, false, ?_, iteF ?_⟩⟩⟩
                      · have e : withV c xs (ps.map fun p => p.2) 0 + dot ((List.range m).map fun j => withV c xs (ps.map fun p => p.2) (j + 1)) ys = c + dot xs (ps.map fun p => valF p.2 ys) := by
                          rw [found_val c xs (ps.map fun p => p.2) ys m fun n hn => ?_, List.map_map]
                          · rfl
                          · obtain ⟨p, hp, rfl⟩ := List.mem_map.mp hn
                            exact (A2.fk.2 p hp).2.1
                        rw [e, decide_eq_true rfl]
                        rfl
                      · have hf5 := s5 _ _ (s4 _ _ hf4)
                        have hpt5 := s5 _ _ (s4 _ _ hpt)
                        refine ⟨_, rfl, D, _, rfl, .inl (SqL.of hpt5), fun l nl => ⟨_, rfl, rfl, fo, l, _, _, ys, rfl, same_new nl _ _ hf5, upd_same, by simp [ly], by simp; omega, (A12.szW 0).le (by decide), (fun x hx => (sf1 x hx).le (by decide)), (fun y hy => (sy y hy).le (by decide)), fun H7 s7 => ⟨_, rfl, _, rfl, fo, D, _, _, ys, rfl, s7 _ _ (same_new nl _ _ hf5), s7 _ _ (same_new nl _ _ hpt5), by simp [ly], by simp; omega,
                          (fun x hx => (sf1 x hx).le (by decide)), (fun y hy => (sy y hy).le (by decide)), fun H8 s8 => ⟨rfl, false, ?_, iteF ⟨⟨_, _, _, rfl⟩, ?_, ?_⟩⟩⟩⟩⟩
                        · rw [decide_eq_true rfl]
                          rfl
                        · exact b.trans (b2.trans (Same.but ((((s3.trans s4).trans s5).trans (same_new nl)).trans (s7.trans s8))))
                        · have ss := ((((s3.trans s4).trans s5).trans (same_new nl)).trans (s7.trans s8))
                          exact ((A2.same ss).dr).mono (by omega)
                · rintro σ H' ⟨hs, b, d⟩
                  exact ⟨hs, (A12.drawn b d).drawn (But.refl _ _) (d.mono (by show n + 1000 + 1000 * 2 ≤ n + 4000; omega))⟩
              · rintro σ' H13 ⟨⟨x9, x10, x11, rfl⟩, A13⟩
                clear hfo A11
                refine ⟨_, rfl, (k : Int), rfl, by omega, by omega, fun D nD => ?_⟩
                have gD := dr_ne A13.dr nD
                rw [eN]
                refine lc_range (lo := 0) (n := k) (fun j H2 => But H13 H2 g ∧ Dr H2 g (n + 4000 + 20 * j) ∧ ∃ ys : List Int, ys.length = j ∧ (∀ y ∈ ys, Sz 100 y) ∧ H2 D = some (.lst (ys.map V.int))) ⟨Same.but (same_new nD), (dr_new A13.dr nD).mono (by omega), [], rfl, (fun y hy => by cases hy), upd_same⟩ ?_ ?_
                · rintro j H2 hj ⟨b2, d3, ys, ly, sy, hD⟩
                  refine ⟨rfl, ?_⟩
                  refine ⟨_, rfl, g, _, 9, rfl, d3, by omega, by decide, by decide, fun H6 v v0 v1 b6 d6 => ?_⟩
                  have hD6 := b6 _ _ (Ne.symm gD) hD
                  refine ⟨_, hD6, ?_, fun b' o nb e => ?_, (dr_upd d6 gD).mono (by omega), ys ++ [v], by simp [ly], fun y hy => ?_, ?_⟩
                  · rw [List.length_map]
                    exact small1000 (by omega)
                  · rw [upd_ne (ne_of_none (H := H13) e nD)]
                    exact b6 _ _ nb (b2 _ _ nb e)
                  · rcases List.mem_append.mp hy with hy | hy
                    · exact sy y hy
                    · rcases List.mem_singleton.mp hy with rfl
                      exact ⟨v0, Int.lt_of_lt_of_le v1 (by decide)⟩
                  · rw [upd_same, List.map_append]
                    rfl
                · rintro H2 ⟨b2, d3, ys, ly, sy, hD⟩
                  have A14 := (A13.drawn b2 d3)
                  have lxs := A14.lx
                  refine ⟨fun σ' H' => σ' = [some (.ref g), some (.int k), some (.int m), none, some (.ref fa), some (.ref la), some (.ref gv), some (.ref fo), some (.ref d2), x9, x10, x11, some (.ref D), none, none, none, none] ∧ GA H H' g (n + 5000) k m fa la c xs ps, ?_, ?_⟩
                  · refine ⟨_, rfl, _, rfl, fa, D, c, xs, ys, rfl, A14.hf, hD, by omega, by omega, A14.sc.le (by decide), (fun x hx => (A14.sx x hx).le (by decide)), (fun y hy => (sy y hy).le (by decide)), fun H4 s4 => ⟨_, rfl, _, rfl, fa, D, c, xs, ys, rfl, s4 _ _ A14.hf, s4 _ _ hD, by omega, by omega, (fun x hx => (A14.sx x hx).le (by decide)), (fun y hy => (sy y hy).le (by decide)), fun H5 s5 => ⟨rfl, false, ?_, iteF ?_⟩⟩⟩
                    · rw [decide_eq_true rfl]
                      rfl
                    · have A15 := (A14.same s4).same s5
                      refine ⟨_, rfl, _, rfl, rfl, k, .ref fa, true, rfl, hk3, ?_, fun H6 s6 => ⟨true, true, rfl, rfl, false, rfl, iteF ⟨rfl, (A15.same s6).drawn (But.refl _ _) (((A15.same s6).dr).mono (by omega))⟩⟩⟩
                      refine .inl ⟨fa, _, rfl, A15.hf, by simp; omega, fun x hx => ?_, ?_⟩
                      · obtain ⟨i, _, rfl⟩ := List.mem_map.mp hx
                        exact .int i
                      · rw [all_cnt fun x hx => ?_, List.length_map, List.length_cons, A15.lx, decide_eq_true rfl]
                        · rfl
                        · rcases List.mem_cons.mp hx with rfl | hx
                          · exact A15.sc.1
                          · exact (A15.sx x hx).1
                  · rintro σ' H14 ⟨rfl, B⟩
                    clear A13 A14 b2 d3 hD nD
                    have lxs := B.lx
                    refine ⟨fun σ' H' => ∃ (lw : Addr) (bd : V) (ws : List V), σ' = [some (.ref g), some (.int k), some (.int m), none, some (.ref fa), some (.ref la), some (.ref gv), some (.ref fo), some (.ref d2), x9, x10, x11, some (.ref D), some (.ref lw), some bd, none, none] ∧ GA H H' g (n + 6000) k m fa la c xs ps ∧
                      H' lw = some (.lst ws) ∧ ws.length = 6 ∧ (∀ v ∈ ws, IsF H' k v false) ∧ Kn H' bd ∧ cntV bd = false ∧ lw ≠ g ∧ lw ≠ la ∧ H lw = none, ?_, ?_⟩
                    · refine ⟨_, rfl, fa, _, rfl, .inr (SqT.of B.hf), fun l1 n1 => ?_⟩
                      have B1 := B.same (same_new (o := .lst ((c :: xs).map V.int)) n1)
                      have e1 : (upd H14 l1 (.lst ((c :: xs).map V.int))) l1 = some (.lst ((c :: xs).map V.int)) := upd_same
                      generalize upd H14 l1 (.lst ((c :: xs).map V.int)) = H15 at *
                      refine ⟨_, rfl, (by show 1 ≤ sizeLine; decide), fun t1 nt1 => ?_⟩
                      have st1 := same_new (o := .tup [.int 0]) nt1
                      refine ⟨fa, t1, _, _, rfl, rfl, st1 _ _ B1.hf, upd_same, ?_, fun H16 p1 s16 hp1 => ?_⟩
                      · rw [sizeLine_eq]
                        simp
                        omega
                      have B2 := (B1.same st1).same s16
                      have e2 := s16 _ _ (st1 _ _ e1)
                      refine ⟨_, rfl, _, rfl, fa, _, rfl, B2.hf, fun H17 p2 s17 hp2 => ⟨(by show 6 ≤ sizeLine; decide), fun lw nlw => ?_⟩⟩
                      have B3 := (B2.same s17).same (same_new (o := .lst [.ref l1, .ref p1, .ref p2, .non, .int 3, .str "1"]) nlw)
                      have sw := s17.trans (same_new (o := .lst [.ref l1, .ref p1, .ref p2, .non, .int 3, .str "1"]) nlw)
                      have e3 := sw _ _ e2
                      have q1 := sw _ _ hp1
                      have q2 := same_new (o := .lst [.ref l1, .ref p1, .ref p2, .non, .int 3, .str "1"]) nlw _ _ hp2
                      have hw : (upd H17 lw (.lst [.ref l1, .ref p1, .ref p2, .non, .int 3, .str "1"])) lw = some (.lst [.ref l1, .ref p1, .ref p2, .non, .int 3, .str "1"]) := upd_same
                      have hwg : lw ≠ g := Ne.symm (dr_ne (B2.same s17).dr nlw)
                      have hwl : lw ≠ la := fun z => by
                        have y := (B2.same s17).fk.1
                        rw [← z, nlw] at y
                        cases y
                      have hw0 : H lw = none := by
                        cases z : H lw with
                        | none => rfl
                        | some o =>
                          have y := (B2.same s17).but _ _ hwg z
                          rw [nlw] at y
                          cases y
                      generalize upd H17 lw (.lst [.ref l1, .ref p1, .ref p2, .non, .int 3, .str "1"]) = H18 at *
                      rw [cut_rest] at q2
                      refine fun bv Hb sb db => ⟨_, rfl, g, _, 5, rfl, (B3.same sb).dr, by omega, by decide, by decide, fun Hc r r0 r1 bc dc => ?_⟩
                      have B4 := B3.same sb
                      obtain ⟨i, rfl⟩ := Int.eq_ofNat_of_zero_le r0
                      have hi5 : i < 5 := by omega
                      cases db with
                      | @lst lb xb _ hb dal =>
                        have l5 : xb.length = 5 := dal.length
                        have lbg : lb ≠ g := fun z => by
                          obtain ⟨a0, b0, c0, eg, _⟩ := B4.dr
                          rw [← z, hb] at eg
                          cases eg
                          cases l5
                        have ev : xb[i]? = some xb[i] := List.getElem?_eq_getElem (by omega)
                        obtain ⟨dv, edv, hdv⟩ := dal.get ev
                        have kv : Kn Hc xb[i] ∧ cntV xb[i] = false := by
                          generalize xb[i] = v at *
                          have key : ∀ d : PyData, [PyData.int (-1), .none, .bool true, .str "1", .tuple [.int 1]][i]? = some d → (d = .int (-1) ∨ d = .none ∨ d = .bool true ∨ d = .str "1" ∨ d = .tuple [.int 1]) := fun d hd => by
                            have := List.mem_of_getElem? hd
                            simpa using this
                          rcases key dv edv with rfl | rfl | rfl | rfl | rfl
                          · cases hdv
                            exact ⟨.int _, rfl⟩
                          · cases hdv
                            exact ⟨.non, rfl⟩
                          · cases hdv
                            exact ⟨.bl _, rfl⟩
                          · cases hdv
                            exact ⟨.str _, rfl⟩
                          · cases hdv with
                            | tup h _ => exact ⟨.tup (dr_tup B4.dr bc h), rfl⟩
                        refine ⟨lb, _, _, xb[i], rfl, rfl, SqL.of (bc _ _ lbg hb), atI_nat ev, _, _, rfl, lw, xb[i], _, rfl, B4.drawn bc (dc.mono (by omega)), bc _ _ hwg (sb _ _ hw), rfl, fun v hv => ?_, kv.1, kv.2, hwg, hwl, hw0⟩
                        have f1 := dr_tup B4.dr bc (sb _ _ q1)
                        have f2 := dr_tup B4.dr bc (sb _ _ q2)
                        have f0 := bc _ _ (Ne.symm (dr_ne B.dr n1)) (sb _ _ e3)
                        rcases List.mem_cons.mp hv with rfl | hv
                        · exact .inr ⟨.inl ⟨_, _, rfl, f0⟩, rfl⟩
                        rcases List.mem_cons.mp hv with rfl | hv
                        · refine .inl ⟨_, _, rfl, f1, by simp; omega, fun x hx => ?_, ?_⟩
                          · rcases List.mem_append.mp hx with hx | hx
                            · obtain ⟨z, _, rfl⟩ := List.mem_map.mp hx
                              exact .int z
                            · rcases List.mem_singleton.mp hx with rfl
                              exact .int 0
                          · rw [decide_eq_false (by simp; omega)]
                            rfl
                        rcases List.mem_cons.mp hv with rfl | hv
                        · refine .inl ⟨_, _, rfl, f2, by simp; omega, fun x hx => ?_, ?_⟩
                          · obtain ⟨z, _, rfl⟩ := List.mem_map.mp hx
                            exact .int z
                          · rw [decide_eq_false (by simp; omega)]
                            rfl
                        rcases List.mem_cons.mp hv with rfl | hv
                        · exact .inr ⟨.inr (.inr (.inl rfl)), rfl⟩
                        rcases List.mem_cons.mp hv with rfl | hv
                        · exact .inr ⟨.inr (.inl ⟨3, rfl⟩), rfl⟩
                        rcases List.mem_cons.mp hv with rfl | hv
                        · exact .inr ⟨.inr (.inr (.inr (.inr ⟨_, rfl⟩))), rfl⟩
                        · cases hv
                    · rintro σ' H15 ⟨lw, bd, ws, rfl, C, hw, lw6, hws, kb, cb, wg, wl, w0⟩
                      refine ⟨fun σ' H' => (∃ x3, σ' = [some (.ref g), some (.int k), some (.int m), x3, some (.ref fa), some (.ref la), some (.ref gv), some (.ref fo), some (.ref d2), x9, x10, x11, some (.ref D), some (.ref lw), some bd, none, none]) ∧ GA H H' g (n + 6000) k m fa la c xs ps ∧ ∃ ws, H' lw = some (.lst ws) ∧ ∀ v ∈ ws, IsF H' k v false, ?_, ?_⟩
                      · refine ⟨_, rfl, _, _, rfl, rfl, (k : Int) + 1, rfl, by omega, by omega, ?_⟩
                        have eN1 : ((k : Int) + 1).toNat = k + 1 := by omega
                        rw [eN1]
                        refine for_range (lo := 0) (n := k + 1) (fun i σ' H' => (∃ x3, σ' = [some (.ref g), some (.int k), some (.int m), x3, some (.ref fa), some (.ref la), some (.ref gv), some (.ref fo), some (.ref d2), x9, x10, x11, some (.ref D), some (.ref lw), some bd, none, none]) ∧ GA H H' g (n + 6000) k m fa la c xs ps ∧ Kn H' bd ∧ ∃ ws, H' lw = some (.lst ws) ∧ ws.length = 6 + i ∧ ∀ v ∈ ws, IsF H' k v false)
                          ⟨⟨_, rfl⟩, C, kb, ws, hw, lw6, hws⟩ ?_ ?_
                        · rintro i σ H' hi ⟨⟨x3, rfl⟩, C, kb, ws, hw, lw6, hws⟩
                          rw [Int.zero_add]
                          have lF : ((c :: xs).map V.int).length = k + 1 := by simp [lxs]
                          refine ⟨_, rfl, .inl ⟨rfl, _, SqL.of hw⟩, _, rfl, _, rfl, _, rfl, fa, _, rfl, C.hf, fun H2 p1 s1 h1 => ⟨_, rfl, (by show 1 ≤ sizeLine; decide), fun t1 nt1 => ?_⟩⟩
                          have st1 := same_new (o := .tup [bd]) nt1
                          have c1 := cutV_length ((c :: xs).map V.int) none (some (i : Int))
                          have c2 := cutV_length ((c :: xs).map V.int) (some ((i : Int) + 1)) none
                          have sz := sizeLine_eq
                          refine ⟨p1, t1, _, _, rfl, rfl, st1 _ _ h1, upd_same, ?_, fun H3 p2 s3 h2 => ?_⟩
                          · rw [List.length_singleton]
                            omega
                          have S3 := (s1.trans st1).trans s3
                          refine ⟨_, rfl, _, rfl, _, _, rfl, rfl, _, rfl, fa, _, rfl, S3 _ _ C.hf, fun H4 p3 s4 h3 => ?_⟩
                          refine ⟨p2, p3, _, _, rfl, rfl, s4 _ _ h2, h3, ?_, fun H5 p4 s5 h4 => ?_⟩
                          · rw [List.length_append, List.length_singleton]
                            omega
                          have S5 := (S3.trans s4).trans s5
                          have hw5 := S5 _ _ hw
                          have C5 := C.same S5
                          have kb5 := kb.keep S5
                          refine ⟨lw, _, _, rfl, rfl, hw5, ?_, ⟨_, rfl⟩, C5.app hw5 wg wl w0, kn_app hw5 kb5, _, upd_same, ?_, fun v hv => ?_⟩
                          · omega
                          · rw [List.length_append, List.length_singleton, lw6]
                            omega
                          · rcases List.mem_append.mp hv with hv | hv
                            · exact isF_app hw5 ((hws v hv).keep S5)
                            · rcases List.mem_singleton.mp hv with rfl
                              refine isF_app hw5 (.inl ⟨p4, _, rfl, h4, ?_, fun x hx => ?_, ?_⟩)
                              · rw [List.length_append, List.length_append, List.length_singleton]
                                omega
                              · rcases List.mem_append.mp hx with hx | hx
                                · rcases List.mem_append.mp hx with hx | hx
                                  · obtain ⟨z, _, rfl⟩ := List.mem_map.mp (cut_mem hx)
                                    exact .int z
                                  · rcases List.mem_singleton.mp hx with rfl
                                    exact kb5
                                · obtain ⟨z, _, rfl⟩ := List.mem_map.mp (cut_mem hx)
                                  exact .int z
                              · have e : ((cutV ((c :: xs).map V.int) none (some (i : Int)) ++ [bd]) ++ cutV ((c :: xs).map V.int) (some ((i : Int) + 1)) none).all cntV = false := List.all_eq_false.mpr ⟨bd, by simp, by rw [cb]; decide⟩
                                rw [e, Bool.and_false]
                        · rintro σ H' ⟨hs, C, _, ws, hw, _, hws⟩
                          exact ⟨hs, C, ws, hw, hws⟩
                      · rintro σ' H16 ⟨⟨x3, rfl⟩, C, ws, hw, hws⟩
                        refine ⟨_, rfl, lw, rfl, ⟨_, SqL.of hw⟩, fun D nD => lc_list (K := K) (a := lw) (xs := ws) (fun j H' => Same H16 H' ∧ H' D = some (.lst [])) ⟨same_new nD, upd_same⟩ (fun j H' _ p => SqL.of (p.1 _ _ hw)) ?_ ?_⟩
                        · rintro j y H' hj ⟨sm, hD⟩
                          refine ⟨rfl, ?_⟩
                          exact ⟨_, rfl, _, rfl, k, y, false, rfl, hk3, (hws y (List.mem_of_getElem? hj)).keep sm, fun H2 s2 => ⟨false, false, rfl, rfl, false, rfl, iteF ⟨sm.trans s2, s2 _ _ hD⟩⟩⟩
                        · rintro H' ⟨sm, hD⟩
                          refine ⟨(by show 0 ≤ sizeLine; decide), fun l nl => ⟨_, _, .lst (SqL.of (same_new nl _ _ hD)) .nil, .lst (SqL.of upd_same) .nil, rfl, rfl, ?_⟩⟩
                          have e : PyData.eqv (.list []) (.list []) = true := by simp [PyData.eqv, PyData.eqvAll]
                          rw [e]
                          exact q _ (but_new (C.but.trans (Same.but sm)) nl)
end
end K1
set_option Elab.async false
set_option linter.all false
set_option maxRecDepth 100000
set_option maxHeartbeats 4000000
namespace K1
open PySem PySem.Spec PyProof.Rows L2 XV
abbrev sLaw : Stmt := top 36
theorem scLaw : FnScope ["_law_script", "_law_index", "_law_told"] ["_law_script"] (defScope sLaw) := ⟨rfl, rfl, rfl, by decide +kernel, rfl, by decide +kernel, by decide +kernel⟩
theorem da_ints {H : Hp} : ∀ (l : List Int) (vs : List V), DaAll H vs (l.map PyData.int) → vs = l.map V.int
  | [], _, .nil => rfl
  | x :: l, _, .cons (.int _) r => congrArg (V.int x :: ·) (da_ints l _ r)
theorem da_tup {H : Hp} {v : V} (l : List Int) (h : Da H v (.tuple (l.map PyData.int))) : ∃ a, v = .ref a ∧ H a = some (.tup (l.map V.int)) := by
  cases h with
  | @tup a xs _ h r => exact ⟨a, rfl, by rw [h, da_ints l xs r]⟩
theorem da_lst {H : Hp} {v : V} (l : List Int) (h : Da H v (.list (l.map PyData.int))) : ∃ a, v = .ref a ∧ H a = some (.lst (l.map V.int)) := by
  cases h with
  | @lst a xs _ h r => exact ⟨a, rfl, by rw [h, da_ints l xs r]⟩
theorem da_formsA {H : Hp} : ∀ (ls : List (List Int)) (vs : List V), DaAll H vs (ls.map fun l => PyData.tuple (l.map PyData.int)) → ∃ ps : List (Addr × List Int), vs = ps.map (fun p => V.ref p.1) ∧ (ps.map fun p => p.2) = ls ∧ ∀ p ∈ ps, H p.1 = some (.tup (p.2.map V.int))
  | [], _, .nil => ⟨[], rfl, rfl, fun p hp => by cases hp⟩
  | l :: ls, _, .cons h r => by
    obtain ⟨ps, e1, e2, e3⟩ := da_formsA ls _ r
    obtain ⟨a, e4, e5⟩ := da_tup l h
    refine ⟨(a, l) :: ps, by rw [e1, e4]; rfl, by rw [← e2]; rfl, fun p hp => ?_⟩
    rcases List.mem_cons.mp hp with rfl | hp
    · exact e5
    · exact e3 p hp
theorem da_forms {H : Hp} {v : V} (ls : List (List Int)) (h : Da H v (.list (ls.map fun l => PyData.tuple (l.map PyData.int)))) : ∃ (a : Addr) (ps : List (Addr × List Int)), v = .ref a ∧ H a = some (.lst (ps.map fun p => V.ref p.1)) ∧ (ps.map fun p => p.2) = ls ∧ ∀ p ∈ ps, H p.1 = some (.tup (p.2.map V.int)) := by
  cases h with
  | @lst a xs _ h r =>
    obtain ⟨ps, e1, e2, e3⟩ := da_formsA ls xs r
    exact ⟨a, ps, rfl, by rw [h, e1], e2, e3⟩
theorem sz_all {k : Nat} {l : List Int} (h : (l.all fun x => decide (0 ≤ x) && decide (x < 2 ^ k)) = true) : ∀ x ∈ l, Sz k x := fun x hx => by
  have z := List.all_eq_true.mp h x hx
  rw [Bool.and_eq_true, decide_eq_true_eq, decide_eq_true_eq] at z
  exact z
def spLaw (K : PySem.W.Frag) : Sp := fun vs H Q _ => ∃ (a : Addr) (ns : List Int), vs = [.ref a] ∧ SqL K H a (ns.map V.int) ∧ ns.length ≤ 63 ∧ ∀ H' : Hp, Q (.bl true) H'
section
variable {P : Program} {w : World} {K : PySem.W.Frag} {mg : Str → Option Value} {base : Heap} {f : Addr} {fd : FuncData}
theorem ok_law (F : FnP K "law" sLaw f fd) (oGen : Ok P w K mg base "_law_generator" 1 ["_law_script", "_law_index"] (spGen K)) (oGood : Ok P w K mg base "_law_good" 6 ["_law_generator_here"] spGood) (oIns : Ok P w K mg base "inserted" 5 ["form", "many", "forms"] spIns)
    (oV : Ok P w K mg base "value" 5 ["form", "point"] spVal) (oR : OkG P w K mg base "_law_refused" 7 [] spRefused) (z_range : mg "range" = none) : FnG P w K mg base CX0 8 f fd ["_law_script"] (spLaw K) := by
  have nd := scLaw.nd
  refine okG F scLaw (fun vs H Q E h => ?_) (fun cdv A outer s H vs Q E ag hr h => ?_)
  · obtain ⟨a, ns, rfl, _⟩ := h
    rfl
  · obtain ⟨a, ns, rfl, hS, hlen, q⟩ := h
    have hu := hr.units
    have r7 : Room 7 (A.deeper (envOfC "law" (defScope sLaw) s.heap.objs.size f cdv)) := hr
    have r6 := r7.mono (by decide : 6 ≤ 7)
    have r5 := r7.mono (by decide : 5 ≤ 7)
    have r1 := r7.mono (by decide : 1 ≤ 7)
    refine ⟨_, PSs.nox (pss_cons (ps_for PassesOwn.never rfl (pi_range1 (by rfl) z_range (pa_cons pe_int pa_nil)) (pg_name (i := 1) nd rfl (Or.inl rfl))
        (pss_one (ps_if (pt_not (pt_val (pe_callO oGood r6 (by rfl) (pa_cons (pe_callO oGen r1 (by rfl) (pa_cons (pv 0) (pa_cons (pv 1) pa_nil))) pa_nil)))) (pss_one (ps_ret pe_bl)) pss_nil)))
      (pss_cons (ps_set (i := 2) nd rfl (Or.inl rfl) (pe_lst (pa_cons (pe_callO oV r5 (by rfl) (pa_cons (pe_lit 3 (d := .tuple (([3, 1, 2] : List Int).map PyData.int)) rfl) (pa_cons (pe_lit 3 (d := .list (([10, 100] : List Int).map PyData.int)) rfl) pa_nil)))
          (pa_cons (pe_callO oIns r5 (by rfl) (pa_cons (pe_lit 3 (d := .tuple (([1, 2, 3] : List Int).map PyData.int)) rfl) (pa_cons pe_int (pa_cons (pe_lit 4 (d := .list (([[5, 1], [0, 4]] : List (List Int)).map fun l => PyData.tuple (l.map PyData.int))) rfl) pa_nil))))
          (pa_cons (pe_callO oIns r5 (by rfl) (pa_cons (pe_lit 3 (d := .tuple (([7] : List Int).map PyData.int)) rfl) (pa_cons pe_int (pa_cons (pe_lit 4 (d := .list (([] : List (List Int)).map fun l => PyData.tuple (l.map PyData.int))) rfl) pa_nil))))
          (pa_cons (pe_callO oIns r5 (by rfl) (pa_cons (pe_lit 3 (d := .tuple (([7] : List Int).map PyData.int)) rfl) (pa_cons pe_int (pa_cons (pe_lit 4 (d := .list (([] : List (List Int)).map fun l => PyData.tuple (l.map PyData.int))) rfl) pa_nil)))) pa_nil))))))
      (pss_one (ps_ret (pe_and (pe_cmpR (op_eqD hu) (pe_op op_cat (pv 2) (pe_lst (pa_cons (pe_callO oV r5 (by rfl) (pa_cons (pe_lit 3 (d := .tuple (([4] : List Int).map PyData.int)) rfl) (pa_cons (pe_lit 3 (d := .list (([] : List Int).map PyData.int)) rfl) pa_nil))) pa_nil)))
          (pe_lit 5 (d := .list [.int 213, .tuple [.int 11, .int 14], .tuple [.int 7], .tuple [.int 7, .int 0, .int 0], .int 4]) rfl) (nomark _)) (pe_one (pe_callG0 oR ag r7 (by rfl)))))))), ?_⟩
    refine ⟨3, rfl, by decide, by decide, for_range (lo := 0) (n := 3) (fun i σ H' => (∃ x, σ = [some (.ref a), x, none]) ∧ Same H H') ⟨⟨_, rfl⟩, Same.refl _⟩ ?_ ?_⟩
    · rintro i σ H' hi ⟨⟨x, rfl⟩, sm⟩
      rw [Int.zero_add]
      refine ⟨_, rfl, _, rfl, a, ns, i, rfl, sm.seq hS, by omega, fun H1 g s1 ng d1 => ⟨g, _, rfl, d1, by omega, fun H2 b2 => ⟨true, rfl, iteF ⟨⟨_, rfl⟩, fun b o e => ?_⟩⟩⟩⟩
      have e1 := sm _ _ e
      exact b2 _ _ (fun z => by rw [z, ng] at e1; cases e1) (s1 _ _ e1)
    · rintro σ H1 ⟨⟨x, rfl⟩, sm⟩
      refine fun v1 H2 s2 d1 v2 H3 s3 d2 => ?_
      obtain ⟨a1, rfl, h1⟩ := da_tup [3, 1, 2] d1
      obtain ⟨a2, rfl, h2⟩ := da_lst [10, 100] d2
      refine ⟨a1, a2, 3, [1, 2], [10, 100], rfl, s3 _ _ h1, h2, rfl, by decide, ⟨by decide, by decide⟩, sz_all (by decide), sz_all (by decide), fun H4 s4 => ?_⟩
      -- inserted((1, 2, 3), 1, [(5, 1), (0, 4)])
      refine fun v3 H5 s5 d3 v4 H6 s6 d4 => ?_
      obtain ⟨a3, rfl, h3⟩ := da_tup [1, 2, 3] d3
      obtain ⟨a4, ps, rfl, h4, e4, f4⟩ := da_forms [[5, 1], [0, 4]] d4
      have ok4 : ∀ p ∈ ps, p.2.length = 1 + 1 ∧ ∀ x ∈ p.2, Sz 1000 x := fun p hp => by
        have m : p.2 ∈ ([[5, 1], [0, 4]] : List (List Int)) := by
          rw [← e4]
          exact List.mem_map_of_mem hp
        rcases List.mem_cons.mp m with e | m
        · rw [e]
          exact ⟨rfl, sz_all (by decide)⟩
        rcases List.mem_cons.mp m with e | m
        · rw [e]
          exact ⟨rfl, sz_all (by decide)⟩
        · cases m
      have l4 : ps.length = 2 := by
        have z := congrArg List.length e4
        rw [List.length_map] at z
        exact z
      refine ⟨a3, a4, 1, 1, [2, 3], ps, rfl, s6 _ _ h3, by decide, l4.symm, by decide, ⟨by decide, by decide⟩, sz_all (by decide), ⟨h4, fun p hp => ⟨f4 p hp, ok4 p hp⟩⟩, fun H7 b1 s7 nb1 hb1 => ?_⟩
      rw [e4, show (List.range (1 + 1)).map (withV 1 [2, 3] [[5, 1], [0, 4]]) = [11, 14] from by decide] at hb1
      -- inserted((7,), 0, [])
      refine fun v5 H8 s8 d5 v6 H9 s9 d6 => ?_
      obtain ⟨a5, rfl, h5⟩ := da_tup [7] d5
      obtain ⟨a6, ps6, rfl, h6, e6, f6⟩ := da_forms [] d6
      obtain rfl : ps6 = [] := List.map_eq_nil_iff.mp e6
      refine ⟨a5, a6, 0, 7, [], [], rfl, s9 _ _ h5, by decide, rfl, by decide, ⟨by decide, by decide⟩, (fun x hx => by cases hx), ⟨h6, fun p hp => by cases hp⟩, fun H10 b2 s10 nb2 hb2 => ?_⟩
      rw [show (List.range (0 + 1)).map (withV 7 [] (([] : List (Addr × List Int)).map fun p => p.2)) = [7] from by decide] at hb2
      -- inserted((7,), 2, [])
      refine fun v7 H11 s11 d7 v8 H12 s12 d8 => ?_
      obtain ⟨a7, rfl, h7⟩ := da_tup [7] d7
      obtain ⟨a8, ps8, rfl, h8, e8, f8⟩ := da_forms [] d8
      obtain rfl : ps8 = [] := List.map_eq_nil_iff.mp e8
      refine ⟨a7, a8, 2, 7, [], [], rfl, s12 _ _ h7, by decide, rfl, by decide, ⟨by decide, by decide⟩, (fun x hx => by cases hx), ⟨h8, fun p hp => by cases hp⟩, fun H13 b3 s13 nb3 hb3 => ?_⟩
      rw [show (List.range (2 + 1)).map (withV 7 [] (([] : List (Addr × List Int)).map fun p => p.2)) = [7, 0, 0] from by decide] at hb3
      refine ⟨(by show 4 ≤ sizeLine; decide), fun lt nlt => ?_⟩
      refine ⟨_, rfl, fun v9 H14 s14 d9 v10 H15 s15 d10 => ?_⟩
      obtain ⟨a9, rfl, h9⟩ := da_tup [4] d9
      obtain ⟨a10, rfl, h10⟩ := da_lst [] d10
      refine ⟨a9, a10, 4, [], [], rfl, s15 _ _ h9, h10, rfl, by decide, ⟨by decide, by decide⟩, (fun x hx => by cases hx), (fun x hx => by cases hx), fun H16 s16 => ⟨(by show 1 ≤ sizeLine; decide), fun l1 nl1 => ?_⟩⟩
      have sA := ((s14.trans s15).trans s16).trans (same_new (o := .lst [.int (4 + dot [] [])]) nl1)
      refine ⟨lt, l1, _, _, rfl, rfl, sA _ _ upd_same, upd_same, (by show 4 + 1 ≤ sizeLine; decide), fun lr nlr => ?_⟩
      have sB := ((same_new (o := .lst [.int (3 + dot [1, 2] [10, 100]), .ref b1, .ref b2, .ref b3]) nlt).trans sA).trans (same_new (o := .lst [.int (3 + dot [1, 2] [10, 100]), .ref b1, .ref b2, .ref b3, .int (4 + dot [] [])]) nlr)
      have g3 := sB _ _ hb3
      have g2 := sB _ _ (((s11.trans s12).trans s13) _ _ hb2)
      have g1 := sB _ _ ((((((s8.trans s9).trans s10).trans s11).trans s12).trans s13) _ _ hb1)
      refine fun vL HL sL dL => ⟨.list [.int 213, .tuple [.int 11, .int 14], .tuple [.int 7], .tuple [.int 7, .int 0, .int 0], .int 4], _, ?_, dL.dp, by decide +kernel, by decide +kernel, ?_⟩
      · exact .lst (SqL.of (sL _ _ upd_same)) (.cons (.int 213) (.cons (.tup (SqT.of (sL _ _ g1)) (dp_ints [11, 14])) (.cons (.tup (SqT.of (sL _ _ g2)) (dp_ints [7])) (.cons (.tup (SqT.of (sL _ _ g3)) (dp_ints [7, 0, 0])) (.cons (.int 4) .nil)))))
      · rw [SeqAt.eqv_refl _ (by decide +kernel)]
        exact ⟨true, rfl, iteT ⟨rfl, fun H' _ => q H'⟩⟩
end
end K1
set_option Elab.async false
set_option linter.all false
set_option maxRecDepth 100000
set_option maxHeartbeats 2000000
namespace XV
open PySem PySem.Spec PyProof.Rows L2
/-! ### what isinstance says of a class, by its order of classes -/
def mroB (K : PySem.W.Frag) (C : Addr) (m : List Value) : Bool := match K.lookup C with
  | some ⟨t, _, .cls cd, _⟩ => decide (t = .type "type") && decide (cd.mro = m)
  | _ => false
theorem mroB_ok {K : PySem.W.Frag} {C : Addr} {m : List Value} (h : mroB K C m = true) : (∃ cd, PySem.W.clsIn K C = some cd ∧ cd.mro = m) ∧ PySem.W.typeIn K (.ref C) = some (.type "type") := by
  unfold mroB at h
  split at h
  · rename_i t d cd sl ho
    obtain ⟨h1, h2⟩ := He.ba h
    have e1 : t = .type "type" := of_decide_eq_true h1
    have e2 : cd.mro = m := of_decide_eq_true h2
    refine ⟨⟨cd, ?_, e2⟩, ?_⟩
    · unfold PySem.W.clsIn
      rw [ho]
    · show (K.lookup C).map (fun o => o.cls) = _
      rw [ho, e1]
      rfl
  · cases h
theorem sub_mro {K : PySem.W.Frag} {C : Addr} {m : List Value} (h : mroB K C m = true) (hm : m.isEmpty = false) (b : Value) : PySem.W.subIn K (.ref C) b = some (m.contains b) := by
  obtain ⟨⟨cd, h1, h2⟩, _⟩ := mroB_ok h
  show PySem.W.mroIn K C b = _
  unfold PySem.W.mroIn
  rw [h1]
  show (if cd.mro.isEmpty = true then none else some (cd.mro.contains b)) = _
  rw [h2, hm, if_neg Bool.false_ne_true]
theorem kit_mro {K : PySem.W.Frag} {C D : Addr} {m m' : List Value} (h : mroB K C m = true) (hm : m.isEmpty = false) (h' : mroB K D m' = true) (hs : C = D → m.contains (.ref D) = true) : PySem.W.kitOne K (.ref C) (.ref D) = some (m.contains (.ref D)) := by
  unfold PySem.W.kitOne
  by_cases e : C = D
  · rw [hs e, if_pos (beq_iff_eq.mpr (congrArg Value.ref e))]
  · rw [if_neg (fun z => e (Value.ref.inj (beq_iff_eq.mp z)))]
    obtain ⟨⟨cd, h1, _⟩, h2⟩ := mroB_ok h'
    show (if ((PySem.W.clsIn K D).isSome && PySem.W.typeIn K (.ref D) == some (.type "type")) = true then PySem.W.subIn K (.ref C) (.ref D) else none) = _
    rw [h1, h2, if_pos (by rw [Bool.and_eq_true]; exact ⟨rfl, beq_iff_eq.mpr rfl⟩)]
    exact sub_mro h hm _
theorem kit_ve {K : PySem.W.Frag} {C : Addr} {m : List Value} (h : mroB K C m = true) (hm : m.isEmpty = false) : PySem.W.kitOne K (.ref C) (.type "ValueError") = some (m.contains (.type "ValueError")) := by
  unfold PySem.W.kitOne
  rw [if_neg (fun z => by cases (beq_iff_eq.mp z))]
  show (if PySem.W.kitMeta "ValueError" = true then PySem.W.subIn K (.ref C) (.type "ValueError") else none) = _
  rw [if_pos (by decide +kernel)]
  exact sub_mro h hm _
/-! ### a part of the heap, each object once, written out -/
def refsK (o : Obj) : List Addr := match o.data with
  | .dict es _ => es.toList.flatMap fun e => He.refV e.val
  | .func fd => He.refV fd.code ++ He.refV fd.defaults
  | .cls cd => [cd.ns]
  | _ => []
def refsA (g : Addr → Option Obj) (a : Addr) : List Addr := match g a with
  | some o => refsK o
  | none => []
def frcA {α : Type} (l : List Addr) (k : List Addr → α) : α := match l with
  | [] => k []
  | a :: r => HandSHeadRun.frNat a fun a => frcA r fun r => k (a :: r)
theorem frcA_eq {α : Type} : ∀ (l : List Addr) (k : List Addr → α), frcA l k = k l
  | [], _ => rfl
  | a :: r, k => by
    show HandSHeadRun.frNat a (fun a => frcA r fun r => k (a :: r)) = _
    rw [HandSHeadRun.frNat_eq, frcA_eq r]
def asK (g : Addr → Option Obj) : List Addr := frcA (refsA g mainGlobals) fun l1 => frcA (l1.flatMap (refsA g)) fun l2 => frcA (l2.flatMap (refsA g)) fun l3 => frcA (l3.flatMap (refsA g)) fun l4 => mainGlobals :: (l1 ++ (l2 ++ (l3 ++ l4)))
def frcK {α : Type} (l : PySem.W.Frag) (k : PySem.W.Frag → α) : α := match l with
  | [] => k []
  | (a, o) :: r => HandSHeadRun.frNat a fun a => frcK r fun r => k ((a, o) :: r)
theorem frcK_eq {α : Type} : ∀ (l : PySem.W.Frag) (k : PySem.W.Frag → α), frcK l k = k l
  | [], _ => rfl
  | (a, o) :: r, k => by
    show HandSHeadRun.frNat a (fun a => frcK r fun r => k ((a, o) :: r)) = _
    rw [HandSHeadRun.frNat_eq, frcK_eq r]
def hookF (α : Type) (obs : PySem.W.Frag → α) (val : α) : PySem.W.Hook where
  α := α
  obs := fun s => obs (He.frG s.heap.get? (asK s.heap.get?))
  val := fun _ => val
  says := fun _ h => ∃ K : PySem.W.Frag, K.In h ∧ obs K = val
  of := fun _ _ e => ⟨_, He.frG_in, e⟩
  keeps := fun _ _ _ ⟨K, hK, c⟩ k => ⟨K, PySem.W.Frag.In.keeps hK k, c⟩
def obF {α : Type} (obs : PySem.W.Frag → α) (s : PySem.W.SharedT) : α := frcK (He.frG (HandSHeadRun.getT s) (asK (HandSHeadRun.getT s))) obs
theorem obF_eq {α : Type} {obs : PySem.W.Frag → α} {val : α} (s : PySem.W.SharedT) : obF obs s = (hookF α obs val).obs s.abs := by
  unfold obF
  rw [frcK_eq]
  have e : HandSHeadRun.getT s = s.abs.heap.get? := funext (HandSHeadRun.getT_eq s)
  rw [e]
  rfl
theorem map_two {S A B C D : Type} {e : Option S} {f : S → A} {g : S → B} {o : S → C} {o' : S → D} {a : A} {b : B} {c : C} {d : D} (h1 : e.map (fun s => (f s, g s, o s)) = some (a, b, c)) (h2 : e.map (fun s => o' s) = some d) :
    e.map (fun s => (f s, g s, (o s, o' s))) = some (a, b, (c, d)) := by
  cases e with
  | none => cases h1
  | some s =>
    have z1 : (f s, g s, o s) = (a, b, c) := Option.some.inj h1
    have z2 : o' s = d := Option.some.inj h2
    cases z2
    cases z1
    rfl
end XV
set_option Elab.async false
set_option linter.all false
set_option maxRecDepth 100000
set_option maxHeartbeats 0
namespace K1
open PySem PySem.Spec PyProof.Rows L2 XV
/-! ### what the top must say -/
def dF (x : Str) (i : Nat) : He.DefD := ⟨(x, none), x, x, defArgs (top i), defBody (top i), defScope (top i), [], []⟩
def dI (x q : Str) (l : Nat) (fld : Str) : He.DefD := ⟨(x, some "__init__"), "__init__", q, initA fld ⟨l, 17, l, 21⟩ ⟨l, 23, l, 28⟩ ⟨l, 29, l, 33⟩, initB fld ⟨l + 1, 8, l + 1, 12⟩ ⟨l + 1, 8, l + 1, 18⟩ ⟨l + 1, 21, l + 1, 26⟩ ⟨l + 1, 8, l + 1, 26⟩, initS fld, [.non], []⟩
def fn : List He.DefD := [dI "InvalidNumber" "InvalidNumber.__init__" 6 "value", dI "InvalidForm" "InvalidForm.__init__" 10 "value", dI "InvalidPoint" "InvalidPoint.__init__" 14 "value", dI "InvalidList" "InvalidList.__init__" 18 "value", dF "is_whole" 8, dF "is_count" 9, dF "is_count_below" 10, dF "require_many" 11, dF "is_point" 12, dF "is_form" 14, dF "value" 15, dF "inserted" 16, dF "has_form" 17, dF "require_form" 18, dF "require_forms" 19, dF "form_value" 20, dF "form_with" 21, dF "form_times" 22, dF "sum_of_forms" 23, dF "plain_form" 24, dF "_law_hash" 26, dF "_law_generator" 27, dF "_law_random" 28, dF "_law_number" 29, dF "_law_form" 30, dF "_law_value" 31, dF "_law_good" 32, dF "_law_caught" 33, dF "_law_only" 34, dF "_law_refused" 35, dF "law" 36]
def fa : List He.Fa := [.glo "is_whole", .glo "is_count", .glo "is_count_below", .glo "require_many", .glo "is_point", .glo "is_form", .glo "value", .glo "inserted", .glo "has_form", .glo "require_form", .glo "require_forms", .glo "form_value", .glo "form_with", .glo "form_times", .glo "sum_of_forms", .glo "plain_form", .glo "_law_hash", .glo "_law_generator", .glo "_law_random", .glo "_law_number", .glo "_law_form", .glo "_law_value", .glo "_law_good", .glo "_law_caught", .glo "_law_only", .glo "_law_refused", .glo "law", .free "isinstance", .free "int", .free "bool", .free "tuple", .free "list", .free "len", .free "all", .free "any", .free "sum", .free "range", .free "max", .free "zip", .free "repr", .int "MOST_UNKNOWNS" 3]
def bxX (K : PySem.W.Frag) : Bool := (List.range 4).all fun i => xclsB K (nm1 i) "value"
def mroI (K : PySem.W.Frag) (i : Nat) : List Value := .ref (C1 K i) :: .ref (C1 K 4) :: He.veBase
def bxK (K : PySem.W.Frag) : Bool := ecls0B K "LoopError" && (Nat.blt (C1 K 4) (C1 K 0) && (((List.range 3).all fun i => Nat.blt (C1 K i) (C1 K (i + 1))) && (((List.range 4).all fun i => mroB K (C1 K i) (mroI K i)) && mroB K (C1 K 4) (.ref (C1 K 4) :: He.veBase))))
def bx (K : PySem.W.Frag) : Bool := bxX K && bxK K
end K1
set_option Elab.async false
set_option linter.all false
set_option maxRecDepth 100000
set_option maxHeartbeats 0
namespace K1
open PySem PySem.Spec PyProof.Rows L2 XV
section
variable {P : Program} {w : World} {K : PySem.W.Frag} {mg : Str → Option Value} {base h : Heap}
theorem cl_of (X : K.In h) (G : h.Ns mainGlobals mg) (c : He.SaysD fa fn K) (b : bx K = true) : Cl1 P w K mg base := by
  obtain ⟨b1, b⟩ := He.ba b
  obtain ⟨b2, b⟩ := He.ba b
  obtain ⟨k1, b⟩ := He.ba b
  obtain ⟨k2, b⟩ := He.ba b
  obtain ⟨k3, k4⟩ := He.ba b
  have up : ∀ j, j < 4 → ∀ i, i < j → C1 K i < C1 K j := by
    intro j
    induction j with
    | zero => intro _ i h; exact absurd h (by omega)
    | succ j ih =>
      intro hj i hi
      have s : C1 K j < C1 K (j + 1) := Nat.le_of_ble_eq_true (List.all_eq_true.mp k2 j (List.mem_range.mpr (by omega)))
      by_cases q : i = j
      · rw [q]; exact s
      · exact Nat.lt_trans (ih (by omega) i (by omega)) s
  have l0 : C1 K 4 < C1 K 0 := Nat.le_of_ble_eq_true k1
  have lL : ∀ i, i < 4 → C1 K 4 < C1 K i := fun i hi => by
    by_cases q : i = 0
    · rw [q]; exact l0
    · exact Nat.lt_trans l0 (up i hi 0 (by omega))
  have hm : ∀ i, i < 4 → mroB K (C1 K i) (mroI K i) = true := fun i hi => List.all_eq_true.mp k3 i (List.mem_range.mpr hi)
  have ct : ∀ i x, (mroI K i).contains (.ref x) = (decide (C1 K i = x) || decide (C1 K 4 = x)) := fun i x => by
    have e : ∀ y : Addr, (Value.ref x == Value.ref y) = decide (y = x) := fun y => by
      by_cases q : y = x
      · rw [q, decide_eq_true rfl]; exact beq_iff_eq.mpr rfl
      · rw [decide_eq_false q]; exact beq_eq_false_iff_ne.mpr (fun z => q (Value.ref.inj z).symm)
    have e2 : ∀ n : String, (Value.ref x == Value.type n) = false := fun n => beq_eq_false_iff_ne.mpr (fun z => by cases z)
    unfold mroI He.veBase
    simp only [List.contains_cons, List.contains_nil, e, e2, Bool.or_false]
  have hx : ∀ i, i < 4 → xclsB K (nm1 i) "value" = true := fun i hi => List.all_eq_true.mp b1 i (List.mem_range.mpr hi)
  have gL := (He.ba b2).1
  have eL : ExcC K (C1 K 4) := excB_ok (He.ba (He.ba (He.ba b2).2).2).2
  have tL := (mroB_ok k4).2
  refine ⟨?_, ?_, ?_, ?_, ?_, ?_⟩
  · intro i hi
    have x0 : ∃ fI fd, XCls P w K mg base (nm1 0) "value" (C1 K 0) fI fd := by
      obtain ⟨fd, F⟩ := c.def_ 0 (d := dI "InvalidNumber" "InvalidNumber.__init__" 6 "value") rfl
      exact ⟨_, fd, xcls_V (nm := "InvalidNumber") X G (hx 0 (by decide)) F⟩
    have x1 : ∃ fI fd, XCls P w K mg base (nm1 1) "value" (C1 K 1) fI fd := by
      obtain ⟨fd, F⟩ := c.def_ 1 (d := dI "InvalidForm" "InvalidForm.__init__" 10 "value") rfl
      exact ⟨_, fd, xcls_V (nm := "InvalidForm") X G (hx 1 (by decide)) F⟩
    have x2 : ∃ fI fd, XCls P w K mg base (nm1 2) "value" (C1 K 2) fI fd := by
      obtain ⟨fd, F⟩ := c.def_ 2 (d := dI "InvalidPoint" "InvalidPoint.__init__" 14 "value") rfl
      exact ⟨_, fd, xcls_V (nm := "InvalidPoint") X G (hx 2 (by decide)) F⟩
    have x3 : ∃ fI fd, XCls P w K mg base (nm1 3) "value" (C1 K 3) fI fd := by
      obtain ⟨fd, F⟩ := c.def_ 3 (d := dI "InvalidList" "InvalidList.__init__" 18 "value") rfl
      exact ⟨_, fd, xcls_V (nm := "InvalidList") X G (hx 3 (by decide)) F⟩
    match i, hi with
    | 0, _ => exact x0
    | 1, _ => exact x1
    | 2, _ => exact x2
    | 3, _ => exact x3
    | _ + 4, hi => exact absurd hi (by omega)
  · intro i hi
    by_cases q : i < 4
    · exact PySem.W.mg_of X G (He.eqO_ok (He.ba (hx i q)).1)
    · obtain rfl : i = 4 := by omega
      exact PySem.W.mg_of X G (He.eqO_ok gL)
  · intro i hi
    exact (xcls_E (hx i hi)).1
  · intro i hi
    exact (xcls_E (hx i hi)).2
  · intro i hi j hj
    rw [kit_mro (hm i hi) rfl (hm j hj) (fun e => by rw [ct, decide_eq_true e]; rfl), ct]
    have nL : ¬ C1 K 4 = C1 K j := fun z => absurd z (Nat.ne_of_lt (lL j hj))
    rw [decide_eq_false nL, Bool.or_false]
    by_cases q : i = j
    · rw [q, decide_eq_true rfl, decide_eq_true rfl]
    · have n : ¬ C1 K i = C1 K j := fun z => by
        rcases Nat.lt_or_gt_of_ne q with l | l
        · exact absurd z (Nat.ne_of_lt (up j hj i l))
        · exact absurd z.symm (Nat.ne_of_lt (up i hi j l))
      rw [decide_eq_false q, decide_eq_false n]
  · intro i hi
    refine PySem.W.exm_ref eL.hs eL.hd tL ?_
    rw [sub_mro (hm i hi) rfl, ct, decide_eq_true (rfl : C1 K 4 = C1 K 4), Bool.or_true]
theorem facts {f : Addr} (X : K.In h) (G : h.Ns mainGlobals mg) (hfa : mg ("law" : Str) = some (.ref f)) (c : He.SaysD fa fn K) (b : bx K = true) :
    ∃ fd : FuncData, (∀ (s : Shared) (v : Value), BindsTo s fd ⟨[v], []⟩ [("_law_script", v)]) ∧ ∀ base : Heap, K.In base → base.Ns mainGlobals mg → FnG P w K mg base CX0 8 f fd ["_law_script"] (spLaw K) := by
  obtain ⟨fd_is_whole, F_is_whole⟩ := c.def_ 4 (d := dF "is_whole" 8) rfl
  obtain ⟨fd_is_count, F_is_count⟩ := c.def_ 5 (d := dF "is_count" 9) rfl
  obtain ⟨fd_is_count_below, F_is_count_below⟩ := c.def_ 6 (d := dF "is_count_below" 10) rfl
  obtain ⟨fd_require_many, F_require_many⟩ := c.def_ 7 (d := dF "require_many" 11) rfl
  obtain ⟨fd_is_point, F_is_point⟩ := c.def_ 8 (d := dF "is_point" 12) rfl
  obtain ⟨fd_is_form, F_is_form⟩ := c.def_ 9 (d := dF "is_form" 14) rfl
  obtain ⟨fd_value, F_value⟩ := c.def_ 10 (d := dF "value" 15) rfl
  obtain ⟨fd_inserted, F_inserted⟩ := c.def_ 11 (d := dF "inserted" 16) rfl
  obtain ⟨fd_has_form, F_has_form⟩ := c.def_ 12 (d := dF "has_form" 17) rfl
  obtain ⟨fd_require_form, F_require_form⟩ := c.def_ 13 (d := dF "require_form" 18) rfl
  obtain ⟨fd_require_forms, F_require_forms⟩ := c.def_ 14 (d := dF "require_forms" 19) rfl
  obtain ⟨fd_form_value, F_form_value⟩ := c.def_ 15 (d := dF "form_value" 20) rfl
  obtain ⟨fd_form_with, F_form_with⟩ := c.def_ 16 (d := dF "form_with" 21) rfl
  obtain ⟨fd_form_times, F_form_times⟩ := c.def_ 17 (d := dF "form_times" 22) rfl
  obtain ⟨fd_sum_of_forms, F_sum_of_forms⟩ := c.def_ 18 (d := dF "sum_of_forms" 23) rfl
  obtain ⟨fd_plain_form, F_plain_form⟩ := c.def_ 19 (d := dF "plain_form" 24) rfl
  obtain ⟨fd__law_hash, F__law_hash⟩ := c.def_ 20 (d := dF "_law_hash" 26) rfl
  obtain ⟨fd__law_generator, F__law_generator⟩ := c.def_ 21 (d := dF "_law_generator" 27) rfl
  obtain ⟨fd__law_random, F__law_random⟩ := c.def_ 22 (d := dF "_law_random" 28) rfl
  obtain ⟨fd__law_number, F__law_number⟩ := c.def_ 23 (d := dF "_law_number" 29) rfl
  obtain ⟨fd__law_form, F__law_form⟩ := c.def_ 24 (d := dF "_law_form" 30) rfl
  obtain ⟨fd__law_value, F__law_value⟩ := c.def_ 25 (d := dF "_law_value" 31) rfl
  obtain ⟨fd__law_good, F__law_good⟩ := c.def_ 26 (d := dF "_law_good" 32) rfl
  obtain ⟨fd__law_caught, F__law_caught⟩ := c.def_ 27 (d := dF "_law_caught" 33) rfl
  obtain ⟨fd__law_only, F__law_only⟩ := c.def_ 28 (d := dF "_law_only" 34) rfl
  obtain ⟨fd__law_refused, F__law_refused⟩ := c.def_ 29 (d := dF "_law_refused" 35) rfl
  obtain ⟨fd_law, F_law⟩ := c.def_ 30 (d := dF "law" 36) rfl
  have g_is_whole : mg "is_whole" = some (.ref (He.ga K "is_whole")) := He.glo_ok X G (c.fact 0 (f := .glo "is_whole") rfl)
  have g_is_count : mg "is_count" = some (.ref (He.ga K "is_count")) := He.glo_ok X G (c.fact 1 (f := .glo "is_count") rfl)
  have g_is_count_below : mg "is_count_below" = some (.ref (He.ga K "is_count_below")) := He.glo_ok X G (c.fact 2 (f := .glo "is_count_below") rfl)
  have g_require_many : mg "require_many" = some (.ref (He.ga K "require_many")) := He.glo_ok X G (c.fact 3 (f := .glo "require_many") rfl)
  have g_is_point : mg "is_point" = some (.ref (He.ga K "is_point")) := He.glo_ok X G (c.fact 4 (f := .glo "is_point") rfl)
  have g_is_form : mg "is_form" = some (.ref (He.ga K "is_form")) := He.glo_ok X G (c.fact 5 (f := .glo "is_form") rfl)
  have g_value : mg "value" = some (.ref (He.ga K "value")) := He.glo_ok X G (c.fact 6 (f := .glo "value") rfl)
  have g_inserted : mg "inserted" = some (.ref (He.ga K "inserted")) := He.glo_ok X G (c.fact 7 (f := .glo "inserted") rfl)
  have g_has_form : mg "has_form" = some (.ref (He.ga K "has_form")) := He.glo_ok X G (c.fact 8 (f := .glo "has_form") rfl)
  have g_require_form : mg "require_form" = some (.ref (He.ga K "require_form")) := He.glo_ok X G (c.fact 9 (f := .glo "require_form") rfl)
  have g_require_forms : mg "require_forms" = some (.ref (He.ga K "require_forms")) := He.glo_ok X G (c.fact 10 (f := .glo "require_forms") rfl)
  have g_form_value : mg "form_value" = some (.ref (He.ga K "form_value")) := He.glo_ok X G (c.fact 11 (f := .glo "form_value") rfl)
  have g_form_with : mg "form_with" = some (.ref (He.ga K "form_with")) := He.glo_ok X G (c.fact 12 (f := .glo "form_with") rfl)
  have g_form_times : mg "form_times" = some (.ref (He.ga K "form_times")) := He.glo_ok X G (c.fact 13 (f := .glo "form_times") rfl)
  have g_sum_of_forms : mg "sum_of_forms" = some (.ref (He.ga K "sum_of_forms")) := He.glo_ok X G (c.fact 14 (f := .glo "sum_of_forms") rfl)
  have g_plain_form : mg "plain_form" = some (.ref (He.ga K "plain_form")) := He.glo_ok X G (c.fact 15 (f := .glo "plain_form") rfl)
  have g__law_hash : mg "_law_hash" = some (.ref (He.ga K "_law_hash")) := He.glo_ok X G (c.fact 16 (f := .glo "_law_hash") rfl)
  have g__law_generator : mg "_law_generator" = some (.ref (He.ga K "_law_generator")) := He.glo_ok X G (c.fact 17 (f := .glo "_law_generator") rfl)
  have g__law_random : mg "_law_random" = some (.ref (He.ga K "_law_random")) := He.glo_ok X G (c.fact 18 (f := .glo "_law_random") rfl)
  have g__law_number : mg "_law_number" = some (.ref (He.ga K "_law_number")) := He.glo_ok X G (c.fact 19 (f := .glo "_law_number") rfl)
  have g__law_form : mg "_law_form" = some (.ref (He.ga K "_law_form")) := He.glo_ok X G (c.fact 20 (f := .glo "_law_form") rfl)
  have g__law_value : mg "_law_value" = some (.ref (He.ga K "_law_value")) := He.glo_ok X G (c.fact 21 (f := .glo "_law_value") rfl)
  have g__law_good : mg "_law_good" = some (.ref (He.ga K "_law_good")) := He.glo_ok X G (c.fact 22 (f := .glo "_law_good") rfl)
  have g__law_caught : mg "_law_caught" = some (.ref (He.ga K "_law_caught")) := He.glo_ok X G (c.fact 23 (f := .glo "_law_caught") rfl)
  have g__law_only : mg "_law_only" = some (.ref (He.ga K "_law_only")) := He.glo_ok X G (c.fact 24 (f := .glo "_law_only") rfl)
  have g__law_refused : mg "_law_refused" = some (.ref (He.ga K "_law_refused")) := He.glo_ok X G (c.fact 25 (f := .glo "_law_refused") rfl)
  have g_law : mg "law" = some (.ref (He.ga K "law")) := He.glo_ok X G (c.fact 26 (f := .glo "law") rfl)
  have z_isinstance : mg "isinstance" = none := He.free_ok X G (c.fact 27 (f := .free "isinstance") rfl)
  have z_int : mg "int" = none := He.free_ok X G (c.fact 28 (f := .free "int") rfl)
  have z_bool : mg "bool" = none := He.free_ok X G (c.fact 29 (f := .free "bool") rfl)
  have z_tuple : mg "tuple" = none := He.free_ok X G (c.fact 30 (f := .free "tuple") rfl)
  have z_list : mg "list" = none := He.free_ok X G (c.fact 31 (f := .free "list") rfl)
  have z_len : mg "len" = none := He.free_ok X G (c.fact 32 (f := .free "len") rfl)
  have z_all : mg "all" = none := He.free_ok X G (c.fact 33 (f := .free "all") rfl)
  have z_any : mg "any" = none := He.free_ok X G (c.fact 34 (f := .free "any") rfl)
  have z_sum : mg "sum" = none := He.free_ok X G (c.fact 35 (f := .free "sum") rfl)
  have z_range : mg "range" = none := He.free_ok X G (c.fact 36 (f := .free "range") rfl)
  have z_max : mg "max" = none := He.free_ok X G (c.fact 37 (f := .free "max") rfl)
  have z_zip : mg "zip" = none := He.free_ok X G (c.fact 38 (f := .free "zip") rfl)
  have z_repr : mg "repr" = none := He.free_ok X G (c.fact 39 (f := .free "repr") rfl)
  obtain ⟨t_MOST_UNKNOWNS, h_MOST_UNKNOWNS⟩ := He.int_ok X G (c.fact 40 (f := .int "MOST_UNKNOWNS" 3) rfl)
  have eL := hfa.symm.trans g_law
  cases eL
  have bL := FunD.bindsA (ps := ["_law_script"]) F_law fun _ _ _ _ _ _ us hl => match us, hl with | [_], _ => rfl
  refine ⟨fd_law, fun s v => bL s [v] rfl, fun base Xb _ => ?_⟩
  have Z : Cl1 P w K mg base := cl_of X G c b
  have o__law_hash := Ok.mk' (P := P) (w := w) (base := base) F__law_hash g__law_hash (fun _ _ _ _ _ _ us hl => match us, hl with | [_, _], _ => rfl) (ok_hash F__law_hash z_int)
  have o__law_random := Ok.mk' (P := P) (w := w) (base := base) F__law_random g__law_random (fun _ _ _ _ _ _ us hl => match us, hl with | [_, _], _ => rfl) (ok_rand F__law_random o__law_hash z_int z_range)
  have o__law_generator := Ok.mk' (P := P) (w := w) (base := base) F__law_generator g__law_generator (fun _ _ _ _ _ _ us hl => match us, hl with | [_, _], _ => rfl) (ok_gen F__law_generator z_int z_len z_sum z_max)
  have o__law_number := Ok.mk' (P := P) (w := w) (base := base) F__law_number g__law_number (fun _ _ _ _ _ _ us hl => match us, hl with | [_], _ => rfl) (ok_number F__law_number o__law_random)
  have o__law_form := Ok.mk' (P := P) (w := w) (base := base) F__law_form g__law_form (fun _ _ _ _ _ _ us hl => match us, hl with | [_, _], _ => rfl) (ok_form F__law_form o__law_number z_tuple z_range)
  have o__law_value := Ok.mk' (P := P) (w := w) (base := base) F__law_value g__law_value (fun _ _ _ _ _ _ us hl => match us, hl with | [_, _], _ => rfl) (ok_value F__law_value z_sum z_range z_len)
  have o_is_whole := Ok.mk' (P := P) (w := w) (base := base) F_is_whole g_is_whole (fun _ _ _ _ _ _ us hl => match us, hl with | [_], _ => rfl) (ok_whole F_is_whole z_isinstance z_int z_bool)
  have o_is_count := Ok.mk' (P := P) (w := w) (base := base) F_is_count g_is_count (fun _ _ _ _ _ _ us hl => match us, hl with | [_], _ => rfl) (ok_count F_is_count o_is_whole)
  have o_is_count_below := Ok.mk' (P := P) (w := w) (base := base) F_is_count_below g_is_count_below (fun _ _ _ _ _ _ us hl => match us, hl with | [_, _], _ => rfl) (ok_below F_is_count_below o_is_count)
  have o_form_value := Ok.mk' (P := P) (w := w) (base := base) F_form_value g_form_value (fun _ _ _ _ _ _ us hl => match us, hl with | [_, _], _ => rfl) (ok_formValue F_form_value z_sum z_zip)
  have o_form_times := Ok.mk' (P := P) (w := w) (base := base) F_form_times g_form_times (fun _ _ _ _ _ _ us hl => match us, hl with | [_, _], _ => rfl) (ok_times F_form_times z_tuple)
  have o_plain_form := Ok.mk' (P := P) (w := w) (base := base) F_plain_form g_plain_form (fun _ _ _ _ _ _ us hl => match us, hl with | [_, _], _ => rfl) (ok_plain F_plain_form z_tuple)
  have o_sum_of_forms := Ok.mk' (P := P) (w := w) (base := base) F_sum_of_forms g_sum_of_forms (fun _ _ _ _ _ _ us hl => match us, hl with | [_, _], _ => rfl) (ok_sum F_sum_of_forms z_tuple z_sum z_range)
  have o_form_with := Ok.mk' (P := P) (w := w) (base := base) F_form_with g_form_with (fun _ _ _ _ _ _ us hl => match us, hl with | [_, _, _], _ => rfl) (ok_with F_form_with o_form_times o_plain_form o_sum_of_forms z_zip)
  have o_has_form := Ok.mk' (P := P) (w := w) (base := base) F_has_form g_has_form (fun _ _ _ _ _ _ us hl => match us, hl with | [_, _], _ => rfl) (ok_hasForm F_has_form o_is_count z_isinstance z_tuple z_len z_all)
  have o_is_point := Ok.mk' (P := P) (w := w) (base := base) F_is_point g_is_point (fun _ _ _ _ _ _ us hl => match us, hl with | [_, _], _ => rfl) (ok_isPoint F_is_point o_is_count z_isinstance z_list z_len z_all)
  have o_require_many := Ok.mk' (P := P) (w := w) (base := base) F_require_many g_require_many (fun _ _ _ _ _ _ us hl => match us, hl with | [_], _ => rfl) (ok_reqMany F_require_many o_is_count_below h_MOST_UNKNOWNS)
  have o_require_form := Ok.mk' (P := P) (w := w) (base := base) F_require_form g_require_form (fun _ _ _ _ _ _ us hl => match us, hl with | [_], _ => rfl) (ok_reqForm F_require_form o_has_form z_any z_range h_MOST_UNKNOWNS)
  have o_require_forms := Ok.mk' (P := P) (w := w) (base := base) F_require_forms g_require_forms (fun _ _ _ _ _ _ us hl => match us, hl with | [_, _, _], _ => rfl) (ok_reqForms F_require_forms o_has_form z_isinstance z_list z_len z_all)
  have o_is_form := Ok.mk' (P := P) (w := w) (base := base) F_is_form g_is_form (fun _ _ _ _ _ _ us hl => match us, hl with | [_, _], _ => rfl) (ok_isForm F_is_form o_require_many o_has_form)
  have o_value := Ok.mk' (P := P) (w := w) (base := base) F_value g_value (fun _ _ _ _ _ _ us hl => match us, hl with | [_, _], _ => rfl) (ok_val F_value o_require_form o_is_point o_form_value z_len)
  have o_inserted := Ok.mk' (P := P) (w := w) (base := base) F_inserted g_inserted (fun _ _ _ _ _ _ us hl => match us, hl with | [_, _, _], _ => rfl) (ok_ins F_inserted o_require_form o_require_many o_require_forms o_form_with z_len)
  have k_is_form := OkK.mk' (P := P) (w := w) (base := base) F_is_form g_is_form (fun _ _ _ _ _ _ us hl => match us, hl with | [_, _], _ => rfl) (ok_isForm F_is_form o_require_many o_has_form)
  have k_value := OkK.mk' (P := P) (w := w) (base := base) F_value g_value (fun _ _ _ _ _ _ us hl => match us, hl with | [_, _], _ => rfl) (ok_val F_value o_require_form o_is_point o_form_value z_len)
  have k_inserted := OkK.mk' (P := P) (w := w) (base := base) F_inserted g_inserted (fun _ _ _ _ _ _ us hl => match us, hl with | [_, _, _], _ => rfl) (ok_ins F_inserted o_require_form o_require_many o_require_forms o_form_with z_len)
  have x_require_many := OkX.mk' (P := P) (w := w) (base := base) F_require_many g_require_many (fun _ _ _ _ _ _ us hl => match us, hl with | [_], _ => rfl) (okx_reqMany F_require_many Z o_is_count_below h_MOST_UNKNOWNS)
  have x_require_form := OkX.mk' (P := P) (w := w) (base := base) F_require_form g_require_form (fun _ _ _ _ _ _ us hl => match us, hl with | [_], _ => rfl) (okx_reqForm F_require_form Z o_has_form z_any z_range h_MOST_UNKNOWNS)
  have x_require_forms := OkX.mk' (P := P) (w := w) (base := base) F_require_forms g_require_forms (fun _ _ _ _ _ _ us hl => match us, hl with | [_, _, _], _ => rfl) (okx_reqForms F_require_forms Z o_has_form z_isinstance z_list z_len z_all)
  have x_is_form := OkX.mk' (P := P) (w := w) (base := base) F_is_form g_is_form (fun _ _ _ _ _ _ us hl => match us, hl with | [_, _], _ => rfl) (okx_isForm F_is_form x_require_many o_has_form)
  have x_value := OkX.mk' (P := P) (w := w) (base := base) F_value g_value (fun _ _ _ _ _ _ us hl => match us, hl with | [_, _], _ => rfl) (okx_val F_value Z x_require_form o_is_point o_form_value z_len)
  have x_inserted := OkX.mk' (P := P) (w := w) (base := base) F_inserted g_inserted (fun _ _ _ _ _ _ us hl => match us, hl with | [_, _, _], _ => rfl) (okx_ins F_inserted x_require_form x_require_many x_require_forms o_form_with z_len)
  have o__law_caught := OkG.mk' (P := P) (w := w) (base := base) F__law_caught g__law_caught (fun _ _ _ _ _ _ us hl => match us, hl with | [_, _], _ => rfl) (ok_caught F__law_caught Z x_is_form x_value x_inserted z_isinstance z_repr)
  have o__law_only := OkG.mk' (P := P) (w := w) (base := base) F__law_only g__law_only (fun _ _ _ _ _ _ us hl => match us, hl with | [_, _], _ => rfl) (ok_only F__law_only z_range z_repr)
  have o__law_refused := OkG.mk' (P := P) (w := w) (base := base) F__law_refused g__law_refused (fun _ _ _ _ _ _ us hl => match us, hl with | [], _ => rfl) (ok_refused F__law_refused o__law_caught o__law_only)
  have o__law_good := Ok.mk' (P := P) (w := w) (base := base) F__law_good g__law_good (fun _ _ _ _ _ _ us hl => match us, hl with | [_], _ => rfl) (ok_good F__law_good o__law_random o__law_form o__law_value o_inserted k_inserted o_is_form k_is_form o_value k_value z_range z_list z_tuple z_isinstance z_len z_sum)
  exact ok_law F_law o__law_generator o__law_good o_inserted o_value o__law_refused z_range
end
end K1
set_option Elab.async false
set_option linter.all false
set_option maxRecDepth 100000
set_option maxHeartbeats 0
namespace K1
open PySem PySem.Spec PyProof.Rows L2 XV
abbrev R : PySem.W.OpenRow := PySem.W.OpenLaw.row PySem.Challenge.rw_openloops_k01_forms_at_points
abbrev qv : Program := PySem.W.view R.prog [36]
def names : List PySem.Str := (["LoopError", "InvalidNumber", "InvalidForm", "InvalidPoint", "InvalidList", "MOST_UNKNOWNS", "is_whole", "is_count", "is_count_below", "require_many", "is_point", "is_form", "value", "inserted", "has_form"] : List PySem.Str) ++ (["require_form", "require_forms", "form_value", "form_with", "form_times", "sum_of_forms", "plain_form", "_law_hash", "_law_generator", "_law_random", "_law_number", "_law_form", "_law_value", "_law_good", "_law_caught", "_law_only", "_law_refused"] : List PySem.Str)
noncomputable abbrev endR (w : World) (os : OsState) : Option PySem.W.SharedT := HandSHeadRun.endF (HandSHeadRun.stepQ (HandSHeadRun.denQ HandSHeadRun.tabQ) R.prog w) 12000 R.prog w os
end K1
set_option Elab.async false
set_option linter.all false
set_option maxRecDepth 100000
set_option maxHeartbeats 0
namespace K1
open PySem PySem.Spec PyProof.Rows L2 XV
def obsK (K : PySem.W.Frag) : He.AlD × Bool := (He.obsD fa fn K, bx K)
abbrev hk : PySem.W.Hook := hookF (He.AlD × Bool) obsK (He.valD fn, true)
def ob (s : PySem.W.SharedT) : He.AlD × Bool := obF obsK s
theorem ob_eq (s : PySem.W.SharedT) : ob s = hk.obs s.abs := obF_eq (val := (He.valD fn, true)) s
theorem run (w : World) : HandSHeadRun.RunEq R qv hk ob 12000 names w := by
  intro os
  kernel_rfl
end K1
set_option Elab.async false
set_option linter.all false
set_option maxRecDepth 100000
set_option maxHeartbeats 0
open PySem PySem.W PySem.Calls PyProof.Rows
theorem PySem.Challenge.cw_openloops_k01_forms_at_points_holds : PySem.Challenge.rw_openloops_k01_forms_at_points.Holds := by
  w_on; o_law
  refine HandSHeadRun.head_any (r := OpenLaw.row PySem.Challenge.rw_openloops_k01_forms_at_points) (q := view (OpenLaw.row PySem.Challenge.rw_openloops_k01_forms_at_points).prog [36]) (H := K1.hk) (ob := K1.ob) (M := 12000) (loose := K1.names)
    (d := HandSHeadRun.topDef (OpenLaw.row PySem.Challenge.rw_openloops_k01_forms_at_points).prog 36) (kwd := []) K1.ob_eq
    (by kernel_rfl) (fun s => by kernel_rfl) K1.run (by kernel_rfl) (by kernel_rfl) (by kernel_rfl) (by rfl) (by first | assumption | decide +kernel) (by decide +kernel) ⟨rfl, rfl, rfl, rfl, rfl, by decide +kernel⟩ ?hw ?hc
  case hw => w_witness2
  case hc =>
    refine XV.walk_ofG (l := PySem.Challenge.rw_openloops_k01_forms_at_points) (n := 63) (k := 8) (x := "_law_script") rfl (by decide) (by kernel_rfl) ⟨rfl, by decide, by decide⟩ ?F
    intro w mg fa h Y G hmg0
    obtain ⟨K, KX, cb⟩ := Y
    have c : He.SaysD K1.fa K1.fn K := congrArg Prod.fst cb
    have b : K1.bx K = true := congrArg Prod.snd cb
    have hmg : mg ("law" : PySem.Str) = some (.ref fa) := by
      have e : (HandSHeadRun.topDef (OpenLaw.row PySem.Challenge.rw_openloops_k01_forms_at_points).prog 36).name = ("law" : PySem.Str) := by kernel_rfl
      rw [← e]
      exact hmg0
    obtain ⟨fd, hb, hF⟩ := K1.facts (P := (PySem.Challenge.rw_openloops_k01_forms_at_points).prog) (w := w) KX G hmg c b
    exact ⟨K, fd, K1.spLaw K, KX, hb, fun H a ns hl _ hS => ⟨a, ns, rfl, hS, hl, fun _ => rfl⟩, hF⟩
