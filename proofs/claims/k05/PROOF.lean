import PyProof.Rows.All
import Wide.All
import OpenK.AllK
import Wide.FinOn
import HandS.ForMost
import HandS.Exc
import HandS.ExcInit
import HandS.ExcIs
import HandS.ExcField
import HandS.ExcOwn
import HandS.Defaults
import HandS.HeadHook2
import HandS.ExcValue
import HandS.Wide
import HandS.WideBits
import HandS.Style
import HandS.IsInst
import PySem.Challenge.RW_openloops_k05_whole_texts_put_together
import PyProof.StrLawsIn
import PyProof.StrBlock2
import PyProof.Rows.StrNews2
import KE.DataAny
import HandS.StrMore
import HandS.Zip
import KE.GoesZip
import KE.GoesMore
import KE.GoesEnum
import HandS.Comp
import HandS.Ends
import HandS.HeadEnd
import HandS.TryMany
import HandS.Deep
import PyProof.ReprRoads
import HandS.Gcd
import HandS.SlotsOwn
import HandS.Codes
import KE.KMathGC
import PyProof.NeKinds
import PyProof.EqKinds
import HandS.OwnEq
import HandS.TupAny
import PyProof.Rows.StrCountLaw
import HandS.DictComp
import HandS.Iter
import PyProof.EnumFor
import HandS.GenList
import HandS.SortKw
import KE.DataMinMax
import KE.KTupSum
import HandS.WordsExc
import HandS.Evl
import PyProof.P3Eq
import HandS.Head0
import HandS.Head1
import HandS.Head2
import HandS.HeadHook1
set_option Elab.async false
set_option linter.all false
set_option maxRecDepth 100000
set_option maxHeartbeats 2000000
/-! Own error classes whose instances are held as values: C(..) with any keywords, e.f, isinstance(e, C). -/
namespace XV
open PySem PySem.Spec PyProof.Rows L2 PySem.HandSPX

section
variable {prog : Program} {w : World} {A : Around} {E : Value → Shared → Prop} {R : Result → Shared → Prop}
variable {h : Heap} {g : Array GenState} {d : Drawn} {t : Nat} {os : OsState}
variable {nm q : Str} {C N : Addr} {bs bm bmB : List Value} {hdct : Bool} {sn : List Str} {sub : List Value} {ab : Bool} {col : Option Bool} {dd : Option Addr}
variable {k0 k1 k2 k3 k5 : Option Value} {B newId initId : String}

/-- the check ahead of __new__, whatever keywords there are -/
theorem chkNew {M : Model} (F : ExcBaseFacts B newId initId bmB) (hT : ∀ X : String, bm.contains (.type X) = bmB.contains (.type X))
    {rest : List Value} {kw : List (Str × Value)} {Q : Unit → Shared → Prop}
    (hC : h.get? C = some (excClassObj nm q C N bs bm hdct sn sub ab col dd k0 k1 k2 k3 k5 newId)) (hq : Q () ⟨h, g, d, t, os⟩) :
    wpAny M A (checkBuiltinCall newId ⟨.ref C :: rest, kw⟩) Q E ⟨h, g, d, t, os⟩ := by
  have cB : (Value.ref C :: bm).contains (.type B) = true := by
    rw [List.contains_cons, hT, F.hasB]
    exact Bool.or_true _
  have star := F.noStar
  simp only [checkBuiltinCall, F.newKind, F.newSplit, F.newRow]
  repeat (first
    | refine wpAny_loadPart_at hC ?_
    | (refine wpAny_isSubtype_exc hC ?_; rw [cB])
    | refine wpAny_staticBase_exc hC ?_
    | refine wpAny_madeBy_exc hC ?_
    | simp only [bne_self_eq_false, Bool.false_eq_true, if_false]
    | wp_step)
  exact hq

theorem runNew (F : ExcBaseFacts B newId initId bmB) (hT : ∀ X : String, bm.contains (.type X) = bmB.contains (.type X))
    {rest : List Value} {kw : List (Str × Value)}
    (hC : h.get? C = some (excClassObj nm q C N bs bm hdct sn sub ab col dd k0 k1 k2 k3 k5 newId))
    (hq : R (.ok (.ret (.ref (h.objs.size + 1)))) ⟨(h.push (PySem.W.kdv_tup rest)).push (excO C h.objs.size), g, d, t, os⟩) (hz : rest.length ≤ sizeLine) :
    codeAny (model prog w) A (.builtin newId ⟨.ref C :: rest, kw⟩) R ⟨h, g, d, t, os⟩ := by
  have ends := F.ends
  have cB : (Value.ref C :: bm).contains (.type B) = true := by
    rw [List.contains_cons, hT, F.hasB]
    exact Bool.or_true _
  have cA : (Value.ref C :: bm).contains (.type "AttributeError") = false := by
    rw [List.contains_cons, hT, F.noAttr] <;> rfl
  have cN : (Value.ref C :: bm).contains (.type "NameError") = false := by
    rw [List.contains_cons, hT, F.noName] <;> rfl
  refine codeAny_builtinAt F.entry ?_
  unfold Builtin.«BaseException.__new__»
  refine PySem.wpAt_bind ?_
  show PySem.wpAt _ _ _ (stack >>= _) _ _ _
  refine PySem.wpAt_bind (PySem.wpAt_stack fun p below => PySem.wpAt_of_wpAny ?_)
  wp_walk
  refine PySem.wpAt_of_wpAny ?_
  rw [F.owner]
  repeat (first
    | with_reducible refine wpAny_madeHere_exc F.canon hC ?_
    | with_reducible refine wpAny_loadPart_at hC ?_
    | (with_reducible refine wpAny_isSubtype_exc hC ?_; first | rw [cB] | rw [cA] | rw [cN])
    | wp_step)
  show R _ _
  rw [Heap.size_push]
  exact hq

theorem typeCall (F : ExcBaseFacts B newId initId bmB) (hT : ∀ X : String, bm.contains (.type X) = bmB.contains (.type X))
    {rest : List Value} {kw : List (Str × Value)} {fI : Addr} {Q : Fin → Shared → Prop}
    (hC : h.get? C = some (excClassObj nm q C N bs bm hdct sn sub ab col dd k0 k1 k2 k3 k5 newId))
    (hi : W.Looks (model prog w) h (typeLookup (.ref C) "__init__") (some (.ref fI)))
    (hb : ∀ self, W.Looks (model prog w) h (bindSpecial (.ref fI) self) (.ref fI, [self])) (hz : rest.length ≤ sizeLine)
    (hq : codeAny (model prog w) A (.call (.ref fI) ⟨.ref (h.objs.size + 1) :: rest, kw⟩)
      (fun r s' => match r with
        | .ok (.ret v) => v = .none ∧ Q (.done (.ret (.ref (h.objs.size + 1)))) s'
        | .ok _ => False
        | .error e => E e s')
      ⟨(h.push (W.kdv_tup rest)).push (excO C h.objs.size), g, d, t, os⟩) :
    wpAny (model prog w) A (Builtin.«type.__call__» ⟨.ref C :: rest, kw⟩) Q E ⟨h, g, d, t, os⟩ := by
  repeat (first
    | with_reducible refine wpAny_loadPart_at hC ?_
    | with_reducible refine wpAny_madeBy_exc hC ?_
    | wp_step)
  refine codeAny_call_builtin_code (Code.quiet_builtin _ F.quiet) (chkNew F hT hC ?_)
  refine runNew F hT hC ?_ hz
  show wpAny _ _ _ _ _ _
  have k : ∀ b o, h.get? b = some o → ((h.push (W.kdv_tup rest)).push (excO C h.objs.size)).get? b = some o :=
    fun b o e => Heap.get?_push_of_some _ (Heap.get?_push_of_some _ e)
  have hC1 := k _ _ hC
  have got : ((h.push (W.kdv_tup rest)).push (excO C h.objs.size)).get? (h.objs.size + 1) = some (excO C h.objs.size) := by heap_get
  have cC : (Value.ref C :: bm).contains (.ref C) = true := by simp
  have i1 := hi.keeps k
  have b1 := (hb (.ref (h.objs.size + 1))).keeps k
  unfold isInstance
  repeat (first
    | with_reducible refine wpAny_loadPart_at got ?_
    | (with_reducible refine wpAny_isSubtype_exc hC1 ?_; rw [cC])
    | wp_step)
  show wpAny _ _ (typeLookup (.ref C) _) _ _ _
  refine i1.at ?_
  refine wpAny_holding (wpAny_bind (b1.at ?_))
  refine wpAny_bind (wpAny_call (codeAny_mono hq fun r s' z => ?_))
  rcases r with e | (v | _ | _ | _) <;> first | exact z | exact z.elim | skip
  obtain ⟨rfl, z⟩ := z
  first
    | exact wpAny_pure (wpAny_pure z)
    | (wp_walk; exact z)

theorem chkCall {M : Model} {rest : List Value} {kw : List (Str × Value)} {Q : Unit → Shared → Prop}
    (hC : h.get? C = some (excClassObj nm q C N bs bm hdct sn sub ab col dd k0 k1 k2 k3 k5 newId)) (hq : Q () ⟨h, g, d, t, os⟩) :
    wpAny M A (checkBuiltinCall "type.__call__" ⟨.ref C :: rest, kw⟩) Q E ⟨h, g, d, t, os⟩ := by
  have f3 := tc_sub
  have ty : (⟨h, g, d, t, os⟩ : Shared).TypeIs (.ref C) "type" := ⟨_, hC, rfl⟩
  have args : argsOk "type.__call__" ⟨.ref C :: rest, kw⟩ := PySem.W.tc_args _ _ _
  unfold argsOk at args
  simp only [checkBuiltinCall, tc_kind, tc_split]
  repeat (any_goals (first
    | assumption
    | with_reducible refine wpAny_loadPart_at hC ?_
    | with_reducible refine wpAny_onRaise ?_
    | with_reducible refine wpAny_map ?_
    | rw [args]
    | wp_step))

/-- C(.., k = v, ..): an exception is made, then its class's own __init__ is called upon it -/
theorem callOwn (F : ExcBaseFacts B newId initId bmB) (hT : ∀ X : String, bm.contains (.type X) = bmB.contains (.type X))
    {rest : List Value} {kw : List (Str × Value)} {fI : Addr}
    (hC : h.get? C = some (excClassObj nm q C N bs bm hdct sn sub ab col dd k0 k1 k2 k3 k5 newId))
    (hi : W.Looks (model prog w) h (typeLookup (.ref C) "__init__") (some (.ref fI)))
    (hb : ∀ self, W.Looks (model prog w) h (bindSpecial (.ref fI) self) (.ref fI, [self])) (hz : rest.length ≤ sizeLine)
    (hq : codeAny (model prog w) (A.under (.builtin "type.__call__" ⟨.ref C :: rest, kw⟩)) (.call (.ref fI) ⟨.ref (h.objs.size + 1) :: rest, kw⟩)
      (W.InitBack (h.objs.size + 1) R) ⟨(h.push (W.kdv_tup rest)).push (excO C h.objs.size), g, d, t, os⟩) :
    codeAny (model prog w) A (.call (.ref C) ⟨rest, kw⟩) R ⟨h, g, d, t, os⟩ := by
  have f1 := tc_lookup
  have f2 := tc_bind (.ref C)
  have ty : (⟨h, g, d, t, os⟩ : Shared).TypeIs (.ref C) "type" := ⟨_, hC, rfl⟩
  refine codeAny_of_tree ?_
  show wpAny _ _ (callAny (.ref C) _) _ _ _
  repeat (any_goals (first
    | assumption
    | with_reducible refine wpAny_loadPart_at hC ?_
    | wp_step))
  refine ⟨rfl, ?_⟩
  refine codeAny_call_builtin_at (Code.quiet_builtin _ (by decide +kernel)) entry_typeCall (chkCall hC (typeCall F hT hC hi hb hz ?_))
  refine codeAny_mono hq fun r s' z => ?_
  rcases r with e | (v | _ | _ | _) <;> exact z
end
end XV
set_option Elab.async false
set_option linter.all false
set_option maxRecDepth 100000
set_option maxHeartbeats 2000000
namespace XV
open PySem PySem.Spec PyProof.Rows L2

theorem upd_mid {H : Hp} {a d : Addr} {o p q : HO} : upd (upd (upd H a o) d p) a q = upd (upd H d p) a q := by
  funext b
  by_cases e : b = a
  · subst e
    rw [upd_same, upd_same]
  · rw [upd_ne e, upd_ne e]
    by_cases f : b = d
    · subst f
      rw [upd_same, upd_same]
    · rw [upd_ne f, upd_ne f, upd_ne e]

/-- what __init__ of an error with the one field fld does -/
def spI (C : Addr) (fld : Str) : Sp := fun vs H Q _ => ∃ (a : Addr) (v : V), vs = [.ref a, v] ∧ H a = some (exo a C none) ∧
  ∀ d, H d = none → d ≠ a → Q .non (upd (upd H d (exd d [(fld, v)])) a (exo a C (some d)))

/-- what is known of such a class and its __init__ -/
structure XCls (P : Program) (w : World) (K : PySem.W.Frag) (mg : Str → Option Value) (base : Heap) (nm fld : Str) (C fI : Addr) (fd : FuncData) : Prop where
  g : mg nm = some (.ref C)
  ox : OexC K C
  iC : PySem.W.findIn K (.ref C) "__init__" = some (some (.ref fI))
  tI : PySem.W.typeIn K (.ref fI) = some (.type "function")
  no : PySem.W.findIn K (.ref C) fld = some none
  ini : FnOk P w K mg base CX0 1 fI fd ["self", fld] (spI C fld)
  b1 : ∀ (s : Shared) (x u : Value), K.In s.heap → BindsTo s fd ⟨[x, u], []⟩ [("self", x), (fld, u)]
  b0 : ∀ (s : Shared) (x : Value), K.In s.heap → BindsTo s fd ⟨[x], []⟩ [("self", x), (fld, .none)]
  bk : ∀ (s : Shared) (x u : Value), K.In s.heap → BindsTo s fd ⟨[x], [(fld, u)]⟩ [("self", x), (fld, u)]

/-- C(v): a new exception at a, its dict at d -/
structure rMk (C : Addr) (fld : Str) (v : V) (H : Hp) (Q : VK) : Prop where
  go : ∀ a d, H a = none → H d = none → d ≠ a → Q (.ref a) (upd (upd H d (exd d [(fld, v)])) a (exo a C (some d)))

section
variable {X : Cx} {pins : List (Addr × Obj)} {σ : L2.St} {H : Hp} {s : Shared} {Q : VK} {nm fld : Str} {C fI : Addr} {fd : FuncData} {v : V} {u : Value}
theorem mk_run (T : XCls X.prog X.w X.K X.mg X.base nm fld C fI fd) (hr : Room 2 X.A) (I : Inv X pins σ H s) {us : List Value} {kw : List (Str × Value)} (hu : us.length ≤ 1)
    (hb : ∀ (s' : Shared) (x : Value), X.K.In s'.heap → BindsTo s' fd ⟨x :: us, kw⟩ [("self", x), (fld, u)]) (rv : RelV v u) (q : rMk C fld v H Q) :
    wpAny (model X.prog X.w) X.A (call (.ref C) us kw) (EP X pins σ Q) X.xe s := by
  obtain ⟨n0, q0, N, bs, bm, sn, sub, ab, col, dd, k0, k1, k2, k3, k5, hC, hbm⟩ := T.ox.cls
  obtain ⟨hp, g, dr, tk, os⟩ := s
  have le1 : hp.objs.size ≤ hp.objs.size + 1 := Nat.le_succ _
  have fr : H (hp.objs.size + 1) = none := I.hok.fresh le1
  have kk : ∀ b o, hp.get? b = some o → ((hp.push (PySem.W.kdv_tup us)).push (PySem.HandSPX.excO C hp.objs.size)).get? b = some o :=
    fun b o e => Heap.get?_push_of_some _ (Heap.get?_push_of_some _ e)
  have got : ((hp.push (PySem.W.kdv_tup us)).push (PySem.HandSPX.excO C hp.objs.size)).get? (hp.objs.size + 1) = some (PySem.HandSPX.excO C hp.objs.size) := by heap_get
  have I2 := I.laid (t' := tk) (a := hp.objs.size + 1) (o := exo (hp.objs.size + 1) C none) (h' := (hp.push (PySem.W.kdv_tup us)).push (PySem.HandSPX.excO C hp.objs.size)) kk le1 (exo_ok got)
  have hz : us.length ≤ sizeLine := by
    rw [sizeLine_eq]
    omega
  have sp : spI C fld [.ref (hp.objs.size + 1), v] (upd H (hp.objs.size + 1) (exo (hp.objs.size + 1) C none)) (fun z H2 => z = .non ∧ Q (.ref (hp.objs.size + 1)) H2) E0 := by
    refine ⟨_, v, rfl, upd_same, fun d nd ne => ⟨rfl, ?_⟩⟩
    rw [upd_mid]
    rw [upd_ne ne] at nd
    exact q.go _ d fr nd ne
  refine wpAny_call (callOwn PySem.F.excBase_ValueError (fun Y => PySem.HandSPX.refsVE_contains Y bm hbm) (I.kIn _ _ hC) (PySem.W.looks_findIn I.kIn T.iC)
    (fun self => PySem.W.bind_fn I.kIn self T.tI) hz
    (codeAny_mono (T.ini.run _ X.stack _ _ ⟨Value.ref (hp.objs.size + 1) :: us, kw⟩ [Value.ref (hp.objs.size + 1), u] [.ref (hp.objs.size + 1), v] _ E0
      (hr.make C us kw) (I2.env0.make C us kw) (hb _ _ I2.kIn) (.cons rfl (.cons rv .nil)) sp) fun r s' z => ?_))
  cases r with
  | error e => exact False.elim z
  | ok fl =>
    cases fl with
    | ret r0 =>
      obtain ⟨z0, H', J, rz, ez, qz⟩ := I2.after z
      subst ez
      exact ⟨rz, ⟨V.ref (hp.objs.size + 1), H', J, rfl, qz⟩⟩
    | next => exact False.elim z
    | brk => exact False.elim z
    | cont => exact False.elim z
end

/-- of a list with one value -/
def oneOf (q : V → Hp → Prop) : List V → Hp → Prop
  | [v], H => q v H
  | _, _ => False
theorem oneOf.elim {q : V → Hp → Prop} : ∀ {vs : List V} {H : Hp}, oneOf q vs H → ∃ v, vs = [v] ∧ q v H
  | [v], _, h => ⟨v, rfl, h⟩
  | [], _, h => h.elim
  | _ :: _ :: _, _, h => h.elim
section
variable {X : Cx} {nm fld : Str} {C fI : Addr} {fd : FuncData} {e : Expr} {te : TE} {p pos kpos : Pos}
/-- C(e) -/
theorem pe_mk1 (T : XCls X.prog X.w X.K X.mg X.base nm fld C fI fd) (hr : Room 2 X.A) (hg : Gl X nm) (he : PE X e te) (hdb : (nm == ("__debug__" : Str)) = false := by decide)
    (hs : starEach (e :: []) X.env = (false, eval e X.env) :: starEach [] X.env := by rfl) (hpl : (backTo pos (starEach [] X.env)).any (·.1) = false := by rfl) :
    PE X (.Call (.Name nm p) [e] [] pos) (fun σ H Q => te σ H fun v H1 => rMk C fld v H1 Q) := by
  refine ⟨fun pins s σ H Q I h => ?_⟩
  refine wpAny_Call_Name_kw (ld_glob I hg T.g ?_ hdb)
  have ha : PA X [e] (tCons te tNil) := pa_cons he pa_nil hs
  refine PySem.W.callWith_K (h₀ := X.base) I.ok.mod.kin T.ox.kC (thn (ha.run pos pins s σ H (oneOf fun v H1 => rMk C fld v H1 Q) I h) fun us s1 z => ?_) hs hpl
  obtain ⟨vs, H1, I1, r, q⟩ := z
  obtain ⟨v, ev, q⟩ := oneOf.elim q
  subst ev
  cases r with
  | cons rv rn =>
    cases rn
    exact ⟨I1.kIn, mk_run T hr I1 (by simp) (fun s' x X' => T.b1 s' x _ X') rv q⟩
/-- C() -/
theorem pe_mk0 (T : XCls X.prog X.w X.K X.mg X.base nm fld C fI fd) (hr : Room 2 X.A) (hg : Gl X nm) (hdb : (nm == ("__debug__" : Str)) = false := by decide) :
    PE X (.Call (.Name nm p) [] [] pos) (fun σ H Q => rMk C fld .non H Q) := by
  refine ⟨fun pins s σ H Q I h => ?_⟩
  refine wpAny_Call_Name_kw (ld_glob I hg T.g ?_ hdb)
  exact PySem.W.callWith_K0 I.kIn T.ox.kC (mk_run (us := []) T hr I (by simp) (fun s' x X' => T.b0 s' x X') (v := .non) rfl h)
/-- C(fld = e) -/
theorem pe_mkK (T : XCls X.prog X.w X.K X.mg X.base nm fld C fI fd) (hr : Room 2 X.A) (hg : Gl X nm) (he : PE X e te) (hdb : (nm == ("__debug__" : Str)) = false := by decide)
    (hall : (backToKw pos (keywordEach [⟨some fld, e, kpos⟩] X.env)).all (·.1.isSome) = true := by rfl) (hks : (backToKw pos (keywordEach [⟨some fld, e, kpos⟩] X.env)).filterMap (·.1) = [fld] := by rfl)
    (hpl : ((backTo pos (starEach [] X.env)).any (·.1) || (backToKw pos (keywordEach [⟨some fld, e, kpos⟩] X.env)).any (·.1.isNone)) = false := by rfl) :
    PE X (.Call (.Name nm p) [] [⟨some fld, e, kpos⟩] pos) (fun σ H Q => te σ H fun v H1 => rMk C fld v H1 Q) := by
  refine ⟨fun pins s σ H Q I h => ?_⟩
  refine wpAny_Call_Name_kw (ld_glob I hg T.g ?_ hdb)
  have hk : PK X [⟨some fld, e, kpos⟩] (tCons te tNil) := pk_cons he pk_nil
  refine PySem.W.callWith_KW0 (h₀ := X.base) I.ok.mod.kin T.ox.kC hall (thn (hk.run pos pins s σ H (oneOf fun v H1 => rMk C fld v H1 Q) I h) fun us s1 z => ?_) hpl
  obtain ⟨vs, H1, I1, r, q⟩ := z
  obtain ⟨v, ev, q⟩ := oneOf.elim q
  subst ev
  cases r with
  | cons rv rn =>
    cases rn
    refine ⟨I1.kIn, ?_⟩
    rw [hks]
    exact mk_run (us := []) T hr I1 (by simp) (fun s' x X' => T.bk s' x _ X') rv q
end
end XV
set_option Elab.async false
set_option linter.all false
set_option maxRecDepth 100000
set_option maxHeartbeats 4000000
namespace XV
open PySem PySem.Spec PyProof.Rows L2

/-! ### e.f -/
/-- x is an error of the class at C with the fields fs -/
def Err (H : Hp) (x : V) (C : Addr) (fs : List (Str × V)) : Prop := ∃ a d, x = .ref a ∧ H a = some (exo a C (some d)) ∧ H d = some (exd d fs)
/-- the facts that a read of the field n wants -/
structure XF (K : PySem.W.Frag) (C : Addr) (n : Str) : Prop where
  xf : XfC K C
  no : PySem.W.findIn K (.ref C) n = some none
section
variable {X : Cx}
theorem pe_xget {e : Expr} {te : TE} {pos : Pos} {n : Str} (he : PE X e te) (hb : attributeBase e n X.env (eval e X.env) = eval e X.env := by rfl) :
    PE X (.Attribute e n pos) (fun σ H Q => te σ H fun x H1 => ∃ C fs v, Err H1 x C fs ∧ XF X.K C n ∧ fs.lookup n = some v ∧ Q v H1) := by
  refine ⟨fun pins s σ H Q I h => ?_⟩
  refine attr_of hb (thn (he.run pins s σ H _ I h) fun u s1 hh => ?_)
  obtain ⟨x, H1, I1, rx, C, fs, v, ⟨a, d, ex, ea, ed⟩, T, l, q⟩ := hh
  subst ex
  obtain rfl : u = Value.ref a := rx
  obtain ⟨t1, ho⟩ := exo_at I1.hok ea
  obtain ⟨mA, hns, hrel⟩ := exd_at I1.hok ed
  obtain ⟨od, hod, hl⟩ := lookIn_ns hns
  obtain ⟨w1, hw, rw1⟩ := RelO.some_of (v := v) (o := mA n) (by rw [← l]; exact hrel n)
  have J : PySem.W.InstAt s1.heap a _ C (some od) := ⟨ho, rfl, rfl, hod⟩
  exact HandSPX.exc_get I1.kIn J T.xf.ga T.xf.gg T.xf.exC (PySem.W.findObj_own T.xf.hdC T.no rfl (by rw [hl, hw])) (handed_of rw1) ⟨v, H1, I1.tok _, rw1, q⟩
end
end XV

/-! ### isinstance of an error, with its dict or without -/
namespace XV
open PySem PySem.W PySem.Calls PyProof.Rows L2
theorem find_cls {K : Frag} {D : Addr} {od : Option Obj} (E : ExcC K D) : findObj K D od "__class__" = some (.bind (.builtin "getset_descriptor.__get__") (.builtin "object.__class__")) := by
  have hc : (clsIn K D).isSome = true := by
    obtain ⟨cd, hc, _⟩ := any_some E.hd
    rw [hc]
    rfl
  cases od with
  | none => exact findObj_dataN hc E.ha E.hn E.ht
  | some o => exact findObj_data hc E.ha E.hn E.ht
theorem getCls {prog : Program} {w : World} {A : Around} {E : Value → Shared → Prop} {s : Shared} {K : Frag} {x D : Addr} {ox : Obj} {od : Option Obj} {Q : Option Value → Shared → Prop}
    (C : ExcC K D) (X : K.In s.heap) (I : InstAt s.heap x ox D od) (q : Q (some (.ref D)) { s with toks := s.toks + 1 }) : wpAny (model prog w) A (getAttr? (.ref x) "__class__") Q E s := by
  have fnd := find_cls (od := od) C
  obtain ⟨hp, g, d, t, os⟩ := s
  have tyx := I.type (M := model prog w)
  have look1 := looks_findIn (M := model prog w) X C.hg
  have look2 := looks_findIn (M := model prog w) X C.hk
  have look3 := looks_find (M := model prog w) X I fnd
  have isB : Looks (model prog w) hp (isInstance (.ref x) (.type "BaseException")) true := tyx.andThen (looks_subIn X C.hs)
  have n0 : (false && onTheHeap (Value.builtin "BaseException.__getattribute__")) = false := rfl
  have n2 : (Value.builtin "BaseException.__getattribute__" == Value.builtin "object.__getattribute__") = false := by decide +kernel
  have n1 : (onTheHeap (Value.ref D) && Value.builtin "BaseException.__getattribute__" == Value.builtin "object.__getattribute__") = false := by
    rw [n2]
    rfl
  unfold getAttr? getAttrBy? getAttrBy
  refine wpAny_bind (wpAny_mkText (wpAny_bind (wpAny_attempt (wpAny_holding (wpAny_bind (tyx.at (wpAny_bind (look1.at ?_))))))))
  show wpAny _ _ (if (onTheHeap (Value.ref D) && Value.builtin "BaseException.__getattribute__" == Value.builtin "object.__getattribute__") = true then _ else _) _ _ _
  rw [n1, if_neg Bool.false_ne_true]
  unfold getAttrByItsOwn hookBefore
  refine wpAny_bind ?_
  rw [if_pos (show onTheHeap (Value.ref D) = true from rfl)]
  refine look2.at ?_
  refine wpAny_bind (wpAny_attempt (wpAny_holding ?_))
  unfold callGetattribute
  rw [n0, if_neg Bool.false_ne_true]
  unfold boundAndCalled
  rw [PySem.F.excAttr_ValueError.ga.bind (.ref x)]
  refine wpAny_bind (wpAny_pure ?_)
  show wpAny _ _ (call (.builtin "BaseException.__getattribute__") [.ref x, .str "__class__" t]) _ _ _
  refine wpAny_call (codeAny_call_builtin PySem.F.excAttr_ValueError.ga.plain PySem.F.entry_bexc_ga ?_)
  refine @check_slot (model prog w) _ _ ⟨hp, g, d, t + 1, os⟩ "BaseException.__getattribute__" "BaseException" "__getattribute__" (.ref x) [.str "__class__" t] [] _ (by decide +kernel) (by decide +kernel) isB (PySem.F.args_bexc_ga (.ref x) (.str "__class__" t)) ?_
  unfold Builtin.«object.__getattribute__»
  refine wpAny_bind (wpAny_of_eq (a := ((Value.ref x : Value), [Value.str "__class__" t])) (by first | rfl | (simp only [slotArgs]; rfl)) ?_)
  refine wpAny_bind (wpAny_pure (wpAny_bind (tyx.at (wpAny_bind (look3.at ?_)))))
  show wpAny _ _ (holding [Value.builtin "object.__class__"] (call (.builtin "getset_descriptor.__get__") [.builtin "object.__class__", .ref x, .ref D]) >>= ret) _ _ _
  refine wpAny_bind (wpAny_holding (wpAny_call (class_get (s := ⟨hp, g, d, t + 1, os⟩) (ox := ox) (od := od) X I C.hm ?_)))
  refine wpAny_pure ?_
  show wpAny _ _ (handedOut (.ref D)) _ _ _
  rw [handedOut_of (v := .ref D) rfl]
  first
    | exact wpAny_pure (wpAny_pure q)
    | exact wpAny_pure q
    | exact wpAny_pure (wpAny_bind (wpAny_pure (wpAny_pure q)))
theorem kitErr {K : Frag} {x D : Addr} {ox : Obj} {od : Option Obj} (C : ExcC K D) : KitX K (.ref x) (.ref D) (fun h => InstAt h x ox D od) where
  ty := fun _ _ _ I => I.type
  it := fun _ _ X _ => by
    obtain ⟨cdD, hcD, _⟩ := any_some C.hd
    unfold clsIn at hcD
    split at hcD
    · rename_i c' d' cd' sl' ho
      intro A' Q' E' s' k q
      unfold isType loadHead
      exact wpAny_bind (wpAny_loadPart (k _ _ (X _ _ ho)) (wpAny_pure q))
    · cases hcD
  ne := fun h tp dd its n sl X htp => by
    obtain ⟨cdD, hcD, _⟩ := any_some C.hd
    refine Bool.eq_false_iff.mpr fun q => ?_
    have e : D = tp := Value.ref.inj (beq_iff_eq.mp q)
    subst e
    unfold clsIn at hcD
    split at hcD
    · rename_i c' d' cd' sl' ho
      have z := (X _ _ ho).symm.trans htp
      cases z
    · cases hcD
  ca := fun X I k => getCls C X I k
end XV

namespace XV
open PySem PySem.Spec PyProof.Rows L2
/-- x is an error of the class at C, whatever else is known of it -/
def IsE (H : Hp) (x : V) (C : Addr) : Prop := ∃ a, x = .ref a ∧ (H a = some (exo a C none) ∨ ∃ d fs, H a = some (exo a C (some d)) ∧ H d = some (exd d fs))
theorem Err.isE {H : Hp} {x : V} {C : Addr} {fs : List (Str × V)} (h : Err H x C fs) : IsE H x C := by
  obtain ⟨a, d, e, e1, e2⟩ := h
  exact ⟨a, e, .inr ⟨d, fs, e1, e2⟩⟩
def rIsX (K : PySem.W.Frag) : List V → Hp → VK → Prop := fun xs H Q => ∃ (x c : V) (D : Addr) (cv : Value) (b : Bool), xs = [x, c] ∧ IsE H x D ∧ ExcC K D ∧ (∀ u, RelV c u → u = cv) ∧ PySem.W.kitOne K (.ref D) cv = some b ∧ Q (.bl b) H
theorem call_isX {X : Cx} : CallR X (.builtin "isinstance") (rIsX X.K) := by
  intro pins s σ H xs us Q I r h
  obtain ⟨x, c, D, cv, b, rfl, ⟨a, ex, hx⟩, C, hcv, e, q⟩ := h
  subst ex
  cases r with
  | cons rx rr =>
    cases rr with
    | cons rt rr =>
      cases rr
      cases rx
      have ec := hcv _ rt
      subst ec
      rcases hx with hx | ⟨d, fs, hx, hd⟩
      · obtain ⟨t1, ho⟩ := exo_at I.hok hx
        have J : PySem.W.InstAt s.heap a _ D none := ⟨ho, rfl, rfl, trivial⟩
        exact PySem.W.kia_one (kitErr C) I.kIn J e (fun z => nomatch z) fun tk => ⟨.bl b, H, I.kept (t' := tk) fun _ _ z => z, rfl, q⟩
      · obtain ⟨t1, ho⟩ := exo_at I.hok hx
        obtain ⟨mA, hns, _⟩ := exd_at I.hok hd
        obtain ⟨od, hod, _⟩ := lookIn_ns hns
        have J : PySem.W.InstAt s.heap a _ D (some od) := ⟨ho, rfl, rfl, hod⟩
        exact PySem.W.kia_one (kitErr C) I.kIn J e (fun z => nomatch z) fun tk => ⟨.bl b, H, I.kept (t' := tk) fun _ _ z => z, rfl, q⟩
end XV
set_option Elab.async false
set_option linter.all false
set_option maxRecDepth 100000
set_option maxHeartbeats 4000000
namespace XV
open PySem PySem.Spec PyProof.Rows L2

/-! ### an error class without an __init__ of its own: C() -/
theorem pe_mkE {X : Cx} {nm : Str} {C : Addr} {bmB : List Value} {B newId initId : String} {p pos : Pos} (F : ExcBaseFacts B newId initId bmB) (q : PySem.W.excIn X.K C bmB newId = true) (gC : X.mg nm = some (.ref C))
    (kC : PySem.W.keepIn X.K (.ref C) = true) (hg : Gl X nm) (hdb : (nm == ("__debug__" : Str)) = false := by decide) :
    PE X (.Call (.Name nm p) [] [] pos) (fun σ H Q => ∀ a, H a = none → Q (.ref a) (upd H a (exo a C none))) := by
  refine ⟨fun pins s σ H Q I h => ?_⟩
  refine wpAny_Call_Name_kw (ld_glob I hg gC ?_ hdb)
  refine PySem.W.callWith_K0 I.kIn kC ?_
  obtain ⟨bm, N, n0, qn, bs, hdct, sn, sub, ab, col, dd, k0, k1, k2, k3, k5, mN, hC, hN, hni, T⟩ := exc_obj I.kIn q
  obtain ⟨hp, g, d, t, os⟩ := s
  refine wpAny_call_exc_subT F T hC hN hni (fun h' e hm => ?_) (by show 0 ≤ sizeLine; exact Nat.zero_le _)
  obtain ⟨t1, he, _, _⟩ := hm.there
  have hn : H e = none := I.hok.gone hm.new
  exact ⟨.ref e, _, I.laidN (t' := t) (a := e) (o := exo e C none) hm.keeps hm.new hn (exo_ok he), rfl, h e hn⟩

/-! ### facts by Bools -/
def clsB (K : PySem.W.Frag) (C : Addr) : Bool := match K.lookup C with
  | some ⟨.type "type", _, .cls cd, sl⟩ => (match cd.mro, sl.toList with
    | .ref C' :: bm, [_, _, _, _, some (.builtin n), _] => (C' == C && n == "ValueError.__new__") && (cd.hasDict && (!cd.hasDel && PySem.HandSPX.refsVE bm))
    | _, _ => false)
  | _ => false
theorem clsB_ok {K : PySem.W.Frag} {C : Addr} (h : clsB K C = true) :
    ∃ nm q N bs bm sn sub ab col dd k0 k1 k2 k3 k5, K.lookup C = some (excClassObj nm q C N bs bm true sn sub ab col dd k0 k1 k2 k3 k5 "ValueError.__new__") ∧ PySem.HandSPX.refsVE bm = true := by
  unfold clsB at h
  split at h
  · rename_i dd cd sl ho
    split at h
    · rename_i C' bm k0 k1 k2 k3 n k5 hm hs
      obtain ⟨h1, h2⟩ := He.ba h
      obtain ⟨h3, h4⟩ := He.ba h1
      obtain ⟨h5, h6⟩ := He.ba h2
      obtain ⟨h7, h8⟩ := He.ba h6
      obtain ⟨n1, bs, mro, ns, qn, hd, sn, sub, ab, col, del⟩ := cd
      dsimp only at hm h5 h7
      have e1 : C' = C := eq_of_beq h3
      have e2 : n = "ValueError.__new__" := eq_of_beq h4
      have e3 : del = false := by
        cases del with
        | false => rfl
        | true => cases h7
      subst e1 e2 e3 hm h5
      have e4 : sl = #[k0, k1, k2, k3, some (.builtin "ValueError.__new__"), k5] := by
        obtain ⟨l⟩ := sl
        simp only at hs
        rw [hs]
      subst e4
      exact ⟨n1, qn, ns, bs, bm, sn, sub, ab, col, dd, k0, k1, k2, k3, k5, ho, h8⟩
    · cases h
  · cases h
def oexB (K : PySem.W.Frag) (C : Addr) : Bool := clsB K C && (He.eqO (PySem.W.findIn K (.ref C) "__setattr__") (some (some (.builtin "object.__setattr__"))) &&
  (decide (PySem.W.subIn K (.ref C) (.type "BaseException") = some true) && (decide (PySem.W.typeIn K (.ref C) = some (.type "type")) && PySem.W.keepIn K (.ref C))))
theorem oexB_ok {K : PySem.W.Frag} {C : Addr} (h : oexB K C = true) : OexC K C := by
  obtain ⟨h1, h⟩ := He.ba h
  obtain ⟨h2, h⟩ := He.ba h
  obtain ⟨h3, h⟩ := He.ba h
  obtain ⟨h4, h5⟩ := He.ba h
  exact ⟨clsB_ok h1, He.eqO_ok h2, of_decide_eq_true h3, of_decide_eq_true h4, h5⟩
def excB (K : PySem.W.Frag) (D : Addr) : Bool := xfB K D && (He.eqO (PySem.W.findIn K (.ref D) "__class__") (some (some (.builtin "object.__class__"))) &&
  (He.eqO (PySem.W.specialIn K (.builtin "object.__class__") "__get__") (some (some (.builtin "getset_descriptor.__get__"))) &&
  (decide (PySem.W.takesIn K (.builtin "object.__class__") = some true) && decide (PySem.W.mroIn K D (.type "object") = some true))))
theorem excB_ok {K : PySem.W.Frag} {D : Addr} (h : excB K D = true) : ExcC K D := by
  obtain ⟨h1, h⟩ := He.ba h
  obtain ⟨h2, h⟩ := He.ba h
  obtain ⟨h3, h⟩ := He.ba h
  obtain ⟨h4, h5⟩ := He.ba h
  have x := xfB_ok h1
  exact ⟨x.ga, x.gg, x.exC, x.hdC, He.eqO_ok h2, He.eqO_ok h3, of_decide_eq_true h4, of_decide_eq_true h5⟩
/-- an error class nm whose own __init__ sets the field fld -/
def xclsB (K : PySem.W.Frag) (nm fld : Str) : Bool := He.eqO (PySem.W.nsIn K mainGlobals nm) (some (some (.ref (He.ga K nm)))) && (oexB K (He.ga K nm) &&
  (He.eqO (PySem.W.findIn K (.ref (He.ga K nm)) "__init__") (some (some (.ref (He.fAd K (nm, some "__init__"))))) &&
  (decide (PySem.W.typeIn K (.ref (He.fAd K (nm, some "__init__"))) = some (.type "function")) && (He.eqO (PySem.W.findIn K (.ref (He.ga K nm)) fld) (some none) && excB K (He.ga K nm)))))
/-- one without -/
def ecls0B (K : PySem.W.Frag) (nm : Str) : Bool := He.eqO (PySem.W.nsIn K mainGlobals nm) (some (some (.ref (He.ga K nm)))) && (PySem.W.excIn K (He.ga K nm) He.veBase "ValueError.__new__" && (PySem.W.keepIn K (.ref (He.ga K nm)) && excB K (He.ga K nm)))

/-! ### __init__(self, fld=None): self.fld = fld -/
def initA (fld : Str) (p1 p2 p3 : Pos) : Arguments :=
  { posonlyargs := [], args := [{ arg := "self", annotation := none, pos := p1 }, { arg := fld, annotation := none, pos := p2 }], vararg := none, kwonlyargs := [], kw_defaults := [], kwarg := none, defaults := [.Constant .none 0 p3] }
def initB (fld : Str) (q1 q2 q3 q4 : Pos) : List Stmt := [.Assign [.Attribute (.Name "self" q1) fld q2] (.Name fld q3) q4]
def initS (fld : Str) : Scope := { kind := .function, names := [(PySem.Str.ofString "self", .local), (fld, .local)], isGenerator := false, isCoroutine := false, more := [] }

section
variable {P : Program} {w : World} {K : PySem.W.Frag} {mg : Str → Option Value} {base h : Heap} {nm qual fld : Str} {p1 p2 p3 q1 q2 q3 q4 : Pos} {C fI : Addr} {fd : FuncData}
theorem ok_initV (F : FunD K "__init__" qual (initA "value" p1 p2 p3) (initB "value" q1 q2 q3 q4) (initS "value") [.non] [] fI fd) (O : OexC K C) (no : PySem.W.findIn K (.ref C) "value" = some none) :
    FnOk P w K mg base CX0 1 fI fd ["self", "value"] (spI C "value") := by
  refine F.ok (N := ["self", "value"]) ⟨rfl, rfl, rfl, by decide +kernel, rfl, by decide +kernel, by decide +kernel⟩ (fun vs H Q E h => ?_) (fun cdv A outer s H vs Q E hr h => ?_)
  · obtain ⟨a, v, rfl, _⟩ := h
    rfl
  · obtain ⟨a, v, rfl, ha, q⟩ := h
    exact ⟨_, pss_one (ps_ost (pv 0) (pv 1)), ⟨_, rfl, _, rfl, a, C, rfl, O, no, .inl ⟨ha, fun d n ne => q d n ne⟩⟩⟩
theorem ok_initP (F : FunD K "__init__" qual (initA "place" p1 p2 p3) (initB "place" q1 q2 q3 q4) (initS "place") [.non] [] fI fd) (O : OexC K C) (no : PySem.W.findIn K (.ref C) "place" = some none) :
    FnOk P w K mg base CX0 1 fI fd ["self", "place"] (spI C "place") := by
  refine F.ok (N := ["self", "place"]) ⟨rfl, rfl, rfl, by decide +kernel, rfl, by decide +kernel, by decide +kernel⟩ (fun vs H Q E h => ?_) (fun cdv A outer s H vs Q E hr h => ?_)
  · obtain ⟨a, v, rfl, _⟩ := h
    rfl
  · obtain ⟨a, v, rfl, ha, q⟩ := h
    exact ⟨_, pss_one (ps_ost (pv 0) (pv 1)), ⟨_, rfl, _, rfl, a, C, rfl, O, no, .inl ⟨ha, fun d n ne => q d n ne⟩⟩⟩
theorem bind_ini {args : Args} {binds : List Value → List (Str × Value)} (F : FunD K "__init__" qual (initA fld p1 p2 p3) (initB fld q1 q2 q3 q4) (initS fld) [.non] [] fI fd)
    (hb : ∀ (T : Addr) (kV doc pm : Value) (an : Option Addr) (cdv ct : Value), ∃ k, bindArgs (PySem.W.fnOf "__init__" qual (initA fld p1 p2 p3) (initB fld q1 q2 q3 q4) (initS fld) (.ref T) kV doc pm an cdv ct) args = seqItems? (.ref T) >>= k ∧ k (some #[Value.none]) = pure (binds [.none]))
    (s : Shared) (X : K.In s.heap) : BindsTo s fd args (binds [.none]) := by
  obtain ⟨oc, od, dV, kV, doc, pm, an, cdv, ct, osl, rfl, lk, hcd, hD, hK⟩ := F.ex
  rcases hD with ⟨e, _⟩ | ⟨_, T, o, its, m, rfl, lT, oT, rT⟩
  · cases e
  · cases rT with
    | cons r0 r1 =>
      cases r1
      cases r0
      obtain ⟨k, e1, e2⟩ := hb T kV doc pm an cdv ct
      refine BindsTo.of_looks fun M => ?_
      rw [e1]
      exact looks_items X lT oT (.of_pure e2)
theorem xcls_V (X : K.In h) (G : h.Ns mainGlobals mg) (c : xclsB K nm "value" = true) (F : FunD K "__init__" qual (initA "value" p1 p2 p3) (initB "value" q1 q2 q3 q4) (initS "value") [.non] [] (He.fAd K (nm, some "__init__")) fd) :
    XCls P w K mg base nm "value" (He.ga K nm) (He.fAd K (nm, some "__init__")) fd := by
  obtain ⟨c1, c⟩ := He.ba c
  obtain ⟨c2, c⟩ := He.ba c
  obtain ⟨c3, c⟩ := He.ba c
  obtain ⟨c4, c⟩ := He.ba c
  obtain ⟨c5, c6⟩ := He.ba c
  have O := oexB_ok c2
  have no := He.eqO_ok c5
  exact ⟨PySem.W.mg_of X G (He.eqO_ok c1), O, He.eqO_ok c3, of_decide_eq_true c4, no, ok_initV F O no,
    fun s x u Y => bind_ini (binds := fun _ => [("self", x), ("value", u)]) F (fun _ _ _ _ _ _ _ => ⟨_, rfl, rfl⟩) s Y,
    fun s x Y => bind_ini (binds := fun _ => [("self", x), ("value", .none)]) F (fun _ _ _ _ _ _ _ => ⟨_, rfl, rfl⟩) s Y,
    fun s x u Y => bind_ini (binds := fun _ => [("self", x), ("value", u)]) F (fun _ _ _ _ _ _ _ => ⟨_, rfl, rfl⟩) s Y⟩
theorem xcls_P (X : K.In h) (G : h.Ns mainGlobals mg) (c : xclsB K nm "place" = true) (F : FunD K "__init__" qual (initA "place" p1 p2 p3) (initB "place" q1 q2 q3 q4) (initS "place") [.non] [] (He.fAd K (nm, some "__init__")) fd) :
    XCls P w K mg base nm "place" (He.ga K nm) (He.fAd K (nm, some "__init__")) fd := by
  obtain ⟨c1, c⟩ := He.ba c
  obtain ⟨c2, c⟩ := He.ba c
  obtain ⟨c3, c⟩ := He.ba c
  obtain ⟨c4, c⟩ := He.ba c
  obtain ⟨c5, c6⟩ := He.ba c
  have O := oexB_ok c2
  have no := He.eqO_ok c5
  exact ⟨PySem.W.mg_of X G (He.eqO_ok c1), O, He.eqO_ok c3, of_decide_eq_true c4, no, ok_initP F O no,
    fun s x u Y => bind_ini (binds := fun _ => [("self", x), ("place", u)]) F (fun _ _ _ _ _ _ _ => ⟨_, rfl, rfl⟩) s Y,
    fun s x Y => bind_ini (binds := fun _ => [("self", x), ("place", .none)]) F (fun _ _ _ _ _ _ _ => ⟨_, rfl, rfl⟩) s Y,
    fun s x u Y => bind_ini (binds := fun _ => [("self", x), ("place", u)]) F (fun _ _ _ _ _ _ _ => ⟨_, rfl, rfl⟩) s Y⟩
theorem xcls_E (c : xclsB K nm fld = true) : ExcC K (He.ga K nm) ∧ XF K (He.ga K nm) fld := by
  obtain ⟨c1, c⟩ := He.ba c
  obtain ⟨c2, c⟩ := He.ba c
  obtain ⟨c3, c⟩ := He.ba c
  obtain ⟨c4, c⟩ := He.ba c
  obtain ⟨c5, c6⟩ := He.ba c
  exact ⟨excB_ok c6, ⟨xfB_ok (He.ba c6).1, He.eqO_ok c5⟩⟩
end
/-! ### a Hook with one Bool more -/
def hookB (n : Nat) (fa : List He.Fa) (fn : List He.DefD) (bx : PySem.W.Frag → Bool) : PySem.W.Hook where
  α := He.AlD × Bool
  obs := fun s => (He.obsDG n fa fn s.heap.get?, bx (He.frG s.heap.get? (He.asD s.heap.get? n)))
  val := fun _ => (He.valD fn, true)
  says := fun _ h => ∃ K : PySem.W.Frag, K.In h ∧ He.SaysD fa fn K ∧ bx K = true
  of := fun _ _ e => ⟨_, He.frG_in, congrArg Prod.fst e, congrArg Prod.snd e⟩
  keeps := fun _ _ _ ⟨K, hK, c⟩ k => ⟨K, PySem.W.Frag.In.keeps hK k, c⟩
def obsB (n : Nat) (fa : List He.Fa) (fn : List He.DefD) (bx : PySem.W.Frag → Bool) (g : Addr → Option Obj) : He.AlD × Bool := (He.obsDG n fa fn g, bx (He.frG g (He.asD g n)))
theorem obsB_eq {n : Nat} {fa : List He.Fa} {fn : List He.DefD} {bx : PySem.W.Frag → Bool} {g : Addr → Option Obj} {s : Shared} (h : ∀ a, g a = s.heap.get? a) : obsB n fa fn bx g = (hookB n fa fn bx).obs s := by
  have e : g = s.heap.get? := funext h
  rw [e] <;> rfl
end XV
set_option Elab.async false
set_option linter.all false
set_option maxRecDepth 100000
set_option maxHeartbeats 4000000
/-! Words of our own for calls of the text's defs, and the drawing of numbers. -/
namespace XV
open PySem PySem.Spec PyProof.Rows L2

/-- the module's name x is a def that keeps sp -/
structure Ok (P : Program) (w : World) (K : PySem.W.Frag) (mg : Str → Option Value) (base : Heap) (x : Str) (k : Nat) (ps : List Str) (sp : Sp) : Prop where
  ex : ∃ f fd, FnOk P w K mg base CX0 k f fd ps sp ∧ mg x = some (.ref f) ∧ PySem.W.keepIn K (.ref f) = true ∧ Binds K fd ps []
section
variable {X : Cx} {k : Nat} {ps : List Str} {sp : Sp} {x : Str} {e : Expr} {es : List Expr} {t : TA} {p pos : Pos}
theorem pe_callO (o : Ok X.prog X.w X.K X.mg X.base x k ps sp) (hr : Room k X.A) (hg : Gl X x) (ha : PA X (e :: es) t) (hdb : (x == ("__debug__" : Str)) = false := by decide)
    (he : starEach (e :: es) X.env = (false, eval e X.env) :: starEach es X.env := by rfl) (hpl : (backTo pos (starEach es X.env)).any (·.1) = false := by rfl) :
    PE X (.Call (.Name x p) (e :: es) [] pos) (tCall sp [] E0 t) := by
  obtain ⟨f, fd, F, hm, hk, b⟩ := o.ex
  exact pe_call F hr hg hm hk b .nil pass0 ha hdb he hpl
theorem pe_callO0 (o : Ok X.prog X.w X.K X.mg X.base x k ps sp) (hr : Room k X.A) (hg : Gl X x) (hdb : (x == ("__debug__" : Str)) = false := by decide) :
    PE X (.Call (.Name x p) [] [] pos) (tCall sp [] E0 tNil) := by
  obtain ⟨f, fd, F, hm, hk, b⟩ := o.ex
  exact pe_call0 F hr hg hm hk b .nil pass0 hdb
end
theorem Ok.mk' {P : Program} {w : World} {K : PySem.W.Frag} {mg : Str → Option Value} {base : Heap} {x : Str} {k : Nat} {ps : List Str} {sp : Sp} {body : List Stmt} {params : Arguments} {scope : Scope} {f : Addr} {fd : FuncData}
    (F : FunD K x x params body scope [] [] f fd) (g : mg x = some (.ref f)) (b : ∀ (kV doc pm : Value) (an : Option Addr) (cdv ct : Value) (us : List Value), us.length = ps.length → bindArgs (PySem.W.fnOf x x params body scope .none kV doc pm an cdv ct) ⟨us, []⟩ = pure (ps.zip us))
    (ok : FnOk P w K mg base CX0 k f fd ps sp) : Ok P w K mg base x k ps sp := ⟨f, fd, ok, g, F.kp, F.bindsN b⟩

/-- i ** j, the answer of at most 2 ^ 27 bits -/
def CPowW (i j : Int) : Prop := 0 ≤ j ∧ (Builtin.Int.intBits i : Int) * j ≤ 2 ^ 27
theorem op_powW {X : Cx} : OpR X (binaryOp .Pow) (rI CPowW fun i j => .int (i ^ j.toNat)) := opI fun _ _ _ _ _ _ _ hc q => pow_int hc.1 hc.2 q

/-! ### the list of three numbers from which is drawn -/
/-- at g: a list [a, b, c], a below 10 ** 600, b below 2 ** 31, c at most n -/
def Dr (H : Hp) (g : Addr) (n : Nat) : Prop := ∃ a b c : Int, H g = some (.lst [.int a, .int b, .int c]) ∧ 0 ≤ a ∧ a < 10 ^ 600 ∧ 0 ≤ b ∧ b < 2147483647 ∧ 0 ≤ c ∧ c ≤ n
theorem Dr.mono {H : Hp} {g : Addr} {n m : Nat} (h : Dr H g n) (l : n ≤ m) : Dr H g m := by
  obtain ⟨a, b, c, e, h1, h2, h3, h4, h5, h6⟩ := h
  exact ⟨a, b, c, e, h1, h2, h3, h4, h5, by omega⟩
/-- all but g as it was -/
def But (H H' : Hp) (g : Addr) : Prop := ∀ b o, b ≠ g → H b = some o → H' b = some o
theorem But.refl (H : Hp) (g : Addr) : But H H g := fun _ _ _ e => e
theorem But.trans {H H1 H2 : Hp} {g : Addr} (a : But H H1 g) (b : But H1 H2 g) : But H H2 g := fun c o n e => b c o n (a c o n e)
theorem But.upd {H : Hp} {g : Addr} {o : HO} : But H (upd H g o) g := fun b u n e => by
  rw [upd_ne n]
  exact e
theorem Same.but {H H' : Hp} {g : Addr} (a : Same H H') : But H H' g := fun b o _ e => a b o e
theorem same_new {H : Hp} {p : Addr} {o : HO} (h : H p = none) : Same H (L2.upd H p o) := fun b x e => by
  rw [upd_ne (ne_of_none e h)]
  exact e
def spHash : Sp := fun vs H Q _ => ∃ s i : Int, vs = [.int s, .int i] ∧ 0 ≤ s ∧ s < 2147483647 ∧ 0 ≤ i ∧ i < 2 ^ 60 ∧ ∀ r : Int, 0 ≤ r → r < 2147483647 → Q (.int r) H
def spRand : Sp := fun vs H Q _ => ∃ (g : Addr) (n : Nat) (m : Int), vs = [.ref g, .int m] ∧ Dr H g n ∧ n ≤ 1000000 ∧ 0 < m ∧ m < 10 ^ 100 ∧
  ∀ (H' : Hp) (r : Int), 0 ≤ r → r < m → But H H' g → Dr H' g (n + 20) → Q (.int r) H'
end XV
set_option Elab.async false
set_option linter.all false
set_option maxRecDepth 100000
set_option maxHeartbeats 4000000
namespace K5
open PySem PySem.Spec PyProof.Rows L2 XV
def top (i : Nat) : Stmt := PySem.Challenge.pw_openloops_k05_whole_texts_put_together.main.body.getD i (.Pass ⟨0, 0, 0, 0⟩)
abbrev sHash : Stmt := top 67
abbrev sGen : Stmt := top 68
abbrev sRand : Stmt := top 69
abbrev FnP (K : PySem.W.Frag) (x : Str) (st : Stmt) (f : Addr) (fd : FuncData) : Prop := FunD K x x (defArgs st) (defBody st) (defScope st) [] [] f fd
theorem scHash : FnScope ["_law_seed", "_law_index", "_law_mixed"] ["_law_seed", "_law_index"] (defScope sHash) := ⟨rfl, rfl, rfl, by decide +kernel, rfl, by decide +kernel, by decide +kernel⟩
theorem scGen : FnScope ["_law_script", "_law_index", "_law_seed"] ["_law_script", "_law_index"] (defScope sGen) := ⟨rfl, rfl, rfl, by decide +kernel, rfl, by decide +kernel, by decide +kernel⟩
theorem scRand : FnScope ["_law_generator_here", "_law_bound", "_law_drawn", "_law_turn"] ["_law_generator_here", "_law_bound"] (defScope sRand) := ⟨rfl, rfl, rfl, by decide +kernel, rfl, by decide +kernel, by decide +kernel⟩
theorem mod_in (x : Int) {m : Int} (h : 0 < m) : 0 ≤ x % m ∧ x % m < m := ⟨Int.emod_nonneg x (by omega), Int.emod_lt_of_pos x h⟩
section
variable {P : Program} {w : World} {K : PySem.W.Frag} {mg : Str → Option Value} {base : Heap} {f : Addr} {fd : FuncData}
theorem ok_hash (F : FnP K "_law_hash" sHash f fd) (z_int : mg "int" = none) : FnOk P w K mg base CX0 1 f fd ["_law_seed", "_law_index"] spHash := by
  have nd := scHash.nd
  refine F.ok scHash (fun vs H Q E h => ?_) (fun cdv A outer s H vs Q E hr h => ?_)
  · obtain ⟨s, i, rfl, _⟩ := h
    rfl
  · obtain ⟨s, i, rfl, s0, s1, i0, i1, q⟩ := h
    refine ⟨_, PSs.nox (pss_cons (ps_set (i := 2) nd rfl (Or.inl rfl) (pe_op op_mod (pe_callTy call_int1 (by rfl) z_int (by decide +kernel) (pa_cons (pe_op op_add (pe_op op_add (pe_op op_add (pe_op op_mul (pv 0) pe_int) (pe_op op_mul (pe_op op_mul pe_int (pv 1)) (pv 1))) (pe_op op_mul pe_int (pv 1))) pe_int) pa_nil)) pe_int))
 (pss_cons (ps_set (i := 2) nd rfl (Or.inl rfl) (pe_op op_mod (pe_callTy call_int1 (by rfl) z_int (by decide +kernel) (pa_cons (pe_op op_add (pe_op op_add (pe_op op_mul (pv 2) (pv 2)) (pe_op op_mul pe_int (pv 1))) pe_int) pa_nil)) pe_int))
 (pss_one (ps_ret (pe_op op_mod (pe_callTy call_int1 (by rfl) z_int (by decide +kernel) (pa_cons (pe_op op_mul (pv 2) pe_int) pa_nil)) pe_int))))), ?_⟩
    have c1 : CMul s 1299709 := .inl ⟨by omega, by omega⟩
    have c2 : CMul 104729 i := .inl ⟨by decide, by decide⟩
    have c3 : CMul (104729 * i) i := .inr ⟨by omega, by omega⟩
    have c4 : CMul 31 i := .inl ⟨by decide, by decide⟩
    refine ⟨_, rfl, _, _, rfl, rfl, c1, _, rfl, _, _, rfl, rfl, c2, _, rfl, _, _, rfl, rfl, c3, _, _, rfl, rfl, _, rfl, _, _, rfl, rfl, c4, _, _, rfl, rfl, _, _, rfl, rfl, .inl ⟨_, rfl, _, _, rfl, rfl, (by show (0 : Int) < 2147483629; decide), ?_⟩⟩
    obtain ⟨m0, m1⟩ := mod_in (s * 1299709 + 104729 * i * i + 31 * i + 7) (m := 2147483629) (by decide)
    have c5 : CMul ((s * 1299709 + 104729 * i * i + 31 * i + 7) % 2147483629) ((s * 1299709 + 104729 * i * i + 31 * i + 7) % 2147483629) := .inl ⟨by omega, by omega⟩
    refine ⟨_, rfl, _, rfl, _, _, rfl, rfl, c5, _, rfl, _, _, rfl, rfl, .inl ⟨by decide, by decide⟩, _, _, rfl, rfl, _, _, rfl, rfl, .inl ⟨_, rfl, _, _, rfl, rfl, (by show (0 : Int) < 2147483587; decide), ?_⟩⟩
    refine ⟨_, rfl, _, _, rfl, rfl, .inr ⟨by decide, by decide⟩, .inl ⟨_, rfl, _, _, rfl, rfl, (by show (0 : Int) < 2147483647; decide), ?_⟩⟩
    obtain ⟨n0, n1⟩ := mod_in ((((s * 1299709 + 104729 * i * i + 31 * i + 7) % 2147483629 * ((s * 1299709 + 104729 * i * i + 31 * i + 7) % 2147483629) + 48271 * i + 15485863) % 2147483587) * 69621) (m := 2147483647) (by decide)
    exact q _ n0 n1

theorem bits_small {m : Int} (h0 : 0 < m) (h1 : m < 10 ^ 100) : Builtin.Int.intBits m ≤ 340 := by
  refine intBits_le (k := 340) ?_
  have e : (10 : Int) ^ 100 < 2 ^ 340 := by decide
  have e2 : m < 2 ^ 340 := Int.lt_trans h1 e
  have e3 : ((m.natAbs : Nat) : Int) = m := Int.natAbs_of_nonneg (by omega)
  have e4 : ((m.natAbs : Nat) : Int) < ((2 ^ 340 : Nat) : Int) := by
    rw [e3]
    exact e2
  exact Int.ofNat_lt.mp e4
theorem ok_rand (F : FnP K "_law_random" sRand f fd) (oHash : Ok P w K mg base "_law_hash" 1 ["_law_seed", "_law_index"] spHash) (z_int : mg "int" = none) (z_range : mg "range" = none) :
    FnOk P w K mg base CX0 2 f fd ["_law_generator_here", "_law_bound"] spRand := by
  have nd := scRand.nd
  refine F.ok scRand (fun vs H Q E h => ?_) (fun cdv A outer s H vs Q E hr h => ?_)
  · obtain ⟨g, n, m, rfl, _⟩ := h
    rfl
  · obtain ⟨g, n, m, rfl, ⟨a, b, c, hg, a0, a1, b0, b1, c0, c1⟩, hn, m0, m1, q⟩ := h
    refine ⟨_, PSs.nox (pss_cons (ps_if (pt_cmpR op_gt (pe_ix ix_list (pv 0) pe_int (fun _ _ => rfl)) pe_int (nomark _))
        (pss_cons (ps_set (i := 2) nd rfl (Or.inl rfl) (pe_op op_mod (pe_callTy call_int1 (by rfl) z_int (by decide +kernel) (pa_cons (pe_ix ix_list (pv 0) pe_int (fun _ _ => rfl)) pa_nil)) (pv 1)))
          (pss_cons (ps_asg (pe_op op_fdivW (pe_ix ix_list (pv 0) pe_int (fun _ _ => rfl)) (pv 1)) (pg_sub (pv 0) pe_int set_list))
            (pss_one (ps_ret (pv 2))))) pss_nil)
      (pss_cons (ps_set (i := 2) nd rfl (Or.inl rfl) pe_int)
      (pss_cons (ps_for PassesOwn.never rfl (pi_range1 (by rfl) z_range (pa_cons (pe_op op_add pe_int (pe_op op_fdiv (pe_bits (pv 1)) pe_int)) pa_nil)) (pg_name (i := 3) nd rfl (Or.inl rfl))
        (pss_cons (ps_asg (pe_op op_add (pe_ix ix_list (pv 0) pe_int (fun _ _ => rfl)) pe_int) (pg_sub (pv 0) pe_int set_list))
          (pss_one (ps_set (i := 2) nd rfl (Or.inl rfl) (pe_op op_add (pe_op op_mul (pv 2) pe_int)
            (pe_callO oHash (hr.mono (by decide)) (by rfl) (pa_cons (pe_ix ix_list (pv 0) pe_int (fun _ _ => rfl)) (pa_cons (pe_ix ix_list (pv 0) pe_int (fun _ _ => rfl)) pa_nil))))))))
      (pss_one (ps_ret (pe_op op_mod (pe_callTy call_int1 (by rfl) z_int (by decide +kernel) (pa_cons (pv 2) pa_nil)) (pv 1))))))), ?_⟩
    refine ⟨.ref g, rfl, g, _, 0, _, rfl, rfl, SqL.of hg, rfl, _, _, rfl, rfl, _, rfl, ite2 (fun e => ?_) (fun e => ?_)⟩
    · have ap : 0 < a := of_decide_eq_true e
      refine ⟨.ref g, rfl, g, _, 0, _, rfl, rfl, SqL.of hg, rfl, .inl ⟨_, rfl, _, rfl, _, _, rfl, rfl, m0, ?_⟩⟩
      have e1 : (10 : Int) ^ 100 < 2 ^ 340 := by decide
      have mb : m.natAbs < 2 ^ 340 := by
        have e3 : ((m.natAbs : Nat) : Int) = m := Int.natAbs_of_nonneg (by omega)
        have e4 : ((m.natAbs : Nat) : Int) < ((2 ^ 340 : Nat) : Int) := by
          rw [e3]
          exact Int.lt_trans m1 e1
        exact Int.ofNat_lt.mp e4
      refine ⟨.ref g, rfl, g, _, 0, _, rfl, rfl, SqL.of hg, rfl, _, rfl, _, _, rfl, rfl, wide_div m0 mb (by decide) (by decide), .ref g, rfl, g, _, 0, 0, rfl, rfl, hg, rfl, _, rfl, ?_⟩
      obtain ⟨r0, r1⟩ := mod_in a m0
      refine q _ _ r0 r1 But.upd ⟨a / m, b, c, upd_same, Int.ediv_nonneg a0 (by omega), ?_, b0, b1, c0, by omega⟩
      exact Int.lt_of_le_of_lt (Int.ediv_le_self m a0) a1
    · have hb := bits_small m0 m1
      refine ⟨_, rfl, m, rfl, _, _, rfl, rfl, ⟨by decide, by decide⟩, _, _, rfl, rfl, _, rfl, by omega, by omega, ?_⟩
      refine for_range (lo := 0) (n := (1 + ((Builtin.Int.intBits m : Nat) : Int) / 30).toNat)
        (fun i σ H' => ∃ (d : Int) (y : Option V), σ = [some (.ref g), some (.int m), some (.int d), y] ∧ But H H' g ∧ H' g = some (.lst [.int a, .int b, .int (c + i)]))
        ⟨0, none, rfl, But.refl H g, by rw [hg]; simp⟩ ?_ ?_
      · rintro i σ H' hi ⟨d, y, rfl, bt, eg⟩
        refine ⟨.ref g, rfl, g, _, 2, _, rfl, rfl, SqL.of eg, rfl, _, _, rfl, rfl, .ref g, rfl, g, _, 2, 2, rfl, rfl, eg, rfl, ?_⟩
        have e2 : (upd H' g (.lst ([V.int a, .int b, .int (c + i)].set 2 (.int (c + i + 1))))) g = some (.lst [.int a, .int b, .int (c + i + 1)]) := upd_same
        refine ⟨_, rfl, _, _, rfl, rfl, .inr ⟨by decide, by decide⟩, .ref g, rfl, g, _, 1, _, rfl, rfl, SqL.of e2, rfl, .ref g, rfl, g, _, 2, _, rfl, rfl, SqL.of e2, rfl, ?_⟩
        refine ⟨b, c + i + 1, rfl, b0, b1, by omega, ?_, fun r r0 r1 => ?_⟩
        · have : i < 13 := by omega
          omega
        · refine ⟨_, _, rfl, rfl, _, _, rfl, bt.trans But.upd, ?_⟩
          have ec : c + ((i : Nat) : Int) + 1 = c + ((i + 1 : Nat) : Int) := by omega
          rw [e2, ec]
      · rintro σ H' ⟨d, y, rfl, bt, eg⟩
        refine ⟨_, rfl, .inl ⟨_, rfl, _, rfl, _, _, rfl, rfl, m0, ?_⟩⟩
        obtain ⟨r0, r1⟩ := mod_in d m0
        refine q _ _ r0 r1 bt ⟨a, b, _, eg, a0, a1, b0, b1, by omega, ?_⟩
        have : (1 + ((Builtin.Int.intBits m : Nat) : Int) / 30).toNat ≤ 13 := by omega
        omega

theorem cut_first (ns : List Int) : cutV (ns.map V.int) none (some 1) = (ns.take 1).map V.int := by
  unfold cutV
  rw [HT.sIx_none, show HT.sIx (ns.map V.int).length (ns.map V.int).length (some 1) = min 1 (ns.map V.int).length from HT.sIx_nat _ _ 1]
  cases ns with
  | nil => rfl
  | cons x r =>
    rw [List.map_cons, List.length_cons, show min 1 ((r.map V.int).length + 1) = 1 by omega]
    rfl
def spGen (K : PySem.W.Frag) : Sp := fun vs H Q _ => ∃ (a : Addr) (ns : List Int) (k : Nat), vs = [.ref a, .int k] ∧ SqL K H a (ns.map V.int) ∧ k < 100 ∧
  ∀ (H' : Hp) (g : Addr), Same H H' → H g = none → Dr H' g (1000 * k) → Q (.ref g) H'
theorem ok_gen (F : FnP K "_law_generator" sGen f fd) (z_int : mg "int" = none) (z_len : mg "len" = none) (z_sum : mg "sum" = none) (z_max : mg "max" = none) :
    FnOk P w K mg base CX0 1 f fd ["_law_script", "_law_index"] (spGen K) := by
  have nd := scGen.nd
  refine F.ok scGen (fun vs H Q E h => ?_) (fun cdv A outer s H vs Q E hr h => ?_)
  · obtain ⟨a, ns, k, rfl, _⟩ := h
    rfl
  · obtain ⟨a, ns, k, rfl, hS, hk, q⟩ := h
    refine ⟨_, PSs.nox (pss_cons (ps_set (i := 2) nd rfl (Or.inl rfl) (pe_ifExp (pt_cmpR op_lt (pv 1) (pe_callB call_len (by rfl) z_len boot_len (pa_cons (pv 0) pa_nil)) (nomark _)) (pe_ix ix_list (pv 0) (pv 1) (fun _ _ => rfl)) (pe_op op_mod (pe_callB (cr_sum rfl) (by rfl) z_sum (by decide +kernel) (pa_cons (pe_slice sl_list (pv 0) po_none (po_some pe_int)) pa_nil)) pe_int)))
 (pss_one (ps_ret (pe_lst (pa_cons (pe_op op_mod (pe_callTy call_int1 (by rfl) z_int (by decide +kernel) (pa_cons (pe_callB (call_max2 rfl) (by rfl) z_max (by decide +kernel) (pa_cons (pe_op op_sub (pv 2) (pe_op op_pow pe_int pe_int)) (pa_cons pe_int pa_nil))) pa_nil)) (pe_op op_powW (pe_op op_pow pe_int pe_int) pe_int)) (pa_cons (pe_op op_mod (pe_callTy call_int1 (by rfl) z_int (by decide +kernel) (pa_cons (pv 2) pa_nil)) pe_int) (pa_cons (pe_op op_mul pe_int (pv 1)) pa_nil))))))), ?_⟩
    have last : ∀ (H' : Hp) (sd : Int), Same H H' → (∀ g, H' g = none → H g = none) → tRet (tLst (tCons (tOp (rI (fun _ j => 0 < j) fun i j => .int (i % j)) (tCB (fun xs H Q => (∃ i, xs = [.int i] ∧ Q (.int i) H) ∨ ∃ k, xs = [.bl k] ∧ Q (.int (if k then 1 else 0)) H) (tCons (tCB (fun xs H Q => ∃ i j, xs = [.int i, .int j] ∧ Q (.int (if j > i then j else i)) H) (tCons (tOp (rI0 fun i j => .int (i - j)) (tVar 2) (tOp (rI CPow fun i j => .int (i ^ j.toNat)) (tC (.int 10)) (tC (.int 18)))) (tCons (tC (.int 0)) tNil))) tNil)) (tOp (rI CPowW fun i j => .int (i ^ j.toNat)) (tOp (rI CPow fun i j => .int (i ^ j.toNat)) (tC (.int 10)) (tC (.int 60))) (tC (.int 10)))) (tCons (tOp (rI (fun _ j => 0 < j) fun i j => .int (i % j)) (tCB (fun xs H Q => (∃ i, xs = [.int i] ∧ Q (.int i) H) ∨ ∃ k, xs = [.bl k] ∧ Q (.int (if k then 1 else 0)) H) (tCons (tVar 2) tNil)) (tC (.int 2147483647))) (tCons (tOp (rI CMul fun i j => .int (i * j)) (tC (.int 1000)) (tVar 1)) tNil)))) { nx := fun _ H' => Q .non H', rt := Q } [some (.ref a), some (.int k), some (.int sd)] H' := by
      intro H' sd sm fr
      refine ⟨_, rfl, _, _, rfl, rfl, ⟨by decide, by decide, by decide⟩, _, _, rfl, rfl, _, _, rfl, .inl ⟨_, rfl, _, _, rfl, rfl, ⟨by decide, by decide, by decide⟩, _, _, rfl, rfl, ⟨by decide, by decide +kernel⟩, _, _, rfl, rfl, (by show (0 : Int) < ((10 : Int) ^ (60 : Int).toNat) ^ (10 : Int).toNat; decide +kernel), ?_⟩⟩
      refine ⟨_, rfl, .inl ⟨_, rfl, _, _, rfl, rfl, (by show (0 : Int) < 2147483647; decide), _, rfl, _, _, rfl, rfl, .inl ⟨by decide, by decide⟩, by show 3 ≤ sizeLine; decide, fun p np => ?_⟩⟩
      obtain ⟨m0, m1⟩ := mod_in sd (m := 2147483647) (by decide)
      have e600 : ((10 : Int) ^ (60 : Int).toNat) ^ (10 : Int).toNat = 10 ^ 600 := by decide +kernel
      have p600 : (0 : Int) < 10 ^ 600 := by decide +kernel
      refine q _ p (sm.trans (same_new np)) (fr p np) ⟨_, _, _, upd_same, ?_, ?_, m0, m1, by omega, by omega⟩
      · rw [e600]
        exact (mod_in _ p600).1
      · rw [e600]
        exact (mod_in _ p600).2
    refine ⟨_, rfl, .ref a, rfl, _, (ns.map V.int).length, rfl, Or.inl ⟨_, hS, rfl⟩, _, _, rfl, rfl, _, rfl, ite2 (fun e => ?_) (fun e => ?_)⟩
    · have lt : (k : Int) < ((ns.map V.int).length : Nat) := of_decide_eq_true e
      have lt2 : k < ns.length := by
        rw [List.length_map] at lt
        omega
      have g : (ns.map V.int)[k]? = some (.int ns[k]) := by
        rw [List.getElem?_map, List.getElem?_eq_getElem lt2]
        rfl
      exact ⟨.ref a, rfl, _, rfl, a, _, _, _, rfl, rfl, hS, atI_nat g, last H _ (Same.refl H) fun _ z => z⟩
    · refine ⟨.ref a, rfl, _, rfl, a, _, rfl, hS, fun p np => ?_⟩
      rw [cut_first]
      refine ⟨p, ns.take 1, rfl, SqL.of upd_same, _, _, rfl, rfl, (by show (0 : Int) < 1000003; decide), ?_⟩
      refine last _ _ (same_new np) fun g ng => ?_
      by_cases eg : g = p
      · rw [eg]
        exact np
      · rw [upd_ne eg] at ng
        exact ng
end
end K5
set_option Elab.async false
set_option linter.all false
set_option maxRecDepth 100000
set_option maxHeartbeats 4000000
/-! What pieces write, and that the normal ones write the same: of lists, no program. -/
namespace NP
section
variable {α : Type}
/-- w, n times -/
def pw (w : List α) (n : Nat) : List α := (List.replicate n w).flatten
theorem pw_zero (w : List α) : pw w 0 = [] := rfl
theorem pw_succ (w : List α) (n : Nat) : pw w (n + 1) = w ++ pw w n := by
  unfold pw
  rw [List.replicate_succ, List.flatten_cons]
theorem pw_one (w : List α) : pw w 1 = w := by rw [pw_succ, pw_zero, List.append_nil]
theorem pw_nil (n : Nat) : pw ([] : List α) n = [] := by
  induction n with
  | zero => rfl
  | succ n ih => rw [pw_succ, ih]; rfl
theorem pw_len (w : List α) (n : Nat) : (pw w n).length = n * w.length := by
  induction n with
  | zero => simp [pw_zero]
  | succ n ih => rw [pw_succ, List.length_append, ih, Nat.succ_mul, Nat.add_comm]
theorem pw_add (w : List α) (m n : Nat) : pw w (m + n) = pw w m ++ pw w n := by
  induction m with
  | zero => rw [Nat.zero_add, pw_zero, List.nil_append]
  | succ m ih => rw [Nat.succ_add, pw_succ, pw_succ, ih, List.append_assoc]
theorem pw_mul (w : List α) (m n : Nat) : pw (pw w m) n = pw w (m * n) := by
  induction n with
  | zero => rfl
  | succ n ih => rw [pw_succ, ih, ← pw_add, Nat.mul_succ, Nat.add_comm]
theorem pw_snoc (w : List α) (n : Nat) : pw w (n + 1) = pw w n ++ w := by rw [pw_add, pw_one]
/-- a letter moved over a power -/
theorem pw_swap (a b : List α) (v : Nat) : pw (a ++ b) v ++ a = a ++ pw (b ++ a) v := by
  induction v with
  | zero => simp [pw_zero]
  | succ v ih => rw [pw_succ, List.append_assoc, ih, pw_succ]; simp [List.append_assoc]
theorem pw_rev (w : List α) (n : Nat) : (pw w n).reverse = pw w.reverse n := by
  induction n with
  | zero => rfl
  | succ n ih => rw [pw_snoc, List.reverse_append, ih, pw_succ]
theorem pw_get (w : List α) : ∀ (n i : Nat), i < n * w.length → (pw w n)[i]? = w[i % w.length]? := by
  intro n
  induction n with
  | zero => intro i h; simp at h
  | succ n ih =>
    intro i h
    rw [pw_succ]
    by_cases c : i < w.length
    · rw [List.getElem?_append_left c, Nat.mod_eq_of_lt c]
    · rw [List.getElem?_append_right (by omega), ih _ (by rw [Nat.succ_mul] at h; omega)]
      congr 1
      rw [Nat.mod_eq_sub_mod (by omega : w.length ≤ i)]
/-! ### the root of a word -/
/-- w stands in w ++ w at p -/
def At (w : List α) (p : Nat) : Prop := ((w ++ w).drop p).take w.length = w
/-- turning w by p changes nothing -/
def Turn (w : List α) (p : Nat) : Prop := ∀ i, i < w.length → w[(i + p) % w.length]? = w[i]?
theorem turn_of_at {w : List α} {p : Nat} (hp : p ≤ w.length) (h : At w p) : Turn w p := by
  intro i hi
  have e := congrArg (fun l => l[i]?) h
  simp only [List.getElem?_take, List.getElem?_drop, hi, if_true] at e
  rw [← e]
  by_cases c : p + i < w.length
  · rw [List.getElem?_append_left c, Nat.add_comm i p, Nat.mod_eq_of_lt c]
  · rw [List.getElem?_append_right (by omega), Nat.add_comm i p, Nat.mod_eq_sub_mod (by omega), Nat.mod_eq_of_lt (by omega)]
theorem at_of_turn {w : List α} {p : Nat} (hp : p ≤ w.length) (h : Turn w p) : At w p := by
  unfold At
  apply List.ext_getElem?
  intro i
  by_cases hi : i < w.length
  · simp only [List.getElem?_take, List.getElem?_drop, hi, if_true]
    rw [← h i hi]
    by_cases c : p + i < w.length
    · rw [List.getElem?_append_left c, Nat.add_comm i p, Nat.mod_eq_of_lt c]
    · rw [List.getElem?_append_right (by omega), Nat.add_comm i p, Nat.mod_eq_sub_mod (by omega), Nat.mod_eq_of_lt (by omega)]
  · rw [List.getElem?_eq_none (by rw [List.length_take]; omega), List.getElem?_eq_none (by omega)]
theorem turn_all (w : List α) : Turn w w.length := by
  intro i hi
  rw [Nat.add_mod_right, Nat.mod_eq_of_lt hi]
theorem turn_add {w : List α} {p q : Nat} (h1 : Turn w p) (h2 : Turn w q) : Turn w (p + q) := by
  intro i hi
  have pos : 0 < w.length := by omega
  have z := h2 ((i + p) % w.length) (Nat.mod_lt _ pos)
  rw [Nat.mod_add_mod, Nat.add_assoc] at z
  rw [z]
  exact h1 i hi
theorem turn_mul {w : List α} {p : Nat} (h : Turn w p) : ∀ k, Turn w (k * p)
  | 0 => by
    intro i hi
    rw [Nat.zero_mul, Nat.add_zero, Nat.mod_eq_of_lt hi]
  | k + 1 => by
    rw [Nat.succ_mul]
    exact turn_add (turn_mul h k) h
theorem turn_rest {w : List α} {p r k : Nat} (h : Turn w p) (e : w.length = k * p + r) : Turn w r := by
  intro i hi
  have pos : 0 < w.length := by omega
  rw [← turn_mul h k _ (Nat.mod_lt (i + r) pos), Nat.mod_add_mod]
  rw [show i + r + k * p = i + w.length by omega]
  exact turn_all w i hi
/-- the least place p at which w stands in w ++ w: w is a power of its first p letters -/
theorem root_power {w : List α} {p : Nat} (h0 : 1 ≤ p) (hp : p ≤ w.length) (h : At w p) (least : ∀ q, 1 ≤ q → q < p → ¬ At w q) : w.length = (w.length / p) * p ∧ w = pw (w.take p) (w.length / p) := by
  have t := turn_of_at hp h
  have e : w.length = (w.length / p) * p + w.length % p := by
    have := Nat.div_add_mod w.length p
    rw [Nat.mul_comm] at this
    omega
  have r0 : w.length % p = 0 := by
    by_cases c : w.length % p = 0
    · exact c
    · have lt := Nat.mod_lt w.length (by omega : p > 0)
      exact absurd (at_of_turn (by omega) (turn_rest t e)) (least _ (by omega) lt)
  have e1 : w.length = (w.length / p) * p := by omega
  refine ⟨e1, ?_⟩
  have lt : (w.take p).length = p := by rw [List.length_take]; omega
  apply List.ext_getElem?
  intro i
  by_cases hi : i < w.length
  · rw [pw_get _ _ _ (by rw [lt]; omega), lt, List.getElem?_take, if_pos (Nat.mod_lt _ (by omega))]
    have m := Nat.mod_lt i (by omega : p > 0)
    have z := turn_mul t (i / p) (i % p) (by omega)
    have d := Nat.div_add_mod i p
    rw [Nat.mul_comm] at d
    rw [show i % p + i / p * p = i by omega, Nat.mod_eq_of_lt hi] at z
    exact z
  · rw [List.getElem?_eq_none (by omega), List.getElem?_eq_none (by rw [pw_len, lt]; omega)]
/-! ### the common end -/
/-- the last letters of u, so many as same, go on as w again and again, read from behind -/
theorem common_tail {u w : List α} {same : Nat} (hw : 0 < w.length) (hs : same ≤ u.length) (h : ∀ i, i < same → u[u.length - 1 - i]? = w[w.length - 1 - i % w.length]?) : u.drop (u.length - same) = w.drop (w.length - same % w.length) ++ pw w (same / w.length) := by
  have hm := Nat.mod_lt same hw
  have hd := Nat.div_add_mod same w.length
  rw [Nat.mul_comm] at hd
  have l1 : (u.drop (u.length - same)).length = same := by rw [List.length_drop]; omega
  have l2 : (w.drop (w.length - same % w.length)).length = same % w.length := by rw [List.length_drop]; omega
  apply List.ext_getElem?
  intro j
  by_cases hj : j < same
  · rw [List.getElem?_drop]
    have e := h (same - 1 - j) (by omega)
    rw [show u.length - 1 - (same - 1 - j) = u.length - same + j by omega] at e
    rw [e]
    by_cases c : j < same % w.length
    · rw [List.getElem?_append_left (by omega), List.getElem?_drop]
      congr 1
      have x : (same - 1 - j) % w.length = same % w.length - 1 - j := by
        rw [show same - 1 - j = (same % w.length - 1 - j) + same / w.length * w.length by omega, Nat.add_mul_mod_self_right, Nat.mod_eq_of_lt (by omega)]
      omega
    · rw [List.getElem?_append_right (by omega), l2, pw_get _ _ _ (by omega)]
      congr 1
      have y : same - 1 - j < same / w.length * w.length := by omega
      have x : (same - 1 - j) % w.length = w.length - 1 - (j - same % w.length) % w.length := by
        have dj := Nat.div_add_mod (j - same % w.length) w.length
        have mj := Nat.mod_lt (j - same % w.length) hw
        rw [Nat.mul_comm] at dj
        have q : (j - same % w.length) / w.length < same / w.length := Nat.div_lt_of_lt_mul (by rw [Nat.mul_comm]; omega)
        have f : same / w.length * w.length = (same / w.length - 1 - (j - same % w.length) / w.length) * w.length + ((j - same % w.length) / w.length) * w.length + w.length := by
          rw [← Nat.add_mul]
          have : same / w.length = (same / w.length - 1 - (j - same % w.length) / w.length + (j - same % w.length) / w.length) + 1 := by omega
          rw [← Nat.succ_mul]
          congr 1
        rw [show same - 1 - j = (w.length - 1 - (j - same % w.length) % w.length) + (same / w.length - 1 - (j - same % w.length) / w.length) * w.length by omega, Nat.add_mul_mod_self_right, Nat.mod_eq_of_lt (by omega)]
      have mj := Nat.mod_lt (j - same % w.length) hw
      omega
  · rw [List.getElem?_eq_none (by omega), List.getElem?_eq_none (by rw [List.length_append, l2, pw_len]; omega)]
/-- w turned by so many letters -/
def turnW (w : List α) (e : Nat) : List α := w.drop (w.length - e) ++ w.take (w.length - e)
/-- such an end is moved behind the power -/
theorem move_end {u w : List α} {same : Nat} (hw : 0 < w.length) (hs : same ≤ u.length) (h : ∀ i, i < same → u[u.length - 1 - i]? = w[w.length - 1 - i % w.length]?) (v : Nat) :
    u ++ pw w v = u.take (u.length - same) ++ (pw (turnW w (same % w.length)) v ++ u.drop (u.length - same)) := by
  have e := common_tail hw hs h
  have e2 : u = u.take (u.length - same) ++ u.drop (u.length - same) := (List.take_append_drop _ _).symm
  have sw := pw_swap (w.drop (w.length - same % w.length)) (w.take (w.length - same % w.length)) v
  rw [List.take_append_drop] at sw
  have k : u.drop (u.length - same) ++ pw w v = pw (turnW w (same % w.length)) v ++ u.drop (u.length - same) := by
    rw [e, List.append_assoc, ← pw_add, Nat.add_comm, pw_add, ← List.append_assoc, ← List.append_assoc]
    unfold turnW
    rw [sw]
  calc u ++ pw w v = u.take (u.length - same) ++ (u.drop (u.length - same) ++ pw w v) := by rw [← List.append_assoc, ← e2]
    _ = _ := by rw [k]
/-! ### what runs write, letter by letter -/
def wr (rs : List (List α × Nat)) : List α := rs.flatMap fun r => pw r.1 r.2
theorem wr_cons (r : List α × Nat) (rs : List (List α × Nat)) : wr (r :: rs) = pw r.1 r.2 ++ wr rs := List.flatMap_cons
theorem wr_append (rs ss : List (List α × Nat)) : wr (rs ++ ss) = wr rs ++ wr ss := List.flatMap_append
def lettersR (rs : List (List α × Nat)) : Nat := (rs.map fun r => r.1.length * r.2).sum
theorem wr_len (rs : List (List α × Nat)) : (wr rs).length = lettersR rs := by
  induction rs with
  | nil => rfl
  | cons r rs ih =>
    rw [wr_cons, List.length_append, ih, pw_len, Nat.mul_comm]
    rfl
/-- the letter at a place, run by run -/
def letterR : List (List α × Nat) → Nat → Option α
  | [], _ => none
  | r :: rs, i => if i < r.1.length * r.2 then r.1[i % r.1.length]? else letterR rs (i - r.1.length * r.2)
theorem letterR_eq : ∀ (rs : List (List α × Nat)) (i : Nat), letterR rs i = (wr rs)[i]?
  | [], i => rfl
  | r :: rs, i => by
    rw [wr_cons]
    unfold letterR
    by_cases c : i < r.1.length * r.2
    · rw [if_pos c, List.getElem?_append_left (by rw [pw_len, Nat.mul_comm]; exact c), pw_get _ _ _ (by rw [Nat.mul_comm]; exact c)]
    · rw [if_neg c, List.getElem?_append_right (by rw [pw_len, Nat.mul_comm]; omega), letterR_eq rs, pw_len, Nat.mul_comm r.2]
end
end NP
set_option Elab.async false
set_option linter.all false
set_option maxRecDepth 100000
set_option maxHeartbeats 4000000
namespace NP
open PySem PySem.StrLaws Builtin Builtin.Str
/-- the letters of a text -/
abbrev cs (z : Str) : List Nat := z.cps.toList
theorem cs_len (z : Str) : z.length = (cs z).length := by simp [cs, Str.length]
theorem cs_ext {x y : Str} (h : cs x = cs y) : x = y := Str.ext' (Array.toList_inj.mp h)
theorem cs_app (x y : Str) : cs (x ++ y) = cs x ++ cs y := by
  show (x ++ y).cps.toList = _
  rw [Str.cps_append, Array.toList_append]
theorem fold_rep (l : Array Nat) (n : Nat) (z : Array Nat) : ((List.replicate n l).foldl (· ++ ·) z).toList = z.toList ++ pw l.toList n := by
  induction n generalizing z with
  | zero => simp [pw_zero]
  | succ n ih => rw [List.replicate_succ, List.foldl_cons, ih, Array.toList_append, pw_succ, List.append_assoc]
theorem cs_mul (z : Str) {i : Int} (h : 0 ≤ i) : cs (Txt.mul z i) = pw (cs z) i.toNat := by
  unfold Txt.mul
  by_cases c : i < 1
  · rw [if_pos c, show i.toNat = 0 by omega, pw_zero]
    rfl
  · rw [if_neg c]
    by_cases d : (i == 1 || z.length == 0) = true
    · rw [if_pos d]
      rcases (Bool.or_eq_true _ _).mp d with e | e
      · have : i = 1 := beq_iff_eq.mp e
        subst this
        exact (pw_one _).symm
      · have e2 : (cs z).length = 0 := by rw [← cs_len]; exact beq_iff_eq.mp e
        rw [List.length_eq_zero_iff.mp e2, pw_nil]
    · rw [if_neg d]
      show ((List.replicate i.toNat z.cps).foldl (· ++ ·) #[]).toList = _
      rw [fold_rep]
      rfl
/-! ### the first place -/
theorem occ_full (s sub : Str) (hi : Nat) : ∀ (l : List Nat) (st : Array Nat × Nat), st.fst.size = 1 → (forIn l st (occBody s sub hi 1)).run.fst = st.fst
  | [], st, _ => rfl
  | a :: l, st, h => by
    rw [List.forIn_cons]
    unfold occBody
    have c : ¬ (((st.fst.size < 1 ∧ st.snd ≤ a) ∧ a + sub.length ≤ hi) ∧ subAt s sub a = true) := fun z => by omega
    rw [if_neg c]
    exact occ_full s sub hi l _ h
def hit (s sub : Str) (hi i : Nat) : Bool := decide (i + sub.length ≤ hi) && subAt s sub i
theorem occ_first (s sub : Str) (hi : Nat) : ∀ (l : List Nat) (free : Nat), (∀ i ∈ l, free ≤ i) →
    (forIn l ((#[] : Array Nat), free) (occBody s sub hi 1)).run.fst.toList = match l.find? (hit s sub hi) with
      | some i => [i]
      | none => []
  | [], free, _ => rfl
  | a :: l, free, hf => by
    rw [List.forIn_cons, List.find?_cons]
    have ha : free ≤ a := hf a (List.mem_cons_self ..)
    by_cases hc : hit s sub hi a = true
    · have hc2 := hc
      unfold hit at hc2
      rw [Bool.and_eq_true, decide_eq_true_eq] at hc2
      rw [hc]
      unfold occBody
      rw [if_pos ⟨⟨⟨by simp, ha⟩, hc2.1⟩, hc2.2⟩]
      show ((forIn l ((#[] : Array Nat).push a, a + sub.length) (occBody s sub hi 1)).run.fst).toList = [a]
      rw [occ_full s sub hi l _ (by simp)]
      rfl
    · have hc2 : ¬ (((((#[] : Array Nat), free).fst.size < 1 ∧ ((#[] : Array Nat), free).snd ≤ a) ∧ a + sub.length ≤ hi) ∧ subAt s sub a = true) := fun h => hc (by
        unfold hit
        rw [Bool.and_eq_true, decide_eq_true_eq]
        exact ⟨h.1.2, h.2⟩)
      rw [Bool.eq_false_iff.mpr hc]
      unfold occBody
      rw [if_neg hc2]
      exact occ_first s sub hi l free fun i hi' => hf i (List.mem_cons_of_mem _ hi')
theorem find_some {P : Nat → Bool} : ∀ (k lo p : Nat), (List.range' lo k).find? P = some p → lo ≤ p ∧ P p = true ∧ ∀ q, lo ≤ q → q < p → P q = false
  | 0, lo, p, h => by simp at h
  | k + 1, lo, p, h => by
    rw [List.range'_succ, List.find?_cons] at h
    cases e : P lo with
    | true =>
      rw [e] at h
      cases h
      exact ⟨Nat.le_refl _, e, fun q h1 h2 => by omega⟩
    | false =>
      rw [e] at h
      obtain ⟨h1, h2, h3⟩ := find_some k (lo + 1) p h
      refine ⟨by omega, h2, fun q q1 q2 => ?_⟩
      by_cases c : q = lo
      · rw [c]; exact e
      · exact h3 q (by omega) q2
theorem find_none {P : Nat → Bool} : ∀ (k lo : Nat), (List.range' lo k).find? P = none → ∀ q, lo ≤ q → q < lo + k → P q = false
  | 0, lo, _, q, h1, h2 => by omega
  | k + 1, lo, h, q, h1, h2 => by
    rw [List.range'_succ, List.find?_cons] at h
    cases e : P lo with
    | true =>
      rw [e] at h
      cases h
    | false =>
      rw [e] at h
      by_cases c : q = lo
      · rw [c]; exact e
      · exact find_none k (lo + 1) h q (by omega) (by omega)
theorem hit_at (w : Str) (i : Nat) : hit (w ++ w) w (w ++ w).length i = true ↔ i ≤ (cs w).length ∧ At (cs w) i := by
  unfold hit
  rw [Bool.and_eq_true, decide_eq_true_eq, subAt_eq, show (w ++ w).cps.toList = cs w ++ cs w from cs_app w w, cs_len (w ++ w), cs_app, List.length_append, cs_len w]
  unfold At
  constructor
  · rintro ⟨h1, h2⟩
    exact ⟨by omega, eq_of_beq h2⟩
  · rintro ⟨h1, h2⟩
    exact ⟨by omega, beq_iff_eq.mpr h2⟩
/-- (w + w).find(w, 1) -/
theorem root_find {w : Str} (hw : cs w ≠ []) : ∃ p : Nat, Txt.find3 (w ++ w) w 1 = (p : Int) ∧ 1 ≤ p ∧ p ≤ (cs w).length ∧ At (cs w) p ∧ ∀ q, 1 ≤ q → q < p → ¬ At (cs w) q := by
  have n0 : 0 < (cs w).length := List.length_pos_iff.mpr hw
  have lw : (w ++ w).length = (cs w).length + (cs w).length := by rw [cs_len, cs_app, List.length_append]
  have fi : fromIndex (w ++ w).length 1 = 1 := by
    unfold fromIndex
    rw [if_neg (by decide)]
    rfl
  unfold Txt.find3
  rw [fi, occ_eq, occ_first _ _ _ _ _ (fun i hi => by simp [List.mem_range'] at hi; omega)]
  cases e : (List.range' 1 ((w ++ w).length + 1 - 1)).find? (hit (w ++ w) w (w ++ w).length) with
  | none =>
    have z := find_none _ _ e (cs w).length (by omega) (by omega)
    have t : hit (w ++ w) w (w ++ w).length (cs w).length = true := (hit_at w _).mpr ⟨Nat.le_refl _, at_of_turn (Nat.le_refl _) (turn_all _)⟩
    rw [t] at z
    cases z
  | some p =>
    obtain ⟨h1, h2, h3⟩ := find_some _ _ _ e
    obtain ⟨h4, h5⟩ := (hit_at w p).mp h2
    refine ⟨p, rfl, h1, h4, h5, fun q q1 q2 hq => ?_⟩
    have := h3 q q1 q2
    rw [(hit_at w q).mpr ⟨by omega, hq⟩] at this
    cases this
end NP
set_option Elab.async false
set_option linter.all false
set_option maxRecDepth 100000
set_option maxHeartbeats 4000000
namespace NP
open PySem
/-! ### pieces: a word, the constant of its form, the numbers -/
abbrev Pc := Str × Int × List Int
def dot (xs ys : List Int) : Int := (List.zipWith (· * ·) xs ys).sum
def tms (p : Pc) (ys : List Int) : Int := p.2.1 + dot p.2.2 ys
def V (ys : List Int) (ps : List Pc) : List Nat := ps.flatMap fun p => pw (cs p.1) (tms p ys).toNat
def fj (p : Pc) : Nat → Int
  | 0 => p.2.1
  | j + 1 => p.2.2.getD j 0
def cn (k : Nat → Bool) (w : Str) : Int := ((cs w).countP k : Nat)
def lin (k : Nat → Bool) (j : Nat) (ps : List Pc) : Int := (ps.map fun p => cn k p.1 * fj p j).sum
structure Pok (m : Nat) (p : Pc) : Prop where
  c : 0 ≤ p.2.1
  l : p.2.2.length = m
  x : ∀ x ∈ p.2.2, 0 ≤ x
def Nn (ys : List Int) : Prop := ∀ y ∈ ys, 0 ≤ y
theorem dot_nil (ys : List Int) : dot [] ys = 0 := rfl
theorem dot_cons (x y : Int) (xs ys : List Int) : dot (x :: xs) (y :: ys) = x * y + dot xs ys := by
  unfold dot
  rw [List.zipWith_cons_cons, List.sum_cons]
theorem dot_nn : ∀ {xs ys : List Int}, (∀ x ∈ xs, 0 ≤ x) → Nn ys → 0 ≤ dot xs ys
  | [], _, _, _ => Int.le_refl 0
  | _ :: _, [], _, _ => by simp [dot]
  | x :: xs, y :: ys, hx, hy => by
    rw [dot_cons]
    have h1 := dot_nn (xs := xs) (ys := ys) (fun z hz => hx z (List.mem_cons_of_mem _ hz)) (fun z hz => hy z (List.mem_cons_of_mem _ hz))
    have h2 := Int.mul_nonneg (hx x List.mem_cons_self) (hy y List.mem_cons_self)
    omega
theorem dot_zero : ∀ {xs ys : List Int}, (∀ x ∈ xs, x = 0) → dot xs ys = 0
  | [], _, _ => rfl
  | _ :: _, [], _ => by simp [dot]
  | x :: xs, y :: ys, h => by
    rw [dot_cons, dot_zero fun z hz => h z (List.mem_cons_of_mem _ hz), h x List.mem_cons_self]
    omega
theorem dot_scale (k : Int) : ∀ (xs ys : List Int), dot (xs.map (· * k)) ys = dot xs ys * k
  | [], _ => by simp [dot]
  | _ :: _, [] => by simp [dot]
  | x :: xs, y :: ys => by
    rw [List.map_cons, dot_cons, dot_cons, dot_scale k xs ys, Int.add_mul, Int.mul_right_comm]
theorem dot_add : ∀ {xs zs : List Int} (ys : List Int), xs.length = zs.length → dot (List.zipWith (· + ·) xs zs) ys = dot xs ys + dot zs ys
  | [], [], ys, _ => rfl
  | [], _ :: _, _, h => by simp at h
  | _ :: _, [], _, h => by simp at h
  | x :: xs, z :: zs, [], h => by simp [dot]
  | x :: xs, z :: zs, y :: ys, h => by
    rw [List.zipWith_cons_cons, dot_cons, dot_cons, dot_cons, dot_add ys (by simpa using h), Int.add_mul]
    omega
theorem getD_nn {xs : List Int} (h : ∀ x ∈ xs, 0 ≤ x) (j : Nat) : 0 ≤ xs.getD j 0 := by
  rw [List.getD_eq_getElem?_getD]
  cases e : xs[j]? with
  | none => exact Int.le_refl 0
  | some x => exact h x (List.mem_of_getElem? e)
theorem getD_zero {xs : List Int} (h : ∀ x ∈ xs, x = 0) (j : Nat) : xs.getD j 0 = 0 := by
  rw [List.getD_eq_getElem?_getD]
  cases e : xs[j]? with
  | none => rfl
  | some x => exact h x (List.mem_of_getElem? e)
theorem getD_scale (k : Int) (xs : List Int) (j : Nat) : (xs.map (· * k)).getD j 0 = xs.getD j 0 * k := by
  rw [List.getD_eq_getElem?_getD, List.getD_eq_getElem?_getD, List.getElem?_map]
  cases xs[j]? with
  | none => simp
  | some x => rfl
theorem getD_add {xs zs : List Int} (h : xs.length = zs.length) (j : Nat) : (List.zipWith (· + ·) xs zs).getD j 0 = xs.getD j 0 + zs.getD j 0 := by
  rw [List.getD_eq_getElem?_getD, List.getD_eq_getElem?_getD, List.getD_eq_getElem?_getD, List.getElem?_zipWith]
  by_cases c : j < xs.length
  · rw [List.getElem?_eq_getElem c, List.getElem?_eq_getElem (show j < zs.length by omega)]
    rfl
  · rw [List.getElem?_eq_none (by omega), List.getElem?_eq_none (by omega)]
    rfl
theorem V_app (ys : List Int) (ps qs : List Pc) : V ys (ps ++ qs) = V ys ps ++ V ys qs := List.flatMap_append
theorem V_one (ys : List Int) (p : Pc) : V ys [p] = pw (cs p.1) (tms p ys).toNat := by
  unfold V
  rw [List.flatMap_cons, List.flatMap_nil, List.append_nil]
theorem lin_app (k : Nat → Bool) (j : Nat) (ps qs : List Pc) : lin k j (ps ++ qs) = lin k j ps + lin k j qs := by
  unfold lin
  rw [List.map_append, List.sum_append]
theorem lin_one (k : Nat → Bool) (j : Nat) (p : Pc) : lin k j [p] = cn k p.1 * fj p j := by
  unfold lin
  rw [List.map_cons, List.map_nil, List.sum_cons, List.sum_nil, Int.add_zero]
theorem cn_pw (k : Nat → Bool) (w : List Nat) : ∀ n, (pw w n).countP k = n * w.countP k
  | 0 => by simp [pw_zero]
  | n + 1 => by rw [pw_succ, List.countP_append, cn_pw k w n, Nat.succ_mul, Nat.add_comm]
/-! ### what the steps do -/
/-- from done to d2 a word has been put behind -/
def AddF (m : Nat) (done d2 : List Pc) (w : List Nat) : Prop := (∀ ys, Nn ys → V ys d2 = V ys done ++ w) ∧ ∀ k j, lin k j d2 = lin k j done + if j = 0 then ((w.countP k : Nat) : Int) else 0
/-- from done to d2 a power has been put behind -/
def AddP (done d2 : List Pc) (w : List Nat) (xs : List Int) : Prop := (∀ ys, Nn ys → V ys d2 = V ys done ++ pw w (dot xs ys).toNat) ∧ ∀ k j, lin k j d2 = lin k j done + ((w.countP k : Nat) : Int) * (if j = 0 then 0 else xs.getD (j - 1) 0)
theorem addF_nil {m : Nat} (done : List Pc) : AddF m done done [] := ⟨fun ys _ => (List.append_nil _).symm, fun k j => by split <;> simp⟩
theorem addF_one {m : Nat} (done : List Pc) (w : Str) : AddF m done (done ++ [(w, 1, List.replicate m 0)]) (cs w) := by
  have z : ∀ x ∈ List.replicate m (0 : Int), x = 0 := fun x hx => (List.mem_replicate.mp hx).2
  refine ⟨fun ys _ => ?_, fun k j => ?_⟩
  · rw [V_app, V_one]
    show V ys done ++ pw (cs w) (1 + dot (List.replicate m 0) ys).toNat = _
    rw [dot_zero z]
    show V ys done ++ pw (cs w) 1 = _
    rw [pw_one]
  · rw [lin_app, lin_one]
    congr 1
    cases j with
    | zero => exact Int.mul_one _
    | succ j =>
      show cn k w * (List.replicate m (0 : Int)).getD j 0 = _
      rw [getD_zero z, Int.mul_zero]
      rfl
theorem addP_new (done : List Pc) (w : Str) (xs : List Int) : AddP done (done ++ [(w, 0, xs)]) (cs w) xs := by
  refine ⟨fun ys _ => ?_, fun k j => ?_⟩
  · rw [V_app, V_one]
    show V ys done ++ pw (cs w) (0 + dot xs ys).toNat = _
    rw [Int.zero_add]
  · rw [lin_app, lin_one]
    congr 1
    cases j with
    | zero => rfl
    | succ j => rfl
theorem addP_join (init : List Pc) (w : Str) (c : Int) (zs xs : List Int) (hc : 0 ≤ c) (hz : ∀ x ∈ zs, 0 ≤ x) (hx : ∀ x ∈ xs, 0 ≤ x) (hl : zs.length = xs.length) : AddP (init ++ [(w, c, zs)]) (init ++ [(w, c + 0, List.zipWith (· + ·) zs xs)]) (cs w) xs := by
  refine ⟨fun ys hy => ?_, fun k j => ?_⟩
  · rw [V_app, V_one, V_app, V_one, List.append_assoc, ← pw_add]
    congr 2
    show (c + 0 + dot (List.zipWith (· + ·) zs xs) ys).toNat = (c + dot zs ys).toNat + (dot xs ys).toNat
    have h1 := dot_nn hz hy
    have h2 := dot_nn hx hy
    rw [dot_add ys hl]
    omega
  · rw [lin_app, lin_one, lin_app, lin_one, Int.add_assoc]
    congr 1
    cases j with
    | zero =>
      show cn k w * (c + 0) = cn k w * c + cn k w * 0
      rw [Int.mul_add]
    | succ j =>
      show cn k w * (List.zipWith (· + ·) zs xs).getD j 0 = cn k w * zs.getD j 0 + cn k w * xs.getD j 0
      rw [getD_add hl, Int.mul_add]
/-- what stands when so many pieces have been taken -/
structure NI (ps done : List Pc) (fixed : List Nat) : Prop where
  v : ∀ ys, Nn ys → V ys ps = V ys done ++ fixed
  n : ∀ k j, lin k j ps = lin k j done + if j = 0 then ((fixed.countP k : Nat) : Int) else 0
theorem NI.nil : NI [] [] [] := ⟨fun _ _ => rfl, fun k j => by split <;> rfl⟩
theorem NI.skip {ps done : List Pc} {fixed : List Nat} (h : NI ps done fixed) (p : Pc) (hp : cs p.1 = [] ∨ (p.2.1 = 0 ∧ ∀ x ∈ p.2.2, x = 0)) : NI (ps ++ [p]) done fixed := by
  refine ⟨fun ys hy => ?_, fun k j => ?_⟩
  · rw [V_app, V_one, h.v ys hy]
    have e : pw (cs p.1) (tms p ys).toNat = [] := by
      rcases hp with e | ⟨e1, e2⟩
      · rw [e, pw_nil]
      · unfold tms
        rw [e1, dot_zero e2]
        rfl
    rw [e, List.append_nil]
  · rw [lin_app, lin_one, h.n]
    have e : cn k p.1 * fj p j = 0 := by
      rcases hp with e | ⟨e1, e2⟩
      · unfold cn
        rw [e]
        simp
      · cases j with
        | zero =>
          show _ * p.2.1 = 0
          rw [e1, Int.mul_zero]
        | succ j =>
          show _ * p.2.2.getD j 0 = 0
          rw [getD_zero e2, Int.mul_zero]
    rw [e, Int.add_zero]
theorem NI.plain {ps done : List Pc} {fixed : List Nat} (h : NI ps done fixed) (p : Pc) (hc : 0 ≤ p.2.1) (hx : ∀ x ∈ p.2.2, x = 0) : NI (ps ++ [p]) done (fixed ++ pw (cs p.1) p.2.1.toNat) := by
  refine ⟨fun ys hy => ?_, fun k j => ?_⟩
  · rw [V_app, V_one, h.v ys hy, List.append_assoc]
    congr 3
    unfold tms
    rw [dot_zero hx, Int.add_zero]
  · rw [lin_app, lin_one, h.n]
    cases j with
    | zero =>
      show _ + (((fixed.countP k : Nat)) : Int) + cn k p.1 * p.2.1 = _
      rw [if_pos rfl, List.countP_append, cn_pw, Int.natCast_add, Int.natCast_mul, Int.toNat_of_nonneg hc, Int.mul_comm]
      unfold cn
      omega
    | succ j =>
      show _ + (0 : Int) + cn k p.1 * p.2.2.getD j 0 = _
      rw [getD_zero hx, Int.mul_zero, if_neg (by omega), Int.add_zero]
/-- a power: its root r, the end of what is fixed moved behind it -/
theorem NI.power {m : Nat} {ps done d1 d2 : List Pc} {fixed r : List Nat} {n same : Nat} (h : NI ps done fixed) (p : Pc) (hc : 0 ≤ p.2.1) (hx : ∀ x ∈ p.2.2, 0 ≤ x) (hr : 0 < r.length) (hw : cs p.1 = pw r n)
    (hs : same ≤ fixed.length) (hend : ∀ i, i < same → fixed[fixed.length - 1 - i]? = r[r.length - 1 - i % r.length]?) (h1 : AddF m done d1 (fixed.take (fixed.length - same))) (h2 : AddP d1 d2 (turnW r (same % r.length)) (p.2.2.map (· * (n : Int)))) :
    NI (ps ++ [p]) d2 (fixed.drop (fixed.length - same) ++ pw r (p.2.1 * (n : Int)).toNat) := by
  have cT : ∀ k, (turnW r (same % r.length)).countP k = r.countP k := fun k => by
    unfold turnW
    rw [List.countP_append, Nat.add_comm, ← List.countP_append, List.take_append_drop]
  have cF : ∀ k, fixed.countP k = (fixed.take (fixed.length - same)).countP k + (fixed.drop (fixed.length - same)).countP k := fun k => by
    rw [← List.countP_append, List.take_append_drop]
  have cW : ∀ k, cn k p.1 = (n : Int) * ((r.countP k : Nat) : Int) := fun k => by
    unfold cn
    rw [hw, cn_pw, Int.natCast_mul]
  refine ⟨fun ys hy => ?_, fun k j => ?_⟩
  · have d := dot_nn hx hy
    have e := move_end hr hs hend (dot p.2.2 ys * (n : Int)).toNat
    rw [V_app, V_one, h.v ys hy, hw, pw_mul, h2.1 ys hy, h1.1 ys hy, dot_scale]
    have t : n * (tms p ys).toNat = (dot p.2.2 ys * (n : Int)).toNat + (p.2.1 * (n : Int)).toNat := by
      unfold tms
      have a1 : 0 ≤ p.2.1 * (n : Int) := Int.mul_nonneg hc (by omega)
      have a2 : 0 ≤ dot p.2.2 ys * (n : Int) := Int.mul_nonneg d (by omega)
      have a3 : ((n * (p.2.1 + dot p.2.2 ys).toNat : Nat) : Int) = p.2.1 * (n : Int) + dot p.2.2 ys * (n : Int) := by
        rw [Int.natCast_mul, Int.toNat_of_nonneg (by omega), Int.mul_comm, Int.add_mul]
      omega
    rw [t, pw_add, List.append_assoc, ← List.append_assoc fixed, e]
    simp only [List.append_assoc]
  · rw [lin_app, lin_one, h.n, h2.2, h1.2, cT, cW]
    cases j with
    | zero =>
      show _ + (((fixed.countP k : Nat)) : Int) + (n : Int) * ((r.countP k : Nat) : Int) * p.2.1 = _
      rw [if_pos rfl, if_pos rfl, List.countP_append, cn_pw, cF k, Int.natCast_add, Int.natCast_add, Int.natCast_mul, Int.toNat_of_nonneg (Int.mul_nonneg hc (by omega)), Int.mul_zero]
      have : (n : Int) * ((r.countP k : Nat) : Int) * p.2.1 = p.2.1 * (n : Int) * ((r.countP k : Nat) : Int) := by
        rw [Int.mul_comm, Int.mul_assoc]
      omega
    | succ j =>
      show _ + (0 : Int) + (n : Int) * ((r.countP k : Nat) : Int) * p.2.2.getD j 0 = _ + (0 : Int) + ((r.countP k : Nat) : Int) * (p.2.2.map (· * (n : Int))).getD j 0 + 0
      rw [getD_scale]
      have : (n : Int) * ((r.countP k : Nat) : Int) * p.2.2.getD j 0 = ((r.countP k : Nat) : Int) * (p.2.2.getD j 0 * (n : Int)) := by
        rw [Int.mul_comm (n : Int), Int.mul_assoc, Int.mul_comm (n : Int)]
      omega
end NP
set_option Elab.async false
set_option linter.all false
set_option maxRecDepth 100000
set_option maxHeartbeats 4000000
namespace XV
open PySem PySem.Spec PyProof.Rows L2
/-- any(t), t a tuple of flat data -/
def rAnyT (K : PySem.W.Frag) : List V → Hp → VK → Prop := fun vs H Q => ∃ (a : Addr) (xs : List V) (ds : List PyData), vs = [V.ref a] ∧ SqT K H a xs ∧ DpAll K H xs ds ∧ PyData.plainAll ds = true ∧ (∀ d ∈ ds, d.fits63) ∧ Q (.bl (ds.any PyData.truthy)) H
theorem call_anyT {X : Cx} (hc : X.calm = true) : CallR X (.builtin "any") (rAnyT X.K) := by
  intro pins s σ H vs us Q I r h
  obtain ⟨a, xs, ds, rfl, hs, hd, hp, hf, q⟩ := h
  obtain ⟨its, rv, ht, _⟩ := I.tuple hs
  rw [Vals.ref1 r]
  obtain ⟨as, hr⟩ := Dp.readsAll I ds xs its hd rv
  refine PySem.W.any_tuple_data (as := as) (I.ok.hd hc) (vs := its.toArray) (l := a) ?_ (xs := ds) (by simpa using hr) hp hf fun h' tk k => ?_
  · exact ht
  · exact ⟨.bl _, H, I.kept (t' := tk) k, rfl, q⟩
/-- a text times a number -/
theorem op_mulS {X : Cx} : OpR X (binaryOp .Mult) (fun x y H Q => ∃ (z : Str) (i : Int), x = .str z ∧ y = .int i ∧ MulOk z i ∧ Q (.str (Txt.mul z i)) H) := by
  intro pins s σ H x y v u Q I rx ry h
  obtain ⟨z, i, rfl, rfl, hok, q⟩ := h
  obtain ⟨t, rfl⟩ := rx
  obtain ⟨t2, rfl⟩ := ry
  exact SB.mul hok fun t' k => ⟨.str _, H, I.tok k, ⟨t', rfl⟩, q⟩
theorem ip_addS {X : Cx} : PIp X .Add (fun x y H Q => ∃ i j : Str, x = .str i ∧ y = .str j ∧ i.length + j.length ≤ sizeLine ∧ Q (.str (i ++ j)) H) := by
  intro pins s σ H x y v u Q I rx ry h
  exact iop_add_str pins s σ H x y v u Q I rx ry h
end XV
set_option Elab.async false
set_option linter.all false
set_option maxRecDepth 100000
set_option maxHeartbeats 2000000
/-! zip of a tuple (first) and a list (second). -/
namespace XV
open PySem PySem.Spec PyProof.Rows L2
/-- the tuple at a and the list at b, as they are when a turn begins; each turn's two items come in a pair of their own -/
def ItzM (K : PySem.W.Frag) (a b : Addr) : It where
  go := fun i H => ∃ (xs ys : List V) (x y : V), SqT K H a xs ∧ SqL K H b ys ∧ xs[i]? = some x ∧ ys[i]? = some y
  yld := fun i H v H' => ∃ T x y, v = .ref T ∧ H T = none ∧ H' = upd H T (.tup [x, y]) ∧ (∀ xs, SqT K H a xs → xs[i]? = some x) ∧ ∀ ys, SqL K H b ys → ys[i]? = some y
  stop := fun i H => ∃ xs ys : List V, (SqT K H a xs ∧ SqL K H b ys) ∧ (xs.length = i ∨ ys.length = i) ∧ i ≤ xs.length ∧ i ≤ ys.length
/-- where such a zip's parts stand, ahead of turn i -/
def AtM (a b z tI tO j k : Addr) (i : Nat) (h : Heap) : Prop :=
  IsZip h z tI tO .none ∧ IsPair h tI (.ref j) (.ref k) ∧ (∃ p q, IsPair h tO p q) ∧ h.IsTupleIter j a i ∧ h.IsListIter k b i
theorem sep_of {z tI tO j k a b : Addr} (D : ZipApart z tI tO j k a b) : ZipSep2 z tI tO j k [j, a] [k, b] where
  TIz := D.TIz
  TOz := D.TOz
  TITO := D.TITO
  TIi1 := D.TIi1
  mem1 := List.mem_cons_self
  zf1 := by simp [D.i1z.symm, D.l1z.symm]
  Tf1 := by simp [D.TOi1, D.l1TO.symm]
  TIi2 := D.TIi2
  mem2 := List.mem_cons_self
  zf2 := by simp [D.i2z.symm, D.l2z.symm]
  Tf2 := by simp [D.TOi2, D.l2TO.symm]
  sep1_2 := by simp [D.i12, D.l2i1.symm]
  sep2_1 := by simp [D.i12.symm, D.l1i2.symm]
theorem turnM {P : Program} {w : World} {K : PySem.W.Frag} {es : List Expr} {kk : Nat} {tp : Pos} {a b z tI tO j k : Addr} (D : ZipApart z tI tO j k a b) :
    Turn P w K (.Tuple es kk tp) (ItzM K a b) [z, tI, tO, j, k] z (AtM a b z tI tO j k) where
  mem := List.mem_cons_self
  obj := fun i h ⟨s1, s2, ⟨p, q, s3⟩, ⟨o1, e1, _, d1⟩, ⟨o2, e2, _, d2⟩⟩ c hc => by
    simp only [List.mem_cons, List.not_mem_nil, or_false] at hc
    rcases hc with rfl | rfl | rfl | rfl | rfl
    · exact ⟨_, s1, fun _ x => nomatch x⟩
    · exact ⟨_, s2, fun _ x => nomatch x⟩
    · exact ⟨_, s3, fun _ x => nomatch x⟩
    · exact ⟨o1, e1, fun _ x => by rw [d1] at x; cases x⟩
    · exact ⟨o2, e2, fun _ x => by rw [d2] at x; cases x⟩
  keep := fun i h h' ⟨s1, s2, ⟨p, q, s3⟩, s4, s5⟩ kp =>
    ⟨kp z (by simp) _ s1, kp tI (by simp) _ s2, ⟨p, q, kp tO (by simp) _ s3⟩, s4.at (fun o e => kp j (by simp) o e), s5.at (fun o e => kp k (by simp) o e)⟩
  item := by
    intro X eP ew eK calm i pins s σ H E I fp st gg
    subst eP ew eK
    obtain ⟨s1, s2, ⟨p0, q0, s3⟩, s4, s5⟩ := st
    obtain ⟨xs, ys, x, y, tx, ly, ex, ey⟩ := gg
    obtain ⟨us, ru, pu, _⟩ := I.tuple tx
    obtain ⟨vs, rv, pw, _⟩ := I.list ly
    obtain ⟨u, eu, rux⟩ := ru.get ex
    obtain ⟨v, ev, rvy⟩ := rv.get ey
    have zlt : z < s.heap.objs.size := Heap.lt_size s1
    have hu : i < us.toArray.size := by
      have := (List.getElem?_eq_some_iff.mp eu).1
      simpa using this
    have hv : i < vs.toArray.size := by
      have := (List.getElem?_eq_some_iff.mp ev).1
      simpa using this
    have hh : X.A.in1.handled = none := I.ok.hd calm
    refine wpAny_pyNext_zipD2_item (sep_of D) (Draws.tuple hh j a D.l1i1 us.toArray) (Draws.list hh k b D.l2i2 vs.toArray) s1 s2 s3 ⟨s4, pu⟩ ⟨s5, pw.isList⟩ hu hv fun x1 x2 h' tk d1 d2 z1 t1 n1 n2 new sz kp => ?_
    have e1 : x1 = u := Option.some.inj (d1.symm.trans (by simpa using eu))
    have e2 : x2 = v := Option.some.inj (d2.symm.trans (by simpa using ev))
    subst e1 e2
    refine ⟨_, rfl, wpAny_letOwnedTupleGo_zip (s := { s with heap := h', toks := tk }) z1 fun g z2 sb => ?_⟩
    have far : ∀ c, c = z ∨ c = tI ∨ c = tO ∨ c = j ∨ c = k → c < s.heap.objs.size := fun c hc => by
      rcases hc with rfl | rfl | rfl | rfl | rfl
      · exact zlt
      · exact Heap.lt_size s2
      · exact Heap.lt_size s3
      · obtain ⟨_, q, _⟩ := s4
        exact Heap.lt_size q
      · obtain ⟨_, q, _⟩ := s5
        exact Heap.lt_size q
    have fresh : g.get? s.heap.objs.size = some { cls := .type "tuple", data := .seq #[x1, x2] } := (sb.2 _ (Nat.ne_of_gt zlt)).trans new
    have ok2 : ObjOk X.prog X.w (upd H s.heap.objs.size (.tup [x, y])) g s.heap.objs.size (.tup [x, y]) := ⟨(by show 2 ≤ sizeLine; decide), [x1, x2], .cons rux (.cons rvy .nil), ⟨_, fresh, rfl, _, rfl⟩⟩
    have J := I.turnedNew (t' := tk) (h' := g) (ch := [z, tI, tO, j, k]) (fun c o out q => (sb.2 c (fun e => out (by simp [e]))).trans (kp c o (fun e => out (by simp [e])) (fun e => out (by simp [e])) (fun e => out (by simp [e])) (fun e => out (by simp [e])) q)) fp (Nat.le_refl _) ok2
    refine ⟨.ref s.heap.objs.size, _, J, rfl, ⟨_, x, y, rfl, I.hok.fresh (Nat.le_refl _), rfl, fun l hl => (I.tuple_inj hl tx) ▸ ex, fun l hl => (I.list_inj hl ly) ▸ ey⟩, ⟨z2, (sb.2 _ D.TIz).trans (kp _ _ D.TIz D.TITO D.TIi1 D.TIi2 s2), ⟨x1, x2, (sb.2 _ D.TOz).trans t1⟩, n1.1.at (fun o q => (sb.2 _ D.i1z).trans q), n2.1.at (fun o q => (sb.2 _ D.i2z).trans q)⟩, fun c hc => ?_⟩
    simp only [List.mem_cons, List.not_mem_nil, or_false] at hc
    rw [upd_ne (Nat.ne_of_lt (far c hc))]
    exact (fp c (by simpa using hc)).1
  done := by
    intro X eP ew eK calm i pins s σ H E I fp st gg
    subst eP ew eK
    obtain ⟨s1, s2, ⟨p0, q0, s3⟩, s4, s5⟩ := st
    obtain ⟨xs, ys, ⟨tx, ly⟩, stop, l1, l2⟩ := gg
    obtain ⟨us, ru, pu, _⟩ := I.tuple tx
    obtain ⟨vs, rv, pw, _⟩ := I.list ly
    have n1 := ru.length
    have n2 := rv.length
    have hh : X.A.in1.handled = none := I.ok.hd calm
    refine wpAny_pyNext_zipD2_end (sep_of D) (Draws.tuple hh j a D.l1i1 us.toArray) (Draws.list hh k b D.l2i2 vs.toArray) s1 s2 s3 ⟨s4, pu⟩ ⟨s5, pw.isList⟩ (by simp; omega) (by simp; omega) (by simp; omega) fun h' tk kp => ⟨rfl, ?_⟩
    exact I.turnedL (t' := tk) (ch := [z, tI, tO, j, k]) (fun c o out q => kp c o (fun e => out (by simp [e])) (fun e => out (by simp [e])) (fun e => out (by simp [e])) (fun e => out (by simp [e])) q) fp
  self := fun A i s Q E st q => wpAny_pyIter_zip st.1 q
/-- .. in zip(e, e2) -/
def iZipM (K : PySem.W.Frag) (ta : TA) : TI := fun σ H R => ta σ H fun vs H1 => ∃ a b xs ys, vs = [.ref a, .ref b] ∧ (SqT K H1 a xs ∧ SqL K H1 b ys) ∧ R (ItzM K a b) H1
theorem pi_zipM {X : Cx} {e e2 : Expr} {ta : TA} {p pos tp : Pos} {es : List Expr} {kk : Nat} (gl : Gl X "zip") (z_zip : X.mg "zip" = none) (ha : PA X [e, e2] ta)
    (hs : starEach [e, e2] X.env = (false, eval e X.env) :: starEach [e2] X.env := by rfl) (np : (backTo pos (starEach [e2] X.env)).any (·.1) = false := by rfl) :
    PI X (.Tuple es kk tp) (.Call (.Name "zip" p) [e, e2] [] pos) (iZipM X.K ta) := by
  refine ⟨fun pins s σ H R I h => Call_ (ld_blt I gl z_zip PyProof.Rows.boot_zip (PyProof.Rows.callWith_type1 (thn (ha.run pos pins s σ H _ I h) fun us s1 ⟨vs, H1, J, rv, q⟩ => ?_) hs np))⟩
  obtain ⟨a, b, xs, ys, rfl, ⟨tx, ly⟩, q⟩ := q
  obtain ⟨u1, u2, rfl, r1, r2⟩ := vals2 rv
  cases r1
  cases r2
  obtain ⟨ps, _, pu, _⟩ := J.tuple tx
  obtain ⟨qs, _, pw, _⟩ := J.list ly
  have lt1 : a < s1.heap.objs.size := by
    obtain ⟨o, ho, _⟩ := id pu
    exact Heap.lt_size ho
  have lt2 : b < s1.heap.objs.size := pw.lt
  refine zip_begins2 (begins_tuple a ps.toArray) (begins_list b qs.toArray) pu pw.isList fun h' z1 t1 t2 g1 g2 sz kp => wpAny_pyIter_zip z1 ?_
  have J2 : Inv X pins σ H1 { s1 with heap := h' } := J.kept (t' := s1.toks) kp
  refine ⟨s1.heap.objs.size + 4, [s1.heap.objs.size + 4, s1.heap.objs.size + 2, s1.heap.objs.size + 3, s1.heap.objs.size, s1.heap.objs.size + 1], _, _, H1, rfl, J2, turnM (PySem.W.ktu_apart s1.heap.objs.size a b lt1 lt2), ⟨z1, t1, ⟨_, _, t2⟩, ⟨_, g1, rfl, rfl⟩, ⟨_, g2, rfl, rfl⟩⟩, fun c hc => ?_, q⟩
  have le : s1.heap.objs.size ≤ c := by
    simp only [List.mem_cons, List.not_mem_nil, or_false] at hc
    rcases hc with rfl | rfl | rfl | rfl | rfl
    · exact Nat.le_add_right _ 4
    · exact Nat.le_add_right _ 2
    · exact Nat.le_add_right _ 3
    · exact Nat.le_refl _
    · exact Nat.le_add_right _ 1
  exact J.fpOk le (J.hok.fresh le)
end XV
set_option Elab.async false
set_option linter.all false
set_option maxRecDepth 100000
set_option maxHeartbeats 2000000
namespace XV
open PySem PySem.Spec PyProof.Rows L2
/-- a comprehension over zip of a tuple and a list of one length -/
theorem lc_zipM {K : PySem.W.Frag} {a b : Addr} {xs ys : List V} {g : TG} {tt : TT} {te : TE} {vs : List Nat} {σ : L2.St} {H1 : Hp} {D : Addr} {Qd : Hp → Prop} (hl : xs.length = ys.length) (Pv : Nat → Hp → Prop) (h0 : Pv 0 (upd H1 D (.lst [])))
    (hq : ∀ i H, Pv i H → SqT K H a xs ∧ SqL K H b ys)
    (hs : ∀ (i : Nat) (x y : V) (T : Addr) (H : Hp), xs[i]? = some x → ys[i]? = some y → Pv i H → H T = none → g (.ref T) (wipe σ vs) (upd H T (.tup [x, y])) fun σ2 H2 => wipe σ2 vs = wipe σ vs ∧ tt σ2 H2 fun c H3 =>
      if c = true then te σ2 H3 fun r H4 => ∃ acc, H4 D = some (.lst acc) ∧ acc.length < sizeLine ∧ Pv (i + 1) (upd H4 D (.lst (acc ++ [r]))) else Pv (i + 1) H3)
    (hd : ∀ H, Pv xs.length H → Qd H) :
    ∃ W : Nat → Nat → Hp → Prop, (∃ m, W 0 m (upd H1 D (.lst []))) ∧ ∀ i m H, W i m H →
      ((ItzM K a b).stop i H ∧ Qd H) ∨ ((ItzM K a b).go i H ∧ ∃ Nx : Hp → Prop, (∀ H', Nx H' → ∃ m', m' < m ∧ W (i + 1) m' H') ∧ ∀ x H', (ItzM K a b).yld i H x H' → g x (wipe σ vs) H' fun σ2 H2 => wipe σ2 vs = wipe σ vs ∧ tt σ2 H2 fun c H3 =>
        if c = true then te σ2 H3 fun r H4 => ∃ acc, H4 D = some (.lst acc) ∧ acc.length < sizeLine ∧ Nx (upd H4 D (.lst (acc ++ [r]))) else Nx H3) := by
  refine ⟨fun i m H => m + i = xs.length ∧ Pv i H, ⟨xs.length, rfl, h0⟩, ?_⟩
  rintro i m H ⟨em, p⟩
  obtain ⟨q1, q2⟩ := hq i H p
  cases m with
  | zero =>
    have e : i = xs.length := by omega
    subst e
    exact .inl ⟨⟨xs, ys, ⟨q1, q2⟩, .inl rfl, Nat.le_refl _, by omega⟩, hd H p⟩
  | succ m =>
    have l1 : i < xs.length := by omega
    have l2 : i < ys.length := by omega
    have g1 := List.getElem?_eq_getElem l1
    have g2 := List.getElem?_eq_getElem l2
    refine .inr ⟨⟨xs, ys, _, _, q1, q2, g1, g2⟩, Pv (i + 1), fun H' p' => ⟨m, Nat.lt_succ_self m, by omega, p'⟩, ?_⟩
    rintro v H' ⟨T, x, y, rfl, nT, rfl, f1, f2⟩
    exact hs i x y T H (f1 xs q1) (f2 ys q2) p nT
/-- ix of a tuple, len of a text: where the part of the heap must be told -/
theorem ix_tupK {X : Cx} {K : PySem.W.Frag} (e : X.K = K) : IxR X (rIxT K) := by
  subst e
  exact ix_tup
theorem ix_listK {X : Cx} {K : PySem.W.Frag} (e : X.K = K) : IxR X (rIxL K) := by
  subst e
  exact ix_list
theorem cr_sumK {X : Cx} {K : PySem.W.Frag} (e : X.K = K) (hc : X.calm = true) : CallR X (.builtin "sum") (rSum K) := by
  subst e
  exact cr_sum hc
theorem pi_listK {X : Cx} {K : PySem.W.Frag} {tg l : Expr} {tl : TE} (e : X.K = K) (hl : PE X l tl) : PI X tg l (iList K tl) := by
  subst e
  exact pi_list hl
end XV
set_option Elab.async false
set_option linter.all false
set_option maxRecDepth 100000
set_option maxHeartbeats 4000000
/-! Defs that are called where no repr is under way: what is around them has no guards. -/
namespace XV
open PySem PySem.Spec PyProof.Rows L2
structure FnG (P : Program) (w : World) (K : PySem.W.Frag) (mg : Str → Option Value) (base : Heap) (Z : CXT) (k : Nat) (f : Addr) (fd : FuncData) (ps : List Str) (sp : Sp) : Prop where
  gl : ∀ l H Q E, sp l H Q E → l.length = ps.length
  go : ∀ (A : Around) (o : List Env) (s : Shared) (H : Hp) (ar : Args) (us : List Value) (l : List V) (Q : VK) (E : XK), A.guards = some [] → Room k A → Env0 P w K mg base A o s H → BindsTo s fd ar (ps.zip us) → Vals l us → sp l H Q E →
    codeAny (model P w) A (.call (.ref f) ar) (CR Z o P w H s Q E) s
theorem FnG.of {P : Program} {w : World} {K : PySem.W.Frag} {mg : Str → Option Value} {base : Heap} {Z : CXT} {k : Nat} {f : Addr} {fd : FuncData} {ps : List Str} {sp : Sp} (F : FnOk P w K mg base Z k f fd ps sp) : FnG P w K mg base Z k f fd ps sp :=
  ⟨F.len, fun A o s H ar us l Q E _ => F.run A o s H ar us l Q E⟩
section
variable {P : Program} {w : World} {K : PySem.W.Frag} {mg : Str → Option Value} {base : Heap} {x qual : Str} {params : Arguments} {body : List Stmt} {scope : Scope} {dvs : List V} {kws : List (Str × V)} {f : Addr} {fd : FuncData}
/-- a def by its body, where nothing guards -/
theorem okG {Z : CXT} {N ps : List Str} {k : Nat} {sp : Sp} (F : FunD K x qual params body scope dvs kws f fd) (S : FnScope N ps scope) (gl : ∀ l H Q E, sp l H Q E → l.length = ps.length)
    (bd : ∀ (cdv : Value) (A : Around) (o : List Env) (s : Shared) (H : Hp) (l : List V) (Q : VK) (E : XK), (A.deeper (envOfC qual scope s.heap.objs.size f cdv)).guards = some [] → Room k (A.deeper (envOfC qual scope s.heap.objs.size f cdv)) → sp l H Q E →
      ∃ t, PSs (cxOf Z P w K mg base N qual scope f cdv A o s H E) body t ∧ t { nx := fun _ H' => Q .non H', rt := Q } (start N l) H) : FnG P w K mg base Z (k + 1) f fd ps sp := by
  obtain ⟨oc, od, dV, kV, doc, pm, an, cdv, ct, osl, rfl, lk, hcd, _, _⟩ := F.ex
  refine ⟨gl, fun A o s H ar us l Q E ag hr e0 hb r hs => ?_⟩
  have hlen := gl _ _ _ _ hs
  have inK : K.In s.heap := e0.mod.kin.keeps fun b ob e => (e0.bs b ob e).1
  have nol : s.heap.NoLimit := e0.mod.nolimit.keeps fun b ob e => (e0.bs b ob e).1
  have kinds : ∀ y ∈ ps.zip us, scope.names.lookup y.1 = some .local ∨ (scope.names.lookup y.1 = some .cell ∧ ((cellsFrom (s.heap.objs.size + 1) scope.names []).lookup y.1).isSome = true) := by
    rintro ⟨n, v⟩ hy
    exact (S.par n (List.of_mem_zip hy).1).imp id fun q => ⟨q, PySem.W.cellsFrom_some _ _ _ (.inl q)⟩
  refine codeAny_call_function hr.depth (inK _ _ lk) rfl S.co S.gen rfl (PySem.W.codeRec_of inK hcd) (hb _ _ _ _ ?_)
  refine wpAny_newFunctionEnv_cells S.kind kinds fun env he s1 xx => ?_
  subst he
  refine ⟨nol.keeps xx.toInCall.keep, codeAny_func ?_⟩
  obtain ⟨t, ht, hq⟩ := bd cdv A o s H l Q E (show A.guards = some [] from ag) (hr.deeper _) hs
  have J0 := inv_start (CX := Z) (E := E) S hr.hd e0 hlen r xx
  refine wpAny_mono (ht.run [] s1 (start N l) H _ J0 hq) (fun fl s' z => ?_) fun e s' z => z
  have done : ∀ {τ : L2.St} {H' : Hp} {v : V} {u : Value}, Inv (cxOf Z P w K mg base N qual scope f cdv A o s H E) [] τ H' s' → RelV v u → Q v H' → CE o P w H s Q u s' := fun J rv q => ⟨_, _, J.os, J.bare, J.base, J.hok, rv, q⟩
  cases fl with
  | next =>
    obtain ⟨τ, H', J, q⟩ := z
    exact done (v := V.non) (u := Value.none) J rfl q
  | ret u =>
    obtain ⟨v, τ, H', J, rv, q⟩ := z
    exact done J rv q
  | brk =>
    obtain ⟨_, _, _, q⟩ := z
    exact q.elim
  | cont =>
    obtain ⟨_, _, _, q⟩ := z
    exact q.elim
end
/-- the module's name x is a def that keeps sp where nothing guards -/
structure OkG (P : Program) (w : World) (K : PySem.W.Frag) (mg : Str → Option Value) (base : Heap) (x : Str) (k : Nat) (ps : List Str) (sp : Sp) : Prop where
  ex : ∃ f fd, FnG P w K mg base CX0 k f fd ps sp ∧ mg x = some (.ref f) ∧ PySem.W.keepIn K (.ref f) = true ∧ Binds K fd ps []
section
variable {X : Cx} {k : Nat} {f : Addr} {fd : FuncData} {ps : List Str} {sp : Sp} {x : Str} {e : Expr} {es : List Expr} {t : TA} {p pos : Pos}
theorem run_g {pins : List (Addr × Obj)} {σ : L2.St} {H : Hp} {s : Shared} {Q : VK} {us : List Value} {l : List V} (F : FnG X.prog X.w X.K X.mg X.base CX0 k f fd ps sp) (ag : X.A.guards = some []) (hr : Room k X.A) (hb : Binds X.K fd ps [])
    (I : Inv X pins σ H s) (r : Vals l us) (h : sp l H Q E0) : wpAny (model X.prog X.w) X.A (call (.ref f) us) (EP X pins σ Q) X.xe s := by
  have hl : us.length = ps.length := r.length ▸ F.gl _ _ _ _ h
  have b := hb s us I.kIn (by rw [List.append_nil]; exact hl)
  rw [List.append_nil] at b
  refine wpAny_call (codeAny_mono (F.go X.A X.stack s H ⟨us, []⟩ us l Q E0 ag hr I.env0 b r h) fun r' s' hq => ?_)
  cases r' with
  | error er => exact hq.elim
  | ok fl => cases fl with
    | ret u => exact I.after hq
    | next => exact hq.elim
    | brk => exact hq.elim
    | cont => exact hq.elim
theorem pe_callG (o : OkG X.prog X.w X.K X.mg X.base x k ps sp) (ag : X.A.guards = some []) (hr : Room k X.A) (hg : Gl X x) (ha : PA X (e :: es) t) (hdb : (x == ("__debug__" : Str)) = false := by decide)
    (he : starEach (e :: es) X.env = (false, eval e X.env) :: starEach es X.env := by rfl) (hpl : (backTo pos (starEach es X.env)).any (·.1) = false := by rfl) :
    PE X (.Call (.Name x p) (e :: es) [] pos) (fun σ H Q => t σ H fun l H1 => sp l H1 Q E0) := by
  obtain ⟨f, fd, F, hm, hk, b⟩ := o.ex
  refine ⟨fun pins s σ H Q I h => ?_⟩
  refine wpAny_Call_Name_kw (ld_glob I hg hm ?_ hdb)
  refine PySem.W.callWith_K (h₀ := X.base) I.ok.mod.kin hk (thn (ha.run pos pins s σ H _ I h) fun us s1 z => ?_) he hpl
  obtain ⟨l, H1, I1, r, q⟩ := z
  exact ⟨I1.kIn, run_g F ag hr b I1 r q⟩
theorem pe_callG0 (o : OkG X.prog X.w X.K X.mg X.base x k ps sp) (ag : X.A.guards = some []) (hr : Room k X.A) (hg : Gl X x) (hdb : (x == ("__debug__" : Str)) = false := by decide) :
    PE X (.Call (.Name x p) [] [] pos) (fun σ H Q => sp [] H Q E0) := by
  obtain ⟨f, fd, F, hm, hk, b⟩ := o.ex
  refine ⟨fun pins s σ H Q I h => ?_⟩
  refine wpAny_Call_Name_kw (ld_glob I hg hm ?_ hdb)
  exact PySem.W.callWith_K0 I.kIn hk (run_g (us := []) F ag hr b I .nil h)
end
theorem OkG.mk' {P : Program} {w : World} {K : PySem.W.Frag} {mg : Str → Option Value} {base : Heap} {x : Str} {k : Nat} {ps : List Str} {sp : Sp} {body : List Stmt} {params : Arguments} {scope : Scope} {f : Addr} {fd : FuncData}
    (F : FunD K x x params body scope [] [] f fd) (g : mg x = some (.ref f)) (b : ∀ (kV doc pm : Value) (an : Option Addr) (cdv ct : Value) (us : List Value), us.length = ps.length → bindArgs (PySem.W.fnOf x x params body scope .none kV doc pm an cdv ct) ⟨us, []⟩ = pure (ps.zip us))
    (ok : FnG P w K mg base CX0 k f fd ps sp) : OkG P w K mg base x k ps sp := ⟨f, fd, ok, g, F.kp, F.bindsN b⟩
end XV
set_option Elab.async false
set_option linter.all false
set_option maxRecDepth 100000
set_option maxHeartbeats 4000000
/-! The end of a law whose def is told of where nothing guards. -/
namespace XV
open PySem PySem.Spec PyProof.Rows L2
theorem law_g {P : Program} {w : World} {K : PySem.W.Frag} {mg mb : Str → Option Value} {k : Nat} {fa a : Addr} {fd : FuncData} {x : Str} {sp : Sp} {s : Shared} {us : List Value} {ns : List Int}
    (KX : K.In s.heap) (gn : s.heap.Ns mainGlobals mg) (bn : s.heap.Ns builtinsNs mb) (bb : ∀ y : Str, y ≠ "__name__" → mb y = bootBuiltins y) (nl : s.heap.NoLimit) (g0 : s.gens = #[])
    (ha : s.heap.get? a = some { cls := .type "list", data := .seq us.toArray }) (hi : IntsAre us ns) (hl : ns.length ≤ sizeLine) (hr : Room k callerA)
    (F : ∀ base : Heap, K.In base → base.Ns mainGlobals mg → FnG P w K mg base CX0 k fa fd [x] sp) (hb : ∀ (s' : Shared) (u : Value), BindsTo s' fd ⟨[u], []⟩ [(x, u)])
    (hsp : ∀ H : Hp, Only H → SqL K H a (ns.map V.int) → sp [.ref a] H (fun v _ => v = .bl true) fun _ _ _ => False) :
    codeAny (model P w) callerA (.call (.ref fa) ⟨[.ref a], []⟩) (fun r s' => r = .ok (.ret (.bool true)) ∧ OldK s.heap s'.heap ∧ s'.os = s.os ∧ AllBare s'.gens) s := by
  have rv := vals_ints hi
  have len := hi.length
  -- H tells of the script alone, or of nothing
  have main : ∀ H : Hp, Only H → SqL K H a (ns.map V.int) → HOk P w H s.heap → (∀ b, H b ≠ none → b = a) → (H a ≠ none → K.lookup a = none) →
      codeAny (model P w) callerA (.call (.ref fa) ⟨[.ref a], []⟩) (fun r s' => r = .ok (.ret (.bool true)) ∧ OldK s.heap s'.heap ∧ s'.os = s.os ∧ AllBare s'.gens) s := by
    intro H only told ok alone notK
    have part : ∀ {b : Addr} {o : Obj}, s.heap.get? b = some o → H b = none → (hidT s.heap H).get? b = some o := fun e n => hidT_get e n
    have dictN : ∀ {b : Addr} {o : Obj} {es : Array DictEntry} {ep : Nat}, s.heap.get? b = some o → o.data = .dict es ep → H b = none := by
      intro b o es ep e d
      by_cases q : H b = none
      · exact q
      · obtain rfl := alone b q
        rw [ha] at e
        cases e
        exact nomatch (show Data.seq us.toArray _ = Data.dict es ep from d)
    have nsP : ∀ {b : Addr} {m : Str → Option Value}, s.heap.Ns b m → (hidT s.heap H).Ns b m := by
      rintro b m ⟨o, es, ep, e, d, r⟩
      exact ⟨o, es, ep, part e (dictN e d), d, r⟩
    have KP : K.In (hidT s.heap H) := fun b o e => part (KX b o e) (by
      by_cases q : H b = none
      · exact q
      · obtain rfl := alone b q
        rw [notK q] at e
        cases e)
    have md : Mod K mg (hidT s.heap H) := ⟨KP, nsP gn, ⟨mb, nsP bn, bb⟩, nl.imp fun _ z => ⟨nsP z.1, z.2⟩⟩
    have st : Env0 P w K mg (hidT s.heap H) callerA [] s H := { frames := rfl, mod := md, bs := fun b o e => of_hidT e, bsz := Nat.le_of_eq (hidT_size _ _), funs := trivial, frf := fun b z => absurd (show b ∈ ([] : List Addr) from z) (by simp), hok := ok, bare := .of_eq g0 }
    refine codeAny_mono ((F _ KP (nsP gn)).go callerA [] s H ⟨[.ref a], []⟩ [.ref a] [.ref a] _ _ rfl hr st (hb s (.ref a)) (.cons rfl .nil) (hsp H only told)) fun r s' h => ?_
    cases r with
    | error er => exact h.elim
    | ok fl => cases fl with
      | next => exact h.elim
      | brk => exact h.elim
      | cont => exact h.elim
      | ret u =>
        obtain ⟨v, H', os, bare, un, ok', r', q⟩ := h
        obtain rfl : v = .bl true := q
        obtain rfl : u = Value.bool true := r'
        refine ⟨rfl, OldK.of_keep fun b o e => ?_, os, bare⟩
        by_cases q : H b = none
        · exact un.keep b o e q (fun z => nomatch (show b ∈ ([] : List Addr) from z)) (by simp)
        · rcases only b with z | ⟨ob, xs, z⟩
          · exact absurd z q
          · obtain ⟨e1, _⟩ := ok b _ z
            obtain ⟨e2, _⟩ := ok' b _ (un.frzs b ob _ z)
            rw [e] at e1
            cases e1
            exact e2
  cases hk : K.lookup a with
  | some o =>
    obtain rfl := Option.some.inj (ha.symm.trans (KX a o hk))
    exact main (fun _ => none) (fun _ => .inl rfl) (.inr ⟨_, us.toArray, _, hk, rfl, rfl, rfl, by rw [List.size_toArray, len]; exact hl, by simpa using rv⟩) (fun b u z => nomatch (show (none : Option HO) = some u from z)) (fun b z => absurd rfl z) fun z => absurd rfl z
  | none =>
    let o1 : Obj := { cls := .type "list", data := .seq us.toArray }
    have at_ : ∀ b : Addr, b = a → (fun b : Addr => if b = a then some (HO.frz o1 (.lst (ns.map V.int))) else none) b = some (.frz o1 (.lst (ns.map V.int))) := fun b e => if_pos e
    have off : ∀ b : Addr, b ≠ a → (fun b : Addr => if b = a then some (HO.frz o1 (.lst (ns.map V.int))) else none) b = none := fun b e => if_neg e
    refine main (fun b => if b = a then some (.frz o1 (.lst (ns.map V.int))) else none) (fun b => ?_) (.inl (.inr ⟨o1, if_pos rfl⟩)) (fun b u z => ?_) (fun b z => ?_) fun _ => hk
    · by_cases e : b = a
      · exact .inr ⟨_, _, at_ b e⟩
      · exact .inl (off b e)
    · by_cases e : b = a
      · cases (at_ b e).symm.trans z
        subst e
        exact ⟨ha, by rw [List.length_map]; exact hl, us, _, rv, ha⟩
      · cases (off b e).symm.trans z
    · by_cases e : b = a
      · exact e
      · exact absurd (off b e) z
theorem walk_ofG {l : PySem.W.OpenLaw} {n k : Nat} {q : Program} {loose : List Str} {XP : (Str → Option Value) → Heap → Prop} {YP : World → Heap → Prop} {d : DefRec} {x : Str}
    (hn : l.most = some n) (hz : n ≤ sizeLine) (hd : d.params.defaults = []) (hr : Room k callerA)
    (F : ∀ (w : World) (mg : Str → Option Value) (fa : Addr) (h : Heap), YP w h → h.Ns mainGlobals mg → mg d.name = some (.ref fa) →
      ∃ (K : PySem.W.Frag) (fd : FuncData) (sp : Sp), K.In h ∧ (∀ (s : Shared) (u : Value), BindsTo s fd ⟨[u], []⟩ [(x, u)]) ∧
        (∀ (H : Hp) (a : Addr) (ns : List Int), ns.length ≤ n → Only H → SqL K H a (ns.map V.int) → sp [.ref a] H (fun v _ => v = .bl true) fun _ _ _ => False) ∧
        ∀ base : Heap, K.In base → base.Ns mainGlobals mg → FnG l.prog w K mg base CX0 k fa fd [x] sp) :
    PySem.W.WalkO q loose XP YP l.row.toRowW d [] (fun f vs => PySem.call f vs) := by
  refine Att.attach_call hn hd fun w s₀ s₁ mg mb fa o pm cd doc a us ns G Y ho hd' hcd hmg hobj hints hlen hg => ?_
  obtain ⟨K, fd, sp, KX, hb, hsp, hF⟩ := F w mg fa _ Y G.T.g hmg
  exact law_g KX G.T.g G.T.b G.T.builtins G.T.nolimit hg hobj hints (Nat.le_trans hlen hz) hr hF hb fun H hO hS => hsp H a ns hlen hO hS
end XV
set_option Elab.async false
set_option linter.all false
set_option maxRecDepth 100000
set_option maxHeartbeats 4000000
/-! An error that an except suite has caught, held in a name behind the suite. -/
namespace XV
open PySem PySem.Spec PyProof.Rows L2
/-- at a: an error of the class cls that was raised and caught, its dict at d -/
def exz (a : Addr) (cls : Value) (d : Option Addr) : HO := .ext fun h => ∃ (oe : Obj) (vs : Array Value), h.get? a = some oe ∧ Zc cls d oe ∧ oe.data = .fields vs
theorem exz_ok {P : Program} {w : World} {H : Hp} {h : Heap} {a : Addr} {cls : Value} {d : Option Addr} {oe : Obj} {vs : Array Value} (e : h.get? a = some oe) (z : Zc cls d oe) (f : oe.data = .fields vs) : ObjOk P w H h a (exz a cls d) :=
  ⟨⟨oe, vs, e, z, f⟩, ⟨oe, e⟩, fun _ _ y k => y.elim fun o y => y.elim fun v y => ⟨o, v, k o y.1, y.2⟩⟩
theorem exz_at {P : Program} {w : World} {H : Hp} {h : Heap} {a : Addr} {cls : Value} {d : Option Addr} (hok : HOk P w H h) (e : H a = some (exz a cls d)) : ∃ (oe : Obj) (vs : Array Value), h.get? a = some oe ∧ Zc cls d oe ∧ oe.data = .fields vs := by
  have x : ObjOk P w H h a (.ext fun h => ∃ (oe : Obj) (vs : Array Value), h.get? a = some oe ∧ Zc cls d oe ∧ oe.data = .fields vs) := hok a _ e
  exact x.1
/-- what is there, new since the entry and not told of, is told of -/
theorem tell {X : Cx} {pins : List (Addr × Obj)} {σ : L2.St} {H : Hp} {s : Shared} {a : Addr} {cls : Value} {d : Option Addr} {oe : Obj} {vs : Array Value} (I : Inv X pins σ H s) (e : s.heap.get? a = some oe) (z : Zc cls d oe) (f : oe.data = .fields vs)
    (na : H a = none) (n0 : X.s_0.heap.get? a = none) (nL : a ≠ X.env.locals) (np : ∀ p ∈ X.pn ++ pins, p.1 ≠ a) : Inv X pins σ (upd H a (exz a cls d)) s := by
  have nc : ∀ x c, X.env.cells.lookup x = some c → c ≠ a := fun x c l q => by
    obtain ⟨v, o, ho, hd⟩ := I.cell x c l
    rw [q, e] at ho
    cases ho
    rw [f] at hd
    cases hd
  refine { ok := I.ok, os := I.os, bare := I.bare, base := ?_, loc := I.loc, cell := I.cell, free := ?_, freeC := fun x c l => ?_, pin := fun p hp => ?_, hok := fun b o q => ?_, len := I.len }
  · refine { keep := I.base.keep, slot := I.base.slot, free := fun b o q n hx => ?_, there := I.base.there, tups := fun b xs q => ?_, frzs := fun b o u q => ?_, tbls := fun b ps q => ?_ }
    · rw [upd_ne (fun y => by rw [y, n0] at q; cases q)]
      exact I.base.free b o q n hx
    · have y := I.base.tups b xs q
      rw [upd_ne (ne_of_none y na)]
      exact y
    · have y := I.base.frzs b o u q
      rw [upd_ne (ne_of_none y na)]
      exact y
    · obtain ⟨m, y⟩ := I.base.tbls b ps q
      exact ⟨m, by rw [upd_ne (ne_of_none y na)]; exact y⟩
  · rw [upd_ne (Ne.symm nL)]
    exact I.free
  · rw [upd_ne (nc x c l)]
    exact I.freeC x c l
  · obtain ⟨p1, p2, p3⟩ := I.pin p hp
    exact ⟨p1, by rw [upd_ne (np p hp)]; exact p2, p3⟩
  · by_cases hb : b = a
    · subst hb
      rw [upd_same] at q
      cases q
      exact exz_ok e z f
    · rw [upd_ne hb] at q
      exact (I.hok b o q).stay (fun c w' _ y => y) (fun c y => by rw [upd_ne (ne_of_none y na)]; exact y) fun c xs y => by
        rw [upd_ne (ne_of_none y na)]
        exact y
/-- the clause's wish: behind its suite the error is told of -/
def wKeep (K : PySem.W.Frag) (c : Value) (i : Nat) (ts : Addr → Value → Option Addr → TS) (Wout : WX) (D : Ends) : WX := fun cls d σ H => ∃ b, PySem.W.exmOne K cls c = some b ∧
  (b = true → ∀ a, H a = none → ts a cls d { nx := fun σ' H' => H' a = none → D.nx (σ'.set i none) (upd H' a (exz a cls d)), rt := fun _ _ => False, bk := fun _ _ => False, ct := fun _ _ => False } (σ.set i (some (.ref a))) H) ∧ (b = false → Wout cls d σ H)
section
variable {X : Cx} {x n : Str} {c : Value} {i : Nat} {body suite : List Stmt} {b₀ : Stmt} {np pos pos' : Pos} {tb : WX → TS} {ts : Addr → Value → Option Addr → TS} {Wout : WX}
theorem ps_try_keep (hs : X.stack = X.env :: X.outer) (hf : X.env.frame = some X.env.locals) (hex : X.ex = []) (nd : X.N.Nodup) (hi : X.N[i]? = some n) (hln : X.env.kindOf n = some .local) (hc : Names X x c) (tk : Takes X Wout)
    (hb : ∀ (W : WX) (pn : List (Addr × Obj)) (xe : Value → Shared → Prop), Takes (X.tr pn xe) W → PassesOwn (model X.prog X.w) X.A X.env xe → PSs (X.tr pn xe) body (tb W))
    (hsu : ∀ (a : Addr) (oe : Obj) (cls : Value) (d : Option Addr) (pn : List (Addr × Obj)), Zc cls d oe → (∃ vs, oe.data = .fields vs) → PSs (X.suite a ((a, oe) :: pn)) (b₀ :: suite) (ts a cls d)) :
    PS X (.Try body [.ExceptHandler (some (.Name x np)) (some n) (b₀ :: suite) pos'] [] [] pos) (fun D σ H => tb (wKeep X.K c i ts Wout D) D σ H) := by
  refine ⟨fun pins s σ H D I h => ?_⟩
  have ok := I.ok
  have fr : X.A.frames = some (X.env :: X.outer) := ok.frames.trans (congrArg some hs)
  have lc : Loc X.env.scope n := .inl hln
  let catch_ : Value → Shared → Prop := fun e s₁ => wpAny (model X.prog X.w) X.A (noteFrame e X.env) (fun _ s₂ => wpAny (model X.prog X.w) X.A (setFlight e none) (fun _ s₃ =>
    wpAny (model X.prog X.w) X.A (handleBy e X.env [.ExceptHandler (some (.Name x np)) (some n) (b₀ :: suite) pos']) (SP X pins D) X.xe s₃) X.xe s₂) X.xe s₁
  refine wpAny_Try_except ?_
  refine wpAny_mono ((hb (wKeep X.K c i ts Wout D) (X.pn ++ pins) catch_ (fun u s' air => ?_) PassesOwn.looking).run [] s σ H D (I.toTry _) h) (fun fl s1 out => ?_) (fun e s1 z => z)
  · obtain ⟨a, B, sI, pins1, σ1, H1, cls, d, rfl, J1, nb, up, sky, na, os, ag, b, known, yes, no⟩ := air
    have J : Inv X pins σ1 H1 sI := J1.ofTry ok
    have skyE : Sky B (X.env :: X.outer) a (Zc cls d) X.env.locals s'.heap := hs ▸ sky
    -- the error is new since the entry
    have nB : B.get? a = none := by
      rcases skyE with q | q | q
      · exact q.2.1
      · exact q.2.1
      · exact q.2.1
    show wpAny (model X.prog X.w) X.A (noteFrame (.ref a) X.env) _ _ _
    refine Sky.land Zc.steady fr hf skyE fun h3 fly3 up3 => ?_
    have J3 : Inv X pins σ1 H1 { s' with heap := h3 } := J.landed nb fly3.1 (up.trans up3) os ag
    obtain ⟨oe3, vs3, e3, z3, f3⟩ := fly3.there
    have nfr : a ∉ frs (X.env :: X.outer) := fun m => by
      obtain ⟨_, o, e, nf⟩ := fly3.2.2.1.mem m
      rw [e3] at e
      cases e
      exact nf _ f3
    have nL : a ≠ X.env.locals := fun q => nfr (List.mem_filterMap.mpr ⟨X.env, List.mem_cons_self, q ▸ hf⟩)
    have nF : a ∉ X.fs := fun m => (List.mem_filterMap.mp m).elim fun y q => nfr (List.mem_filterMap.mpr ⟨y, List.mem_cons_of_mem _ q.1, q.2⟩)
    have nI : sI.heap.get? a = none := by
      cases q : sI.heap.get? a with
      | none => rfl
      | some o =>
        have y := nb a o q (by rw [hs]; exact nfr)
        rw [nB] at y
        cases y
    have n0 : X.s_0.heap.get? a = none := by
      cases q : X.s_0.heap.get? a with
      | none => rfl
      | some o =>
        obtain ⟨o', y⟩ := J.base.there a o q (by rw [hex]; exact fun z => nomatch z)
        rw [nI] at y
        cases y
    have npin : ∀ p ∈ X.pn ++ pins, p.1 ≠ a := fun p hp q => by
      have y := (J.pin p hp).1
      rw [q, nI] at y
      cases y
    have S3 := J3.suite e3 f3 na nL nF
    refine wpAny_handleBy_cons (codeAny_handlers_test ?_) (by intro q; cases q)
    have tyLook : PySem.W.Looks (model X.prog X.w) h3 (typeOf (.ref a)) cls := fun A Q E s k q => wpAny_typeOf_ref (k _ _ e3) (by rw [z3.1]; exact q)
    have match_ := PySem.W.exm_one (M := model X.prog X.w) J3.kIn tyLook known
    have clause : ∀ {Q : Value → Shared → Prop} {E : Value → Shared → Prop}, Q c { s' with heap := h3 } → wpAny (model X.prog X.w) (X.A.mark (some (.ref a))) (eval (.Name x np) X.env) Q E { s' with heap := h3 } := by
      intro Q E q
      obtain ⟨hg, hdb, hm | ⟨hm, hv, hnn⟩⟩ := hc
      · exact ld_glob (X := X.suite a ((a, oe3) :: (X.pn ++ pins))) S3 hg hm q hdb
      · exact ld_blt (X := X.suite a ((a, oe3) :: (X.pn ++ pins))) S3 hg hm hv q hnn hdb
    refine clause (match_.here ?_)
    cases b with
    | false =>
      show wpAny _ X.A (handleBy (.ref a) X.env []) _ _ _
      refine wpAny_handleBy_nil ?_
      obtain ⟨k1, k2, k3, oe, vs, T, oT, ts', he, hz, hd, h1, hr⟩ := id fly3
      unfold PySem.passOn
      refine wpAny_bind (wpAny_field he hd h1 ?_)
      rw [if_neg (show ¬ ((Value.ref T == Value.none) = true) from by simp)]
      have fin : wpAny (model X.prog X.w) X.A (setFlight (.ref a) X.env.frame) (fun _ s4 => wpAny (model X.prog X.w) X.A (throw (.ref a) : Sem Flow) (SP X pins D) X.xe s4) X.xe { s' with heap := h3 } := by
        rw [hf]
        exact HandSPX.setFlight_upZ fly3 fun h4 held4 up4 => wpAny_throw (tk _ _ ⟨a, B, sI, pins, σ1, H1, cls, d, rfl, J, nb, (up.trans up3).trans up4, .inr (.inr (by rw [hs]; exact held4)), na, os, ag, no rfl⟩)
      first
        | exact wpAny_bind (wpAny_pure (wpAny_bind fin))
        | exact wpAny_bind fin
    | true =>
      refine codeAny_handlers_suite_as ?_
      refine HandSPX.lands_againZ fly3 fun h4 fly4 up4 => ?_
      have J4 : Inv X pins σ1 H1 { s' with heap := h4 } := J.landed nb fly4.1 ((up.trans up3).trans up4) os ag
      obtain ⟨oe4, vs4, e4, z4, f4⟩ := fly4.there
      refine store_ok (X := X.suite a ((a, oe4) :: (X.pn ++ pins))) (v := .ref a) (J4.suite e4 f4 na nL nF) nd hi lc rfl (fun s5 S5 => ?_) (.inr hln)
      refine wpAny_mono ((hsu a oe4 cls d (X.pn ++ pins) z4 ⟨_, f4⟩).run [] s5 _ H1 _ S5 (yes rfl a na)) (fun fl s6 out => ?_) (fun _ _ z => z.elim)
      cases fl with
      | next =>
        obtain ⟨σ6, H6, S6, q6⟩ := out
        obtain ⟨p1, p2, _⟩ := S6.pin (a, oe4) (List.mem_append_left _ List.mem_cons_self)
        have T6 := tell (S6.unsuite ok) p1 z4 f4 p2 n0 nL npin
        exact gone_ok T6 nd hi hln fun s7 J7 => ⟨_, _, J7, q6 p2⟩
      | brk =>
        obtain ⟨_, _, _, q6⟩ := out
        exact q6.elim
      | cont =>
        obtain ⟨_, _, _, q6⟩ := out
        exact q6.elim
      | ret u =>
        obtain ⟨_, _, _, _, _, q6⟩ := out
        exact q6.elim
  · cases fl with
    | next => exact out.elim fun σ' z => z.elim fun H' z => wpAny_execs_nil ⟨σ', H', z.1.ofTry ok, z.2⟩
    | brk => exact out.elim fun σ' z => z.elim fun H' z => ⟨σ', H', z.1.ofTry ok, z.2⟩
    | cont => exact out.elim fun σ' z => z.elim fun H' z => ⟨σ', H', z.1.ofTry ok, z.2⟩
    | ret u =>
      obtain ⟨v, σ', H', J', r, q⟩ := out
      exact ⟨v, σ', H', J'.ofTry ok, r, q⟩
end
/-! ### e.f and isinstance(e, C) of such an error -/
section
variable {X : Cx}
theorem pe_zget {e : Expr} {te : TE} {pos : Pos} {n : Str} (he : PE X e te) (hb : attributeBase e n X.env (eval e X.env) = eval e X.env := by rfl) :
    PE X (.Attribute e n pos) (fun σ H Q => te σ H fun x H1 => ∃ a C d fs v, x = .ref a ∧ H1 a = some (exz a (.ref C) (some d)) ∧ H1 d = some (.xd fs) ∧ XF X.K C n ∧ fs.lookup n = some v ∧ Q v H1) := by
  refine ⟨fun pins s σ H Q I h => ?_⟩
  refine attr_of hb (thn (he.run pins s σ H _ I h) fun u s1 hh => ?_)
  obtain ⟨x, H1, I1, rx, a, C, d, fs, v, ex, ea, ed, T, l, q⟩ := hh
  subst ex
  obtain rfl : u = Value.ref a := rx
  obtain ⟨oe, vs, ho, hz, hf⟩ := exz_at I1.hok ea
  have hx : ObjOk X.prog X.w H1 s1.heap d (.xd fs) := I1.hok d _ ed
  obtain ⟨mA, hns, hrel⟩ := hx
  obtain ⟨od, hod, hl⟩ := lookIn_ns hns
  obtain ⟨w1, hw, rw1⟩ := RelO.some_of (v := v) (o := mA n) (by rw [← l]; exact hrel n)
  have J : PySem.W.InstAt s1.heap a oe C (some od) := ⟨ho, hz.1, by unfold PySem.W.notCls; rw [hf] <;> rfl, by rw [hz.2]; exact hod⟩
  exact HandSPX.exc_get I1.kIn J T.xf.ga T.xf.gg T.xf.exC (PySem.W.findObj_own T.xf.hdC T.no rfl (by rw [hl, hw])) (handed_of rw1) ⟨v, H1, I1.tok _, rw1, q⟩
def rIsZ (K : PySem.W.Frag) : List V → Hp → VK → Prop := fun xs H Q => ∃ (a : Addr) (c : V) (D d : Addr) (fs : List (Str × V)) (cv : Value) (b : Bool), xs = [.ref a, c] ∧ H a = some (exz a (.ref D) (some d)) ∧ H d = some (.xd fs) ∧ ExcC K D ∧ (∀ u, RelV c u → u = cv) ∧ PySem.W.kitOne K (.ref D) cv = some b ∧ Q (.bl b) H
theorem call_isZ : CallR X (.builtin "isinstance") (rIsZ X.K) := by
  intro pins s σ H xs us Q I r h
  obtain ⟨a, c, D, d, fs, cv, b, rfl, ea, ed, C, hcv, e, q⟩ := h
  cases r with
  | cons rx rr =>
    cases rr with
    | cons rt rr =>
      cases rr
      cases rx
      obtain rfl := hcv _ rt
      obtain ⟨oe, vs, ho, hz, hf⟩ := exz_at I.hok ea
      have hx : ObjOk X.prog X.w H s.heap d (.xd fs) := I.hok d _ ed
      obtain ⟨mA, hns, _⟩ := hx
      obtain ⟨od, hod, _⟩ := lookIn_ns hns
      have J : PySem.W.InstAt s.heap a oe D (some od) := ⟨ho, hz.1, by unfold PySem.W.notCls; rw [hf] <;> rfl, by rw [hz.2]; exact hod⟩
      exact PySem.W.kia_one (kitErr C) I.kIn J e (fun z => nomatch z) fun tk => ⟨.bl b, H, I.kept (t' := tk) fun _ _ z => z, rfl, q⟩
end
end XV
set_option Elab.async false
set_option linter.all false
set_option maxRecDepth 100000
set_option maxHeartbeats 4000000
/-! repr of data, where nothing guards; written data. -/
namespace XV
open PySem PySem.Spec PyProof.Rows L2
section
variable {X : Cx}
def rRepr (K : PySem.W.Frag) : List V → Hp → VK → Prop := fun xs H Q => ∃ (v : V) (d : PyData), xs = [v] ∧ Dp K H v d ∧ d.showable = true ∧ d.hasDict = false ∧ d.depth ≤ 60 ∧ d.shown.length ≤ sizeLine ∧ Q (.str d.shown) H
theorem call_reprD (ag : X.A.guards = some []) (hu : X.A.units + 64 < cLine) : CallR X (.builtin "repr") (rRepr X.K) := by
  intro pins s σ H xs us Q I r h
  obtain ⟨v, d, rfl, hd, sh, nd, dp, sz, q⟩ := h
  have deep : ∀ a : Addr, ∀ as, Reads s.heap (.ref a) d as → wpAny (model X.prog X.w) X.A (call (.builtin "repr") [.ref a]) (EP X pins σ Q) X.xe s := fun a as rd =>
    repr_of_reads' rd sh (fun z => by rw [nd] at z; cases z) ag (by omega) (fun _ _ e => e) (fun h' u tk k => ⟨.str d.shown, H, I.kept (t' := tk) k, ⟨u, rfl⟩, q⟩) sz
  cases r with
  | cons rv rr =>
    cases rr
    cases hd with
    | non =>
      cases rv
      exact PySem.P.repr_of_none ⟨.str _, H, I.tok _, ⟨_, rfl⟩, q⟩
    | bl b =>
      cases rv
      exact PySem.P.repr_of_bool ⟨.str _, H, I.tok _, ⟨_, rfl⟩, q⟩
    | int i =>
      obtain ⟨t, rfl⟩ := rv
      exact PySem.P.repr_of_int (of_decide_eq_true (by simpa [PyData.showable] using sh)) ⟨.str _, H, I.tok _, ⟨_, rfl⟩, q⟩
    | str x =>
      obtain ⟨t, rfl⟩ := rv
      exact PySem.P.repr_of_str ⟨.str _, H, I.tok _, ⟨_, rfl⟩, q⟩ sz
    | lst hs ha =>
      cases rv
      obtain ⟨as, rd⟩ := Dp.reads I _ _ _ (Dp.lst hs ha) rfl
      exact deep _ as rd
    | tup hs ha =>
      cases rv
      obtain ⟨as, rd⟩ := Dp.reads I _ _ _ (Dp.tup hs ha) rfl
      exact deep _ as rd
end
/-! ### data that is tracked throughout -/
mutual
inductive Da (H : Hp) : V → PyData → Prop
  | non : Da H .non .none
  | bl (b : Bool) : Da H (.bl b) (.bool b)
  | int (i : Int) : Da H (.int i) (.int i)
  | str (x : Str) : Da H (.str x) (.str x)
  | lst {a : Addr} {xs : List V} {ds : List PyData} : H a = some (.lst xs) → DaAll H xs ds → Da H (.ref a) (.list ds)
  | tup {a : Addr} {xs : List V} {ds : List PyData} : H a = some (.tup xs) → DaAll H xs ds → Da H (.ref a) (.tuple ds)
inductive DaAll (H : Hp) : List V → List PyData → Prop
  | nil : DaAll H [] []
  | cons {v : V} {vs : List V} {d : PyData} {ds : List PyData} : Da H v d → DaAll H vs ds → DaAll H (v :: vs) (d :: ds)
end
mutual
theorem Da.keep {H H' : Hp} (s : Same H H') : ∀ {d : PyData} {v : V}, Da H v d → Da H' v d
  | _, _, .non => .non
  | _, _, .bl b => .bl b
  | _, _, .int i => .int i
  | _, _, .str x => .str x
  | _, _, .lst h a => .lst (s _ _ h) (DaAll.keep s a)
  | _, _, .tup h a => .tup (s _ _ h) (DaAll.keep s a)
theorem DaAll.keep {H H' : Hp} (s : Same H H') : ∀ {ds : List PyData} {vs : List V}, DaAll H vs ds → DaAll H' vs ds
  | _, _, .nil => .nil
  | _, _, .cons h r => .cons (Da.keep s h) (DaAll.keep s r)
end
mutual
theorem Da.dp {K : PySem.W.Frag} {H : Hp} : ∀ {d : PyData} {v : V}, Da H v d → Dp K H v d
  | _, _, .non => .non
  | _, _, .bl b => .bl b
  | _, _, .int i => .int i
  | _, _, .str x => .str x
  | _, _, .lst h a => .lst (SqL.of h) (DaAll.dp a)
  | _, _, .tup h a => .tup (SqT.of h) (DaAll.dp a)
theorem DaAll.dp {K : PySem.W.Frag} {H : Hp} : ∀ {ds : List PyData} {vs : List V}, DaAll H vs ds → DpAll K H vs ds
  | _, _, .nil => .nil
  | _, _, .cons h r => .cons (Da.dp h) (DaAll.dp r)
end
theorem DaAll.length {H : Hp} : ∀ {ds : List PyData} {vs : List V}, DaAll H vs ds → vs.length = ds.length
  | _, _, .nil => rfl
  | _, _, .cons _ r => congrArg (· + 1) (DaAll.length r)
theorem DaAll.get {H : Hp} : ∀ {ds : List PyData} {vs : List V} {i : Nat} {v : V}, DaAll H vs ds → vs[i]? = some v → ∃ d, ds[i]? = some d ∧ Da H v d
  | _, _, i, v, .nil, h => by simp at h
  | _, _, 0, v, .cons a r, h => by
    cases h
    exact ⟨_, rfl, a⟩
  | _, _, i + 1, v, .cons a r, h => by
    obtain ⟨d, e, x⟩ := DaAll.get (i := i) r (by simpa using h)
    exact ⟨d, by simpa using e, x⟩
/-! ### written data -/
def litsN (f : Expr → Option PyData) : List Expr → Option (List PyData)
  | [] => some []
  | e :: es => match f e, litsN f es with
    | some d, some ds => some (d :: ds)
    | _, _ => none
def litN : Nat → Expr → Option PyData
  | 0, _ => none
  | n + 1, e => match e with
    | .Constant .none _ _ => some .none
    | .Constant (.bool b) _ _ => some (.bool b)
    | .Constant (.int i) _ _ => some (.int i)
    | .Constant (.str x) _ _ => some (.str x)
    | .UnaryOp .USub (.Constant (.int i) _ _) _ => some (.int (-i))
    | .List es _ => if es.length ≤ 1000 then (litsN (litN n) es).map .list else none
    | .Tuple es _ _ => if es.length ≤ 1000 then (litsN (litN n) es).map .tuple else none
    | _ => none
/-- the reading of written data -/
def tLit (d : PyData) : TE := fun _ H Q => ∀ (v : V) (H' : Hp), Same H H' → Da H' v d → Q v H'
def tLits (ds : List PyData) : TA := fun _ H Q => ∀ (vs : List V) (H' : Hp), Same H H' → DaAll H' vs ds → vs.length = ds.length → Q vs H'
theorem PE.le {X : Cx} {e : Expr} {t t' : TE} (h : PE X e t) (i : ∀ σ H Q, t' σ H Q → t σ H Q) : PE X e t' := ⟨fun pins s σ H Q I z => h.run pins s σ H Q I (i _ _ _ z)⟩
theorem PA.le {X : Cx} {es : List Expr} {t t' : TA} (h : PA X es t) (i : ∀ σ H Q, t' σ H Q → t σ H Q) : PA X es t' := ⟨fun p pins s σ H Q I z => h.run p pins s σ H Q I (i _ _ _ z)⟩
theorem litsN_len {f : Expr → Option PyData} : ∀ (es : List Expr) (ds : List PyData), litsN f es = some ds → ds.length = es.length
  | [], ds, h => by
    cases h
    rfl
  | e :: es, ds, h => by
    unfold litsN at h
    split at h
    · rename_i d ds' h1 h2
      cases h
      rw [List.length_cons, List.length_cons, litsN_len es ds' h2]
    · cases h
theorem lits_ok {X : Cx} {f : Expr → Option PyData} (hf : ∀ e d, f e = some d → PE X e (tLit d)) (hs : ∀ e d es, f e = some d → starEach (e :: es) X.env = (false, eval e X.env) :: starEach es X.env) :
    ∀ (es : List Expr) (ds : List PyData), litsN f es = some ds → PA X es (tLits ds)
  | [], ds, h => by
    cases h
    exact PA.le pa_nil fun σ H Q z => z [] H (fun _ _ e => e) .nil rfl
  | e :: es, ds, h => by
    unfold litsN at h
    split at h
    · rename_i d ds' h1 h2
      cases h
      exact PA.le (pa_cons (hf e d h1) (lits_ok hf hs es ds' h2) (hs e d es h1)) fun σ H Q z v H1 s1 p1 vs H2 s2 p2 l2 => z (v :: vs) H2 (s1.trans s2) (.cons (p1.keep s2) p2) (by rw [List.length_cons, List.length_cons, l2])
    · cases h
theorem lit_star {n : Nat} {e : Expr} {d : PyData} {es : List Expr} {env : Env} (h : litN n e = some d) : starEach (e :: es) env = (false, eval e env) :: starEach es env := by
  cases n with
  | zero => cases h
  | succ n => cases e <;> first | rfl | cases h
theorem lit_ok {X : Cx} : ∀ (n : Nat) (e : Expr) (d : PyData), litN n e = some d → PE X e (tLit d)
  | 0, _, _, h => by cases h
  | n + 1, e, d, h => by
    have small : ∀ m : Nat, m ≤ 1000 → m ≤ sizeLine := fun m hm => by
      rw [sizeLine_eq]
      omega
    unfold litN at h
    split at h
    · cases h
      exact PE.le pe_non fun σ H Q z => z _ H (fun _ _ e => e) .non
    · cases h
      exact PE.le pe_bl fun σ H Q z => z _ H (fun _ _ e => e) (.bl _)
    · cases h
      exact PE.le pe_int fun σ H Q z => z _ H (fun _ _ e => e) (.int _)
    · cases h
      exact PE.le pe_str fun σ H Q z => z _ H (fun _ _ e => e) (.str _)
    · cases h
      exact PE.le (pe_un un_neg pe_int) fun σ H Q z => ⟨_, rfl, z _ H (fun _ _ e => e) (.int _)⟩
    · rename_i es p
      split at h
      · rename_i hl
        cases q : litsN (litN n) es with
        | none =>
          rw [q] at h
          cases h
        | some ds =>
          rw [q] at h
          cases h
          exact PE.le (pe_lst (lits_ok (lit_ok n) (fun _ _ _ => lit_star) es ds q)) fun σ H Q z vs H1 s1 p1 l1 => ⟨by rw [l1, litsN_len _ _ q]; exact small _ hl, fun p np =>
            z _ _ (s1.trans (same_new np)) (.lst (upd_same) (p1.keep (same_new np)))⟩
      · cases h
    · rename_i es k p
      split at h
      · rename_i hl
        cases q : litsN (litN n) es with
        | none =>
          rw [q] at h
          cases h
        | some ds =>
          rw [q] at h
          cases h
          exact PE.le (pe_tup (lits_ok (lit_ok n) (fun _ _ _ => lit_star) es ds q)) fun σ H Q z vs H1 s1 p1 l1 => ⟨by rw [l1, litsN_len _ _ q]; exact small _ hl, fun p np =>
            z _ _ (s1.trans (same_new np)) (.tup (upd_same) (p1.keep (same_new np)))⟩
      · cases h
    · cases h
theorem pe_lit {X : Cx} (n : Nat) {e : Expr} {d : PyData} (h : litN n e = some d) : PE X e (tLit d) := lit_ok n e d h
end XV
set_option Elab.async false
set_option linter.all false
set_option maxRecDepth 100000
set_option maxHeartbeats 4000000
/-! raise C(e), C an error class with one field. -/
namespace XV
open PySem PySem.Spec PyProof.Rows L2
theorem XCls.binds {P : Program} {w : World} {K : PySem.W.Frag} {mg : Str → Option Value} {base : Heap} {nm fld : Str} {C fI : Addr} {fd : FuncData} (T : XCls P w K mg base nm fld C fI fd) : Binds K fd ["self", fld] [] := fun s us X hl => by
  rw [List.append_nil] at hl ⊢
  match us, hl with
  | [x, u], _ => exact T.b1 s x u X
/-- a reading that may be weakened -/
def tMono (te : TE) : TE := fun σ H Q => ∃ q : VK, te σ H q ∧ ∀ v H', q v H' → Q v H'
theorem pe_mono {X : Cx} {e : Expr} {te : TE} (he : PE X e te) : PE X e (tMono te) := ⟨fun pins s σ H Q I h => by
  obtain ⟨q, h, i⟩ := h
  exact thn (he.run pins s σ H q I h) fun u s1 ⟨v, H1, I1, r, z⟩ => ⟨v, H1, I1, r, i v H1 z⟩⟩
section
variable {X : Cx} {nm fld : Str} {C fI : Addr} {fd : FuncData} {e : Expr} {te : TE} {p pos pos2 : Pos}
theorem pmk_x (T : XCls X.prog X.w X.K X.mg X.base nm fld C fI fd) (hr : Room 2 X.A) (hg : Gl X nm) (he : PE X e te) (hdb : (nm == ("__debug__" : Str)) = false := by decide)
    (hs : starEach (e :: []) X.env = (false, eval e X.env) :: starEach [] X.env := by rfl) (hpl : (backTo pos (starEach [] X.env)).any (·.1) = false := by rfl) :
    PMk X (.Call (.Name nm p) [e] [] pos) (fun σ H Q => te σ H fun v H1 => ∀ d, H1 d = none → Q (.ref C) (some d) (upd H1 d (.xd [(fld, v)]))) := by
  have low := pmk_oex (X := X) (p := p) (pos := pos) T.ox T.iC T.tI T.ini hr T.binds .nil pass0 hg T.g (pa_cons (pe_mono he) pa_nil hs) hdb hs hpl
  intro pins s σ H Q I h
  refine low pins s σ H Q I ⟨_, h, fun v H1 q => ⟨(by show 1 ≤ 1000; decide), fun a na => ⟨a, v, rfl, upd_same, fun d nd ne => ⟨rfl, d, [(fld, v)], upd_same, ?_, ?_, ?_⟩⟩⟩⟩
  · rw [upd_ne ne, upd_same]
  · rw [upd_ne ne] at nd
    exact nd
  · rw [upd_ne ne] at nd
    have e1 : upd (del (upd (upd (upd H1 a (exo a C none)) d (exd d [(fld, v)])) a (exo a C (some d))) a) d (.xd [(fld, v)]) = upd H1 d (.xd [(fld, v)]) := by
      funext b
      by_cases q1 : b = d
      · rw [q1, upd_same, upd_same]
      · rw [upd_ne q1, upd_ne q1]
        by_cases q2 : b = a
        · rw [q2, del_same, na]
        · rw [del_ne q2, upd_ne q2, upd_ne q1, upd_ne q2]
    rw [e1]
    exact q d nd
theorem ps_raiseX {W : WX} (hc : X.calm = true) (T : XCls X.prog X.w X.K X.mg X.base nm fld C fI fd) (hr : Room 2 X.A) (tk : Takes X W) (hg : Gl X nm) (he : PE X e te) (hdb : (nm == ("__debug__" : Str)) = false := by decide)
    (hs : starEach (e :: []) X.env = (false, eval e X.env) :: starEach [] X.env := by rfl) (hpl : (backTo pos (starEach [] X.env)).any (·.1) = false := by rfl) :
    PS X (.Raise (some (.Call (.Name nm p) [e] [] pos)) none pos2) (fun _ σ H => te σ H fun v H1 => ∀ d, H1 d = none → W (.ref C) (some d) σ (upd H1 d (.xd [(fld, v)]))) :=
  ps_raise hc tk (pmk_x T hr hg he hdb hs hpl)
end
/-- the module's name x is a def that keeps sp and may raise -/
structure OkX (P : Program) (w : World) (K : PySem.W.Frag) (mg : Str → Option Value) (base : Heap) (x : Str) (k : Nat) (ps : List Str) (sp : Sp) : Prop where
  ex : ∃ f fd, FnOk P w K mg base (L2.CX P w) k f fd ps sp ∧ mg x = some (.ref f) ∧ PySem.W.keepIn K (.ref f) = true ∧ Binds K fd ps []
theorem OkX.mk' {P : Program} {w : World} {K : PySem.W.Frag} {mg : Str → Option Value} {base : Heap} {x : Str} {k : Nat} {ps : List Str} {sp : Sp} {body : List Stmt} {params : Arguments} {scope : Scope} {f : Addr} {fd : FuncData}
    (F : FunD K x x params body scope [] [] f fd) (g : mg x = some (.ref f)) (b : ∀ (kV doc pm : Value) (an : Option Addr) (cdv ct : Value) (us : List Value), us.length = ps.length → bindArgs (PySem.W.fnOf x x params body scope .none kV doc pm an cdv ct) ⟨us, []⟩ = pure (ps.zip us))
    (ok : FnOk P w K mg base (L2.CX P w) k f fd ps sp) : OkX P w K mg base x k ps sp := ⟨f, fd, ok, g, F.kp, F.bindsN b⟩
section
variable {X : Cx} {k : Nat} {ps : List Str} {sp : Sp} {x : Str} {e : Expr} {es : List Expr} {t : TA} {p pos : Pos} {E : XK} {W : WX}
/-- a call within a def that lets out what the callee lets out -/
theorem pe_callX (o : OkX X.prog X.w X.K X.mg X.base x k ps sp) (tk : Takes X fun cls d _ H => E cls d H) (hr : Room k X.A) (hg : Gl X x) (ha : PA X (e :: es) t) (hdb : (x == ("__debug__" : Str)) = false := by decide)
    (he : starEach (e :: es) X.env = (false, eval e X.env) :: starEach es X.env := by rfl) (hpl : (backTo pos (starEach es X.env)).any (·.1) = false := by rfl) :
    PE X (.Call (.Name x p) (e :: es) [] pos) (tCall sp [] E t) := by
  obtain ⟨f, fd, F, hm, hk, b⟩ := o.ex
  exact pe_call F hr hg hm hk b .nil (passes_call tk fun _ _ _ _ h => h) ha hdb he hpl
/-- a call within a try -/
theorem pe_callT (o : OkX X.prog X.w X.K X.mg X.base x k ps sp) (tk : Takes X W) (hr : Room k X.A) (hg : Gl X x) (ha : PA X (e :: es) t) (hdb : (x == ("__debug__" : Str)) = false := by decide)
    (he : starEach (e :: es) X.env = (false, eval e X.env) :: starEach es X.env := by rfl) (hpl : (backTo pos (starEach es X.env)).any (·.1) = false := by rfl) :
    PE X (.Call (.Name x p) (e :: es) [] pos) (tCallS sp (WE W) t) := by
  obtain ⟨f, fd, F, hm, hk, b⟩ := o.ex
  exact pe_callS F hr hg hm hk b (fun σ => passAt tk σ) ha hdb he hpl
end
end XV
set_option Elab.async false
set_option linter.all false
set_option maxRecDepth 100000
set_option maxHeartbeats 4000000
/-! f(k = v, ..), all by keywords, the names in the parameters' order turned round. -/
namespace XV
open PySem PySem.Spec PyProof.Rows L2
theorem vals_rev : ∀ {vs : List V} {us : List Value}, Vals vs us → Vals vs.reverse us.reverse
  | _, _, .nil => .nil
  | _, _, .cons r rr => by
    rw [List.reverse_cons, List.reverse_cons]
    exact (vals_rev rr).append (.cons r .nil)
structure OkK (P : Program) (w : World) (K : PySem.W.Frag) (mg : Str → Option Value) (base : Heap) (x : Str) (k : Nat) (ps : List Str) (sp : Sp) : Prop where
  ex : ∃ f fd, FnOk P w K mg base CX0 k f fd ps sp ∧ mg x = some (.ref f) ∧ PySem.W.keepIn K (.ref f) = true ∧ KBn K fd ps 0 ps.reverse (fun _ ws => ws.reverse) (fun _ zs => zs.reverse)
theorem OkK.mk' {P : Program} {w : World} {K : PySem.W.Frag} {mg : Str → Option Value} {base : Heap} {x : Str} {k : Nat} {ps : List Str} {sp : Sp} {body : List Stmt} {params : Arguments} {scope : Scope} {f : Addr} {fd : FuncData}
    (F : FunD K x x params body scope [] [] f fd) (g : mg x = some (.ref f)) (b : ∀ (kV doc pm : Value) (an : Option Addr) (cdv ct : Value) (ws : List Value), ws.length = ps.length → bindArgs (PySem.W.fnOf x x params body scope .none kV doc pm an cdv ct) ⟨[], ps.reverse.zip ws⟩ = pure (ps.zip ws.reverse))
    (ok : FnOk P w K mg base CX0 k f fd ps sp) : OkK P w K mg base x k ps sp := by
  refine ⟨f, fd, ok, g, F.kp, ⟨fun s us ws _ l1 l2 => ?_, fun _ r => vals_rev r⟩⟩
  obtain ⟨oc, od, dV, kV, doc, pm, an, cdv, ct, osl, rfl, lk, hcd, hD, hK⟩ := F.ex
  rcases hD with ⟨_, rfl⟩ | ⟨e, _⟩
  · obtain rfl := List.length_eq_zero_iff.mp l1
    exact .of_eq (b kV doc pm an cdv ct ws (by rw [l2, List.length_reverse]))
  · exact absurd rfl e
section
variable {X : Cx} {k : Nat} {ps : List Str} {sp : Sp} {x : Str} {kws : List Keyword} {tk : TA} {p pos : Pos}
theorem pe_callK (o : OkK X.prog X.w X.K X.mg X.base x k ps sp) (hr : Room k X.A) (hg : Gl X x) (hk : PK X kws tk) (hdb : (x == ("__debug__" : Str)) = false := by decide)
    (hall : (backToKw pos (keywordEach kws X.env)).all (·.1.isSome) = true := by rfl) (hks : (backToKw pos (keywordEach kws X.env)).filterMap (·.1) = ps.reverse := by rfl)
    (hpl : ((backTo pos (starEach [] X.env)).any (·.1) || (backToKw pos (keywordEach kws X.env)).any (·.1.isNone)) = false := by rfl) :
    PE X (.Call (.Name x p) [] kws pos) (fun σ H Q => tk σ H fun zs H1 => zs.length = ps.reverse.length ∧ sp zs.reverse H1 Q E0) := by
  obtain ⟨f, fd, F, hm, kp, B⟩ := o.ex
  refine ⟨fun pins s σ H Q I h => ?_⟩
  refine wpAny_Call_Name_kw (ld_glob I hg hm ?_ hdb)
  refine PySem.W.callWith_KW0 (h₀ := X.base) I.ok.mod.kin kp hall (thn (hk.run pos pins s σ H _ I h) fun ws s1 z => ?_) hpl
  obtain ⟨zs, H1, I1, r, l, q⟩ := z
  refine ⟨I1.kIn, ?_⟩
  rw [hks]
  exact run_fnN (us := []) (vs := []) F hr B pass0 I1 .nil r rfl l q
end
end XV
set_option Elab.async false
set_option linter.all false
set_option maxRecDepth 100000
set_option maxHeartbeats 4000000
/-! lcm; == by an own __eq__ of an instance with a dict, whatever stands on the right; defs that may raise where they don't; keywords in order; != of lists that end in the same object. -/
namespace XV
open PySem PySem.Spec PyProof.Rows L2
section
variable {X : Cx}
def rLcm : List V → Hp → VK → Prop := fun vs H Q => ∃ a b : Int, vs = [.int a, .int b] ∧ a.natAbs < 2 ^ 64 ∧ b.natAbs < 2 ^ 64 ∧ Q (.int ((Nat.lcm a.natAbs b.natAbs : Nat) : Int)) H
theorem cr_lcm : CallR X (.builtin "math.lcm") rLcm := by
  intro pins s σ H vs us Q I r h
  obtain ⟨a, b, rfl, ha, hb, q⟩ := h
  obtain ⟨t, u, rfl⟩ := Vals.int2 r
  exact PySem.W.mc_lcm ha hb fun _ => ⟨.int _, H, I.tok _, ⟨_, rfl⟩, q⟩
end
section
variable {X : Cx} {CX : CXT} {C g : Addr} {n : Nat} {fd : FuncData} {ps : List Str} {sp : Sp} {E : XK}
/-- x == y, x an instance of the class at C whose __eq__ is at g -/
def rOwnE (K : PySem.W.Frag) (C : Addr) (sp : Sp) (E : XK) : R2 := fun x y H Q => ∃ a dx fs t, x = .ref a ∧ H a = some (.ins C dx fs) ∧ TyX K H y t ∧ PySem.W.notFirst K C t = true ∧ sp [x, y] H Q E
theorem op_ownE (hs : PySem.W.findIn X.K (.ref C) "__eq__" = some (some (.ref g))) (hf : PySem.W.isFn X.K (.ref g) = true) (F : FnOk X.prog X.w X.K X.mg X.base CX n g fd ps sp) (hr : Room n X.A) (hb : Binds X.K fd ps []) (hx : Passes CX X E) :
    OpR X (compareOp .Eq) (rOwnE X.K C sp E) := by
  intro pins s σ H x y v u Q I rx ry h
  obtain ⟨a, dx, fs, t, rfl, ha, hy, hn, q⟩ := h
  cases (show v = Value.ref a from rx)
  obtain ⟨mA, J, _⟩ := ins_get I.hok ha
  obtain ⟨od, J, _⟩ := J.look
  obtain ⟨P, Z, p, _⟩ := kit_of I ry hy
  obtain ⟨m, hF⟩ := I.fr
  show wpAny (model X.prog X.w) X.A (richCompare .Eq (.ref a) u) (EP X pins σ Q) X.xe s
  refine PySem.W.cmp_K (op := .Eq) (tb := t) hr.units0 hF I.ok.mod.kin J (Z.ty _ _ I.kIn p) hn hs hf ?_
  refine wpAny_mono (run_fn (us := [.ref a, u]) (vs := [.ref a, y]) F hr hb .nil hx I (.cons rfl (.cons ry .nil)) (by rw [List.append_nil]; exact q)) (fun w s' z => ?_) fun _ _ x => x
  obtain ⟨z', H', I', rz, qz⟩ := z
  exact SlX.cmpback rz ⟨z', H', I', rz, qz⟩
end
/-- a def that may raise, where it doesn't -/
theorem FnOk.calm {P : Program} {w : World} {K : PySem.W.Frag} {mg : Str → Option Value} {base : Heap} {k : Nat} {f : Addr} {fd : FuncData} {ps : List Str} {sp : Sp} (F : FnOk P w K mg base (L2.CX P w) k f fd ps sp) :
    FnOk P w K mg base CX0 k f fd ps (fun vs H Q _ => sp vs H Q fun _ _ _ => False) :=
  ⟨fun vs H Q _ h => F.len vs H Q _ h, fun A outer s H args us vs Q E hr he hb hv hs => codeAny_mono (F.run A outer s H args us vs Q (fun _ _ _ => False) hr he hb hv hs) fun r s' h => by
    cases r with
    | error e =>
      obtain ⟨_, _, _, _, _, _, _, _, _, _, _, _, z⟩ := (show L2.CX P w outer H s (fun _ _ _ => False) e s' from h)
      exact z.elim
    | ok fl => cases fl <;> exact h⟩
abbrev cm (sp : Sp) : Sp := fun vs H Q _ => sp vs H Q fun _ _ _ => False
theorem OkX.calm {P : Program} {w : World} {K : PySem.W.Frag} {mg : Str → Option Value} {base : Heap} {x : Str} {k : Nat} {ps : List Str} {sp : Sp} (o : OkX P w K mg base x k ps sp) : Ok P w K mg base x k ps (cm sp) := by
  obtain ⟨f, fd, F, h1, h2, h3⟩ := o.ex
  exact ⟨f, fd, FnOk.calm F, h1, h2, h3⟩
/-! keywords in the parameters' order -/
structure OkF (P : Program) (w : World) (K : PySem.W.Frag) (mg : Str → Option Value) (base : Heap) (x : Str) (k : Nat) (ps : List Str) (sp : Sp) : Prop where
  ex : ∃ f fd, FnOk P w K mg base CX0 k f fd ps sp ∧ mg x = some (.ref f) ∧ PySem.W.keepIn K (.ref f) = true ∧ KBn K fd ps 0 ps (fun _ ws => ws) (fun _ zs => zs)
theorem OkF.mk' {P : Program} {w : World} {K : PySem.W.Frag} {mg : Str → Option Value} {base : Heap} {x : Str} {k : Nat} {ps : List Str} {sp : Sp} {body : List Stmt} {params : Arguments} {scope : Scope} {f : Addr} {fd : FuncData}
    (F : FunD K x x params body scope [] [] f fd) (g : mg x = some (.ref f)) (b : ∀ (kV doc pm : Value) (an : Option Addr) (cdv ct : Value) (ws : List Value), ws.length = ps.length → bindArgs (PySem.W.fnOf x x params body scope .none kV doc pm an cdv ct) ⟨[], ps.zip ws⟩ = pure (ps.zip ws))
    (ok : FnOk P w K mg base CX0 k f fd ps sp) : OkF P w K mg base x k ps sp := by
  refine ⟨f, fd, ok, g, F.kp, ⟨fun s us ws _ l1 l2 => ?_, fun _ r => r⟩⟩
  obtain ⟨oc, od, dV, kV, doc, pm, an, cdv, ct, osl, rfl, lk, hcd, hD, hK⟩ := F.ex
  rcases hD with ⟨_, rfl⟩ | ⟨e, _⟩
  · obtain rfl := List.length_eq_zero_iff.mp l1
    exact .of_eq (b kV doc pm an cdv ct ws l2)
  · exact absurd rfl e
section
variable {X : Cx} {k : Nat} {ps : List Str} {sp : Sp} {x : Str} {kws : List Keyword} {tk : TA} {p pos : Pos}
theorem pe_callF (o : OkF X.prog X.w X.K X.mg X.base x k ps sp) (hr : Room k X.A) (hg : Gl X x) (hk : PK X kws tk) (hdb : (x == ("__debug__" : Str)) = false := by decide)
    (hall : (backToKw pos (keywordEach kws X.env)).all (·.1.isSome) = true := by rfl) (hks : (backToKw pos (keywordEach kws X.env)).filterMap (·.1) = ps := by rfl)
    (hpl : ((backTo pos (starEach [] X.env)).any (·.1) || (backToKw pos (keywordEach kws X.env)).any (·.1.isNone)) = false := by rfl) :
    PE X (.Call (.Name x p) [] kws pos) (fun σ H Q => tk σ H fun zs H1 => zs.length = ps.length ∧ sp zs H1 Q E0) := by
  obtain ⟨f, fd, F, hm, kp, B⟩ := o.ex
  refine ⟨fun pins s σ H Q I h => ?_⟩
  refine wpAny_Call_Name_kw (ld_glob I hg hm ?_ hdb)
  refine PySem.W.callWith_KW0 (h₀ := X.base) I.ok.mod.kin kp hall (thn (hk.run pos pins s σ H _ I h) fun ws s1 z => ?_) hpl
  obtain ⟨zs, H1, I1, r, l, q⟩ := z
  refine ⟨I1.kIn, ?_⟩
  rw [hks]
  exact run_fnN (us := []) (vs := []) F hr B pass0 I1 .nil r rfl l q
end
section
variable {X : Cx}
/-- [v, g] != [w, g], g the same object -/
def rNeI (K : PySem.W.Frag) : R2 := fun x y H Q => ∃ (a b : Addr) (v w z : V) (d e : PyData), x = .ref a ∧ y = .ref b ∧ H a = some (.lst [v, z]) ∧ H b = some (.lst [w, z]) ∧ (∃ g, z = .ref g) ∧ Dp K H v d ∧ Dp K H w e ∧ SeqAt.shaped d = true ∧ SeqAt.shaped e = true ∧ Q (.bl (!(PyData.eqv d e))) H
theorem op_neI (hu : X.A.units + 66 < cLine) : OpR X (compareOp .NotEq) (rNeI X.K) := by
  intro pins s σ H x y v u Q I rx ry h
  obtain ⟨a, b, v1, w1, z, d, e, rfl, rfl, ha, hb, ⟨g, rfl⟩, hd, he, sd, se, q⟩ := h
  cases (show v = Value.ref a from rx)
  cases (show u = Value.ref b from ry)
  obtain ⟨_, its, n, r, h1⟩ := (show ObjOk X.prog X.w H s.heap a (.lst [v1, .ref g]) from I.hok a _ ha)
  obtain ⟨_, its2, n2, r2, h2⟩ := (show ObjOk X.prog X.w H s.heap b (.lst [w1, .ref g]) from I.hok b _ hb)
  obtain ⟨u1, u2, rfl, rv, rg⟩ := vals2 r
  obtain ⟨u3, u4, rfl, rw1, rg2⟩ := vals2 r2
  cases (show u2 = Value.ref g from rg)
  cases (show u4 = Value.ref g from rg2)
  obtain ⟨as, r3⟩ := Dp.reads I d v1 u1 hd rv
  obtain ⟨bs, r4⟩ := Dp.reads I e w1 u3 he rw1
  have hl : s.heap.IsList a ([u1, Value.ref g].toArray) := ⟨_, h1, rfl, _, rfl⟩
  have hl2 : s.heap.IsList b ([u3, Value.ref g].toArray) := ⟨_, h2, rfl, _, rfl⟩
  have key := SeqAt.RcNeAt.lists (A := X.A) (e := fun j => if j = 0 then PyData.eqv d e else true) hl hl2 rfl (by omega) (fun j j1 j2 => by
    match j, j1, j2 with
    | 0, _, _ =>
      refine SeqAt.eqAt_reads d e X.A.in1 s u1 u3 as bs r3 r4 (SeqAt.canLay_of_shaped sd) (SeqAt.canLay_of_shaped se) (SeqAt.room_of_shaped sd ?_)
      show X.A.units + 1 + 64 < cLine
      omega
    | 1, _, _ => exact SeqAt.EqAt.same _
    | j + 2, j1, _ => exact absurd j1 (by show ¬ (j + 2 < 2); omega))
  show wpAny (model X.prog X.w) X.A (richCompare .NotEq (.ref a) (.ref b)) (EP X pins σ Q) X.xe s
  have e1 : (!(List.range ([u1, Value.ref g].toArray).size).all fun j => if j = 0 then PyData.eqv d e else true) = !(PyData.eqv d e) := by
    show (!((if (0 : Nat) = 0 then PyData.eqv d e else true) && ((if (1 : Nat) = 0 then PyData.eqv d e else true) && true))) = _
    rw [if_pos rfl, if_neg (by decide)]
    cases PyData.eqv d e <;> rfl
  rw [e1] at key
  exact key X.prog X.w _ _ ⟨.bl _, H, I, rfl, q⟩
end
end XV
set_option Elab.async false
set_option linter.all false
set_option maxRecDepth 100000
set_option maxHeartbeats 4000000
/-! The normal list of a normal list, and of two put together: of lists, no program. -/
namespace N5
open NP
section
variable {α : Type} [DecidableEq α] {E : Type}
/-- the letter of r, taken without end to the left, that stands k places from the end -/
def lt (r : List α) (k : Nat) : Option α := r[r.length - 1 - k % r.length]?
/-- how many letters of a text, written from behind, go on as r does from place k on -/
def ce (r : List α) : List α → Nat → Nat
  | [], _ => 0
  | a :: t, k => if lt r k = some a then 1 + ce r t (k + 1) else 0
theorem ce_cons (r : List α) (a : α) (t : List α) (k : Nat) : ce r (a :: t) k = if lt r k = some a then 1 + ce r t (k + 1) else 0 := rfl
theorem ce_le (r : List α) : ∀ (x : List α) (k : Nat), ce r x k ≤ x.length
  | [], _ => Nat.le_refl 0
  | a :: t, k => by
    unfold ce
    have := ce_le r t (k + 1)
    split
    · rw [List.length_cons]; omega
    · omega
theorem ce_app (r : List α) : ∀ (x y : List α) (k : Nat), ce r (x ++ y) k = if ce r x k < x.length then ce r x k else x.length + ce r y (k + x.length)
  | [], y, k => by simp [ce]
  | a :: t, y, k => by
    have ih := ce_app r t y (k + 1)
    rw [List.cons_append, ce_cons, ce_cons]
    by_cases c : lt r k = some a
    · rw [if_pos c, if_pos c, ih, List.length_cons]
      rw [show k + (t.length + 1) = k + 1 + t.length by omega]
      by_cases d : ce r t (k + 1) < t.length
      · rw [if_pos d, if_pos (by omega)]
      · rw [if_neg d, if_neg (by omega)]; omega
    · rw [if_neg c, if_neg c, if_pos (by rw [List.length_cons]; omega)]
theorem ce_stop (r : List α) : ∀ (x y : List α) (k : Nat), ce r x k < x.length → ce r (x.drop (ce r x k) ++ y) (k + ce r x k) = 0
  | [], y, k, h => by simp at h
  | a :: t, y, k, h => by
    have e : ce r (a :: t) k = if lt r k = some a then 1 + ce r t (k + 1) else 0 := rfl
    by_cases c : lt r k = some a
    · rw [if_pos c] at e
      rw [e] at h ⊢
      rw [List.length_cons] at h
      have ih := ce_stop r t y (k + 1) (by omega)
      rw [Nat.add_comm 1, List.drop_succ_cons, show k + (ce r t (k + 1) + 1) = k + 1 + ce r t (k + 1) by omega]
      exact ih
    · rw [if_neg c] at e
      rw [e, List.drop_zero, Nat.add_zero, List.cons_append]
      unfold ce
      rw [if_neg c]
theorem ce_full (r : List α) : ∀ (x : List α) (k : Nat), ce r (x.take (ce r x k)) k = ce r x k
  | [], k => rfl
  | a :: t, k => by
    have e : ce r (a :: t) k = if lt r k = some a then 1 + ce r t (k + 1) else 0 := rfl
    by_cases c : lt r k = some a
    · rw [if_pos c] at e
      rw [e, Nat.add_comm 1, List.take_succ_cons]
      show (if lt r k = some a then 1 + ce r (t.take (ce r t (k + 1))) (k + 1) else 0) = _
      rw [if_pos c, ce_full r t (k + 1), Nat.add_comm]
    · rw [if_neg c] at e
      rw [e]
      rfl
/-- r turned by p letters, however many -/
def tn (r : List α) (p : Nat) : List α := turnW r (p % r.length)
theorem tn_len (r : List α) (p : Nat) : (tn r p).length = r.length := by
  unfold tn turnW
  rw [List.length_append, List.length_drop, List.length_take]
  by_cases c : r.length = 0
  · omega
  · have := Nat.mod_lt p (by omega : r.length > 0)
    omega
theorem tn_lt (r : List α) (p k : Nat) : lt (tn r p) k = lt r (k + p) := by
  unfold lt
  rw [tn_len]
  by_cases z : r.length = 0
  · have e : r = [] := List.length_eq_zero_iff.mp z
    subst e
    have e2 : tn ([] : List α) p = [] := List.length_eq_zero_iff.mp (tn_len [] p)
    rw [e2]
    rfl
  have pos : r.length > 0 := by omega
  have hk := Nat.mod_lt k pos
  have hp := Nat.mod_lt p pos
  have hs : (k + p) % r.length = if k % r.length + p % r.length < r.length then k % r.length + p % r.length else k % r.length + p % r.length - r.length := by
    rw [Nat.add_mod]
    by_cases c : k % r.length + p % r.length < r.length
    · rw [if_pos c, Nat.mod_eq_of_lt c]
    · rw [if_neg c, Nat.mod_eq_sub_mod (by omega), Nat.mod_eq_of_lt (by omega)]
  rw [hs]
  unfold tn turnW
  have ld : (r.drop (r.length - p % r.length)).length = p % r.length := by rw [List.length_drop]; omega
  by_cases c : k % r.length + p % r.length < r.length
  · rw [if_pos c, List.getElem?_append_right (by omega), ld, List.getElem?_take, if_pos (by omega)]
    congr 1
    omega
  · rw [if_neg c, List.getElem?_append_left (by omega), List.getElem?_drop]
    congr 1
    omega
theorem ce_tn (r : List α) (p : Nat) : ∀ (x : List α) (k : Nat), ce (tn r p) x k = ce r x (k + p)
  | [], k => rfl
  | a :: t, k => by
    unfold ce
    rw [tn_lt, ce_tn r p t (k + 1), show k + 1 + p = k + p + 1 by omega]
theorem lt_ext {r s : List α} (hl : r.length = s.length) (h : ∀ k, lt r k = lt s k) : r = s := by
  apply List.ext_getElem?
  intro i
  by_cases c : i < r.length
  · have e := h (r.length - 1 - i)
    unfold lt at e
    rw [← hl, Nat.mod_eq_of_lt (by omega), show r.length - 1 - (r.length - 1 - i) = i by omega] at e
    exact e
  · rw [List.getElem?_eq_none (by omega), List.getElem?_eq_none (by omega)]
theorem tn_tn (r : List α) (p q : Nat) : tn (tn r p) q = tn r (p + q) := lt_ext (by rw [tn_len, tn_len, tn_len]) fun k => by
  rw [tn_lt, tn_lt, tn_lt, show k + q + p = k + (p + q) by omega]
theorem tn_zero (r : List α) : tn r 0 = r := lt_ext (tn_len r 0) fun k => tn_lt r 0 k
/-! ### the steps -/
inductive It (α E : Type) where
  | fix (w : List α)
  | pow (r : List α) (v : E)
def addF (d : List (It α E)) (w : List α) : List (It α E) := if w = [] then d else d ++ [It.fix w]
/-- a power put behind: together with the last one, if that takes the same word -/
def addP (plus : E → E → E) (d : List (It α E)) (r : List α) (v : E) : List (It α E) := match d.getLast? with
  | some (.pow s u) => if s = r then d.dropLast ++ [.pow r (plus u v)] else d ++ [.pow r v]
  | _ => d ++ [.pow r v]
/-- how long the common end is -/
def cend (f r : List α) : Nat := ce r f.reverse 0
def step (plus : E → E → E) (st : List (It α E) × List α) : It α E → List (It α E) × List α
  | .fix w => (st.1, st.2 ++ w)
  | .pow r v => (addP plus (addF st.1 (st.2.take (st.2.length - cend st.2 r))) (tn r (cend st.2 r)) v, st.2.drop (st.2.length - cend st.2 r))
def P (plus : E → E → E) (b : List (It α E)) (st : List (It α E) × List α) : List (It α E) × List α := b.foldl (step plus) st
def norm (plus : E → E → E) (b : List (It α E)) : List (It α E) := addF (P plus b ([], [])).1 (P plus b ([], [])).2
theorem P_app (plus : E → E → E) (a b : List (It α E)) (st : List (It α E) × List α) : P plus (a ++ b) st = P plus b (P plus a st) := List.foldl_append
theorem P_one (plus : E → E → E) (x : It α E) (st : List (It α E) × List α) : P plus [x] st = step plus st x := rfl
theorem addP_snoc (plus : E → E → E) (d : List (It α E)) (r : List α) (u v : E) : addP plus (d ++ [.pow r u]) r v = d ++ [.pow r (plus u v)] := by
  unfold addP
  rw [List.getLast?_concat]
  simp
theorem addP_fix (plus : E → E → E) (d : List (It α E)) (w r : List α) (v : E) : addP plus (d ++ [.fix w]) r v = d ++ [.fix w] ++ [.pow r v] := by
  unfold addP
  rw [List.getLast?_concat]
/-- either it is put behind, or it joins the last one -/
theorem addP_or (plus : E → E → E) (d : List (It α E)) (r : List α) (v : E) : addP plus d r v = d ++ [.pow r v] ∨ ∃ d0 u, d = d0 ++ [.pow r u] ∧ addP plus d r v = d0 ++ [.pow r (plus u v)] := by
  rcases List.eq_nil_or_concat d with e | ⟨d0, x, e⟩
  · subst e
    exact Or.inl rfl
  · subst e
    rw [List.concat_eq_append]
    cases x with
    | fix w => exact Or.inl (addP_fix plus d0 w r v)
    | pow s u =>
      by_cases c : s = r
      · subst c
        exact Or.inr ⟨d0, u, rfl, addP_snoc plus d0 s u v⟩
      · refine Or.inl ?_
        unfold addP
        rw [List.getLast?_concat]
        simp [c]
theorem addP_addP {plus : E → E → E} (assoc : ∀ a b c, plus (plus a b) c = plus a (plus b c)) (d : List (It α E)) (r : List α) (u v : E) : addP plus (addP plus d r u) r v = addP plus d r (plus u v) := by
  rcases addP_or plus d r u with e | ⟨d0, w, e1, e2⟩
  · rw [e, addP_snoc]
    rcases addP_or plus d r (plus u v) with f | ⟨d0, w, e1, e2⟩
    · rw [f]
    · exfalso
      rw [e1, addP_snoc] at e
      have := congrArg List.length e
      simp at this
  · rw [e2, addP_snoc, e1, addP_snoc, assoc]
theorem rev_take (f : List α) (n : Nat) : (f.take n).reverse = f.reverse.drop (f.length - n) := by
  rw [List.reverse_take]
theorem rev_drop (f : List α) (n : Nat) : (f.drop n).reverse = f.reverse.take (f.length - n) := by
  rw [List.reverse_drop]
theorem cend_le (f r : List α) : cend f r ≤ f.length := by
  have := ce_le r f.reverse 0
  rw [List.length_reverse] at this
  exact this
/-- the common end stops within the second part, or goes on in the first -/
theorem cend_app (g f r : List α) : cend (g ++ f) r = if cend f r < f.length then cend f r else f.length + cend g (tn r f.length) := by
  unfold cend
  rw [List.reverse_append, ce_app, List.length_reverse, ce_tn]
theorem cend_stop (g f r : List α) (h : cend f r < f.length) : cend (g ++ f.take (f.length - cend f r)) (tn r (cend f r)) = 0 := by
  have z := ce_stop r f.reverse g.reverse 0 (by rw [List.length_reverse]; exact h)
  have l := cend_le f r
  unfold cend at l h ⊢
  rw [List.reverse_append, rev_take, ce_tn, show f.length - (f.length - ce r f.reverse 0) = ce r f.reverse 0 by omega]
  exact z
theorem cend_full (f r : List α) : cend (f.drop (f.length - cend f r)) r = cend f r := by
  have z := ce_full r f.reverse 0
  have l := cend_le f r
  unfold cend at l ⊢
  rw [rev_drop, show f.length - (f.length - ce r f.reverse 0) = ce r f.reverse 0 by omega]
  exact z
/-- what the pieces do to any state, their normal pieces do, and then what is fixed stands behind -/
theorem P_norm {plus : E → E → E} (assoc : ∀ a b c, plus (plus a b) c = plus a (plus b c)) (b : List (It α E)) : ∀ st, ∃ D g, P plus (P plus b ([], [])).1 st = (D, g) ∧ P plus b st = (D, g ++ (P plus b ([], [])).2) := by
  suffices ∀ (b' b : List (It α E)), b' = b.reverse → ∀ st, ∃ D g, P plus (P plus b ([], [])).1 st = (D, g) ∧ P plus b st = (D, g ++ (P plus b ([], [])).2) from this b.reverse b rfl
  intro b'
  induction b' with
  | nil =>
    intro b e st
    have : b = [] := by simpa using e.symm
    subst this
    exact ⟨st.1, st.2, rfl, by simp [P]⟩
  | cons x t ih =>
    intro b e st
    have e2 : b = t.reverse ++ [x] := by rw [← List.reverse_cons, e, List.reverse_reverse]
    obtain ⟨D, g, h1, h2⟩ := ih t.reverse (by rw [List.reverse_reverse]) st
    rw [e2, P_app, P_app, P_one, P_one, h2]
    generalize P plus t.reverse ([], []) = q at h1 h2 ⊢
    obtain ⟨db, fx⟩ := q
    cases x with
    | fix w => exact ⟨D, g, h1, by simp [step]⟩
    | pow r v =>
      show ∃ D' g', P plus (addP plus (addF db (fx.take (fx.length - cend fx r))) (tn r (cend fx r)) v) st = (D', g') ∧
        (addP plus (addF D ((g ++ fx).take ((g ++ fx).length - cend (g ++ fx) r))) (tn r (cend (g ++ fx) r)) v, (g ++ fx).drop ((g ++ fx).length - cend (g ++ fx) r)) = (D', g' ++ fx.drop (fx.length - cend fx r))
      simp only at h1
      have le := cend_le fx r
      by_cases c : cend fx r < fx.length
      · have s0 : fx.take (fx.length - cend fx r) ≠ [] := by
          intro z
          have := congrArg List.length z
          rw [List.length_take, List.length_nil] at this
          omega
        have c0 := cend_stop g fx r c
        have c1 : cend (g ++ fx) r = cend fx r := by rw [cend_app, if_pos c]
        have tk : (g ++ fx).take ((g ++ fx).length - cend fx r) = g ++ fx.take (fx.length - cend fx r) := by
          rw [List.length_append, show g.length + fx.length - cend fx r = g.length + (fx.length - cend fx r) by omega, List.take_append, List.take_of_length_le (by omega), show g.length + (fx.length - cend fx r) - g.length = fx.length - cend fx r by omega]
        have dr : (g ++ fx).drop ((g ++ fx).length - cend fx r) = fx.drop (fx.length - cend fx r) := by
          rw [List.length_append, show g.length + fx.length - cend fx r = g.length + (fx.length - cend fx r) by omega, List.drop_append]
          simp
        have a1 : addF db (fx.take (fx.length - cend fx r)) = db ++ [It.fix (fx.take (fx.length - cend fx r))] := by
          unfold addF
          rw [if_neg s0]
        rw [a1, addP_fix, P_app, P_app, P_one, P_one, h1, c1, tk, dr]
        refine ⟨addP plus (addF D (g ++ fx.take (fx.length - cend fx r))) (tn r (cend fx r)) v, [], ?_, rfl⟩
        show (addP plus (addF D ((g ++ fx.take (fx.length - cend fx r)).take ((g ++ fx.take (fx.length - cend fx r)).length - cend (g ++ fx.take (fx.length - cend fx r)) (tn r (cend fx r))))) (tn (tn r (cend fx r)) (cend (g ++ fx.take (fx.length - cend fx r)) (tn r (cend fx r)))) v, (g ++ fx.take (fx.length - cend fx r)).drop ((g ++ fx.take (fx.length - cend fx r)).length - cend (g ++ fx.take (fx.length - cend fx r)) (tn r (cend fx r)))) = _
        rw [c0, tn_zero, Nat.sub_zero, List.take_length, List.drop_length]
      · have ce0 : cend fx r = fx.length := by omega
        have c1 : cend (g ++ fx) r = fx.length + cend g (tn r fx.length) := by rw [cend_app, if_neg c]
        have lg := cend_le g (tn r fx.length)
        rw [c1, ce0, Nat.sub_self, List.take_zero, List.drop_zero, ← tn_tn]
        generalize hs : tn r fx.length = s at c1 lg ⊢
        have tk : (g ++ fx).take ((g ++ fx).length - (fx.length + cend g s)) = g.take (g.length - cend g s) := by
          rw [List.length_append, show g.length + fx.length - (fx.length + cend g s) = g.length - cend g s by omega, List.take_append, show g.length - cend g s - g.length = 0 by omega, List.take_zero, List.append_nil]
        have dr : (g ++ fx).drop ((g ++ fx).length - (fx.length + cend g s)) = g.drop (g.length - cend g s) ++ fx := by
          rw [List.length_append, show g.length + fx.length - (fx.length + cend g s) = g.length - cend g s by omega, List.drop_append, show g.length - cend g s - g.length = 0 by omega, List.drop_zero]
        rw [tk, dr]
        have a1 : addF db ([] : List α) = db := rfl
        rw [a1]
        rcases addP_or plus db s v with e1 | ⟨d0, u, e1, e2⟩
        · rw [e1, P_app, P_one, h1]
          exact ⟨_, _, rfl, rfl⟩
        · rw [e2, P_app, P_one]
          rw [e1, P_app, P_one] at h1
          generalize P plus d0 st = q at h1 ⊢
          obtain ⟨D0, g0⟩ := q
          simp only [step, Prod.mk.injEq] at h1 ⊢
          obtain ⟨h3, h4⟩ := h1
          have full : cend g s = g.length := by
            rw [← h4, cend_full, List.length_drop]
            have := cend_le g0 s
            omega
          have full2 : g.length = cend g0 s := by
            rw [← h4, List.length_drop]
            have := cend_le g0 s
            omega
          refine ⟨_, g, ⟨rfl, h4⟩, ?_, ?_⟩
          · rw [full, Nat.sub_self, List.take_zero]
            show addP plus D _ v = _
            rw [← h3, full2, addP_addP assoc]
          · rw [full, Nat.sub_self, List.drop_zero]
/-- the normal pieces do what the pieces do, from any state on -/
theorem P_of_norm {plus : E → E → E} (assoc : ∀ a b c, plus (plus a b) c = plus a (plus b c)) (b : List (It α E)) (st : List (It α E) × List α) : P plus (norm plus b) st = P plus b st := by
  obtain ⟨D, g, h1, h2⟩ := P_norm assoc b st
  unfold norm addF
  by_cases c : (P plus b ([], [])).2 = []
  · rw [if_pos c, h1, h2, c, List.append_nil]
  · rw [if_neg c, P_app, P_one, h1, h2]
    rfl
theorem norm_norm {plus : E → E → E} (assoc : ∀ a b c, plus (plus a b) c = plus a (plus b c)) (b : List (It α E)) : norm plus (norm plus b) = norm plus b := by
  unfold norm
  have e := P_of_norm assoc b ([], [])
  unfold norm at e
  rw [e]
theorem norm_app {plus : E → E → E} (assoc : ∀ a b c, plus (plus a b) c = plus a (plus b c)) (a b : List (It α E)) : norm plus (norm plus a ++ norm plus b) = norm plus (a ++ b) := by
  have e : P plus (norm plus a ++ norm plus b) ([], []) = P plus (a ++ b) ([], []) := by
    rw [P_app, P_app, P_of_norm assoc, P_of_norm assoc]
  show addF _ _ = addF _ _
  rw [e]
end
end N5
set_option Elab.async false
set_option linter.all false
set_option maxRecDepth 100000
set_option maxHeartbeats 4000000
/-! Roots of words: the root of a power of a root, a root turned. Of lists, no program. -/
namespace N5
open NP
section
variable {α : Type} [DecidableEq α]
/-- a word that is its own root -/
def Prim (r : List α) : Prop := r ≠ [] ∧ ∀ q, 1 ≤ q → q < r.length → ¬ At r q
theorem Prim.pos {r : List α} (h : Prim r) : 0 < r.length := List.length_pos_iff.mpr h.1
/-- p is the first place, from 1 on, at which w stands in w ++ w -/
def Least (w : List α) (p : Nat) : Prop := 1 ≤ p ∧ p ≤ w.length ∧ At w p ∧ ∀ q, 1 ≤ q → q < p → ¬ At w q
theorem Least.uniq {w : List α} {p q : Nat} (h : Least w p) (k : Least w q) : p = q := by
  rcases Nat.lt_trichotomy p q with c | c | c
  · exact absurd h.2.2.1 (k.2.2.2 p h.1 c)
  · exact c
  · exact absurd k.2.2.1 (h.2.2.2 q k.1 c)
theorem pw_at (r : List α) (n i : Nat) (h : i < n * r.length) : (pw r n)[i]? = r[i % r.length]? := pw_get r n i h
theorem mod_mul_mod {a n L : Nat} : a % (n * L) % L = a % L := Nat.mod_mod_of_dvd a ⟨n, Nat.mul_comm n L⟩
/-- a power turns by q where its root does -/
theorem turn_up {r : List α} {n q : Nat} (hr : 0 < r.length) (h : Turn r q) : Turn (pw r n) q := by
  intro i hi
  rw [pw_len] at hi ⊢
  rw [pw_at _ _ _ (Nat.mod_lt _ (by omega)), pw_at _ _ _ hi, mod_mul_mod, ← Nat.mod_add_mod, h _ (Nat.mod_lt _ hr)]
/-- and only there -/
theorem turn_down {r : List α} {n q : Nat} (hn : 1 ≤ n) (h : Turn (pw r n) q) : Turn r q := by
  intro i hi
  have le : r.length ≤ n * r.length := Nat.le_mul_of_pos_left _ hn
  have e := h i (by rw [pw_len]; omega)
  rw [pw_len, pw_at _ _ _ (Nat.mod_lt _ (by omega)), pw_at _ _ _ (by omega), mod_mul_mod, Nat.mod_eq_of_lt hi] at e
  exact e
/-- the first letters up to the least place are their own root -/
theorem prim_take {w : List α} {p : Nat} (h : Least w p) : Prim (w.take p) ∧ w = pw (w.take p) (w.length / p) := by
  obtain ⟨h1, h2, h3, h4⟩ := h
  obtain ⟨e1, e2⟩ := root_power h1 h2 h3 h4
  have lt : (w.take p).length = p := by rw [List.length_take]; omega
  refine ⟨⟨fun z => ?_, fun q q1 q2 hq => ?_⟩, e2⟩
  · rw [z] at lt
    simp at lt
    omega
  · rw [lt] at q2
    have t := turn_up (n := w.length / p) (by omega) (turn_of_at (by omega) hq)
    rw [← e2] at t
    exact h4 q q1 q2 (at_of_turn (by omega) t)
/-- the root of a power of a root -/
theorem least_pw {r : List α} {n : Nat} (hr : Prim r) (hn : 1 ≤ n) : Least (pw r n) r.length := by
  have le : r.length ≤ n * r.length := Nat.le_mul_of_pos_left _ hn
  have z := hr.pos
  refine ⟨z, by rw [pw_len]; exact le, at_of_turn (by rw [pw_len]; exact le) (turn_up z (turn_all r)), fun q q1 q2 hq => ?_⟩
  exact hr.2 q q1 q2 (at_of_turn (by omega) (turn_down hn (turn_of_at (by rw [pw_len]; omega) hq)))
theorem pw_take {r : List α} {n : Nat} (hn : 1 ≤ n) : (pw r n).take r.length = r := by
  obtain ⟨m, rfl⟩ : ∃ m, n = m + 1 := ⟨n - 1, by omega⟩
  rw [pw_succ, List.take_append, Nat.sub_self, List.take_zero, List.append_nil, List.take_length]
/-! ### a root turned -/
theorem lt_mod (w : List α) (k : Nat) : lt w (k % w.length) = lt w k := by
  unfold lt
  rw [Nat.mod_mod]
theorem turn_lt {w : List α} {q : Nat} (hw : 0 < w.length) (h : Turn w q) (k : Nat) : lt w (k + q) = lt w k := by
  unfold lt
  have m1 := Nat.mod_lt (k + q) hw
  have m2 := Nat.mod_lt k hw
  have e := h (w.length - 1 - (k + q) % w.length) (by omega)
  rw [← e]
  congr 1
  have d := Nat.div_add_mod (k + q) w.length
  have d2 := Nat.div_add_mod k w.length
  have x : w.length - 1 - (k + q) % w.length + q + w.length * (k / w.length) = w.length - 1 - k % w.length + w.length * ((k + q) / w.length) := by omega
  have y := congrArg (· % w.length) x
  simp only [Nat.add_mul_mod_self_left] at y
  rw [Nat.mod_eq_of_lt (by omega : w.length - 1 - k % w.length < w.length)] at y
  exact y
theorem lt_turn {w : List α} {q : Nat} (hw : 0 < w.length) (h : ∀ k, lt w (k + q) = lt w k) : Turn w q := by
  intro i hi
  have m := Nat.mod_lt (i + q) hw
  have e := h (w.length - 1 - (i + q) % w.length)
  unfold lt at e
  rw [Nat.mod_eq_of_lt (by omega : w.length - 1 - (i + q) % w.length < w.length)] at e
  have m3 : (w.length - 1 - (i + q) % w.length + q) % w.length = w.length - 1 - i := by
    have d := Nat.div_add_mod (i + q) w.length
    have x : w.length - 1 - (i + q) % w.length + q = w.length - 1 - i + w.length * ((i + q) / w.length) := by omega
    rw [x, Nat.add_mul_mod_self_left, Nat.mod_eq_of_lt (by omega)]
  rw [m3, show w.length - 1 - (w.length - 1 - i) = i by omega, show w.length - 1 - (w.length - 1 - (i + q) % w.length) = (i + q) % w.length by omega] at e
  exact e.symm
theorem turn_tn {r : List α} {p q : Nat} (hr : 0 < r.length) (h : Turn (tn r p) q) : Turn r q := by
  refine lt_turn hr fun k => ?_
  have e := fun k => turn_lt (by rw [tn_len]; exact hr) h k
  -- r is tn r p turned on by so much that it comes round
  have e2 := e (k + (r.length - p % r.length))
  rw [tn_lt, tn_lt] at e2
  have m := Nat.mod_lt p hr
  have d := Nat.div_add_mod p r.length
  have c1 : ∀ j, lt r (j + (r.length - p % r.length) + p) = lt r j := fun j => by
    rw [← lt_mod r (j + (r.length - p % r.length) + p), ← lt_mod r j]
    congr 1
    rw [show j + (r.length - p % r.length) + p = j + r.length * (p / r.length + 1) by rw [Nat.mul_succ]; omega, Nat.add_mul_mod_self_left]
  rw [show k + (r.length - p % r.length) + q + p = (k + q) + (r.length - p % r.length) + p by omega, c1, c1] at e2
  exact e2
theorem prim_tn {r : List α} (h : Prim r) (p : Nat) : Prim (tn r p) := by
  have z := h.pos
  refine ⟨fun e => ?_, fun q q1 q2 hq => ?_⟩
  · have := tn_len r p
    rw [e, List.length_nil] at this
    omega
  · rw [tn_len] at q2
    exact h.2 q q1 q2 (at_of_turn (by omega) (turn_tn z (turn_of_at (by rw [tn_len]; omega) hq)))
end
end N5
set_option Elab.async false
set_option linter.all false
set_option maxRecDepth 100000
set_option maxHeartbeats 4000000
/-! Pieces with forms: one way through them as the program goes it, and that it gives the normal list. No program. -/
namespace N5
open NP
section
variable {α : Type} [DecidableEq α]
/-- a word, the constant of its form, its numbers -/
abbrev Pi (α : Type) := List α × Int × List Int
def plainB (xs : List Int) : Bool := xs.all (· == 0)
def plus (xs ys : List Int) : List Int := List.zipWith (· + ·) xs ys
theorem plus_assoc : ∀ a b c : List Int, plus (plus a b) c = plus a (plus b c)
  | [], b, c => by simp [plus]
  | _ :: _, [], c => by simp [plus]
  | _ :: _, _ :: _, [] => by simp [plus]
  | x :: a, y :: b, z :: c => by
    have ih := plus_assoc a b c
    unfold plus at ih ⊢
    simp only [List.zipWith_cons_cons, ih, Int.add_assoc]
theorem plus_len {a b : List Int} {m : Nat} (ha : a.length = m) (hb : b.length = m) : (plus a b).length = m := by
  unfold plus
  rw [List.length_zipWith, ha, hb, Nat.min_self]
theorem plus_nn : ∀ {a b : List Int}, (∀ x ∈ a, 0 ≤ x) → (∀ x ∈ b, 0 ≤ x) → ∀ x ∈ plus a b, 0 ≤ x
  | [], b, _, _, x, h => by simp [plus] at h
  | _ :: _, [], _, _, x, h => by simp [plus] at h
  | y :: a, z :: b, ha, hb, x, h => by
    unfold plus at h
    rw [List.zipWith_cons_cons] at h
    rcases List.mem_cons.mp h with e | e
    · have h1 := ha y List.mem_cons_self
      have h2 := hb z List.mem_cons_self
      omega
    · exact plus_nn (fun x hx => ha x (List.mem_cons_of_mem _ hx)) (fun x hx => hb x (List.mem_cons_of_mem _ hx)) x e
theorem plain_iff (xs : List Int) : plainB xs = true ↔ ∀ x ∈ xs, x = 0 := by
  unfold plainB
  rw [List.all_eq_true]
  exact ⟨fun h x hx => beq_iff_eq.mp (h x hx), fun h x hx => beq_iff_eq.mpr (h x hx)⟩
theorem plain_cons (x : Int) (xs : List Int) : plainB (x :: xs) = (x == 0 && plainB xs) := List.all_cons
/-- a sum of numbers not below 0 is plain only where both are -/
theorem plus_plain : ∀ {a b : List Int}, a.length = b.length → (∀ x ∈ a, 0 ≤ x) → (∀ x ∈ b, 0 ≤ x) → plainB a = false → plainB (plus a b) = false
  | [], b, _, _, _, h => by simp [plainB] at h
  | _ :: _, [], l, _, _, _ => by simp at l
  | y :: a, z :: b, l, ha, hb, h => by
    have h1 := ha y List.mem_cons_self
    have h2 := hb z List.mem_cons_self
    unfold plus
    rw [List.zipWith_cons_cons, plain_cons]
    rw [plain_cons] at h
    by_cases c : y = 0
    · subst c
      have h3 : plainB a = false := by simpa using h
      have ih := plus_plain (by simpa using l) (fun x hx => ha x (List.mem_cons_of_mem _ hx)) (fun x hx => hb x (List.mem_cons_of_mem _ hx)) h3
      unfold plus at ih
      rw [ih, Bool.and_false]
    · rw [show ((y + z) == 0) = false from beq_eq_false_iff_ne.mpr (by omega), Bool.false_and]
theorem plain_mul {xs : List Int} {n : Int} (hn : n ≠ 0) (h : plainB xs = false) : plainB (xs.map (· * n)) = false := by
  cases e : plainB (xs.map (· * n)) with
  | false => rfl
  | true =>
    exfalso
    rw [plain_iff] at e
    have : plainB xs = true := (plain_iff xs).mpr fun x hx => by
      have := e (x * n) (List.mem_map_of_mem hx)
      rcases Int.mul_eq_zero.mp this with z | z
      · exact z
      · exact absurd z hn
    rw [this] at h
    cases h
theorem map_one (xs : List Int) : xs.map (· * (1 : Int)) = xs := by
  induction xs with
  | nil => rfl
  | cons x xs ih => rw [List.map_cons, ih, Int.mul_one]
/-! ### the root of a word -/
instance (w : List α) (p : Nat) : Decidable (At w p) := by unfold At; infer_instance
def rootLen (w : List α) : Nat := ((List.range' 1 w.length).find? fun p => decide (At w p)).getD 0
theorem range_find {P : Nat → Bool} : ∀ (k lo p : Nat), (List.range' lo k).find? P = some p → lo ≤ p ∧ P p = true ∧ ∀ q, lo ≤ q → q < p → P q = false
  | 0, lo, p, h => by simp at h
  | k + 1, lo, p, h => by
    rw [List.range'_succ, List.find?_cons] at h
    cases e : P lo with
    | true =>
      rw [e] at h
      cases h
      exact ⟨Nat.le_refl _, e, fun q h1 h2 => by omega⟩
    | false =>
      rw [e] at h
      obtain ⟨h1, h2, h3⟩ := range_find k (lo + 1) p h
      refine ⟨by omega, h2, fun q q1 q2 => ?_⟩
      by_cases c : q = lo
      · rw [c]; exact e
      · exact h3 q (by omega) q2
theorem rootLen_least {w : List α} (hw : w ≠ []) : Least w (rootLen w) := by
  have n0 : 0 < w.length := List.length_pos_iff.mpr hw
  unfold rootLen
  cases e : (List.range' 1 w.length).find? fun p => decide (At w p) with
  | none =>
    have z := List.find?_eq_none.mp e w.length (by rw [List.mem_range']; exact ⟨w.length - 1, by omega, by omega⟩)
    exact absurd (decide_eq_true (at_of_turn (Nat.le_refl _) (turn_all w))) (by simpa using z)
  | some p =>
    obtain ⟨h1, h2, h3⟩ := range_find _ _ _ e
    have m := List.mem_of_find?_eq_some e
    rw [List.mem_range'] at m
    obtain ⟨i, i1, i2⟩ := m
    refine ⟨h1, by show p ≤ _; omega, of_decide_eq_true h2, fun q q1 q2 => of_decide_eq_false (h3 q q1 q2)⟩
def rootOf (w : List α) : List α := w.take (rootLen w)
/-- how often -/
def times (w : List α) : Nat := w.length / (rootOf w).length
theorem rootOf_len {w : List α} (hw : w ≠ []) : (rootOf w).length = rootLen w := by
  have h := rootLen_least hw
  have := h.2.1
  unfold rootOf
  rw [List.length_take]
  omega
theorem rootOf_prim {w : List α} (hw : w ≠ []) : Prim (rootOf w) ∧ w = pw (rootOf w) (times w) := by
  have h := prim_take (rootLen_least hw)
  refine ⟨h.1, ?_⟩
  unfold times
  rw [rootOf_len hw]
  exact h.2
theorem times_pos {w : List α} (hw : w ≠ []) : 1 ≤ times w := by
  have h := (rootOf_prim hw).2
  by_cases c : times w = 0
  · rw [c, pw_zero] at h
    exact absurd h hw
  · omega
theorem rootOf_self {r : List α} (h : Prim r) : rootOf r = r ∧ times r = 1 := by
  have l := least_pw h (Nat.le_refl 1)
  rw [pw_one] at l
  have e := Least.uniq (rootLen_least h.1) l
  have e2 : rootOf r = r := by
    unfold rootOf
    rw [e, List.take_length]
  refine ⟨e2, ?_⟩
  unfold times
  rw [e2, Nat.div_self h.pos]
/-! ### pieces, and what stands behind -/
def items (p : Pi α) : List (It α (List Int)) :=
  if p.1 = [] ∨ (p.2.1 = 0 ∧ plainB p.2.2 = true) then []
  else if plainB p.2.2 = true then [.fix (pw p.1 p.2.1.toNat)]
  else [.pow (rootOf p.1) (p.2.2.map (· * (times p.1 : Int))), .fix (pw (rootOf p.1) (p.2.1 * (times p.1 : Int)).toNat)]
def back (m : Nat) : It α (List Int) → Pi α
  | .fix w => (w, 1, List.replicate m 0)
  | .pow r xs => (r, 0, xs)
/-- the normal list -/
def nrm (m : Nat) (ps : List (Pi α)) : List (Pi α) := (norm plus (ps.flatMap items)).map (back m)
def Good (m : Nat) : It α (List Int) → Prop
  | .fix w => w ≠ []
  | .pow r xs => Prim r ∧ xs.length = m ∧ (∀ x ∈ xs, 0 ≤ x) ∧ plainB xs = false
/-- an item that may come: a power of a root -/
def Fine (m : Nat) : It α (List Int) → Prop
  | .fix _ => True
  | .pow r xs => Prim r ∧ xs.length = m ∧ (∀ x ∈ xs, 0 ≤ x) ∧ plainB xs = false
structure Ok (m : Nat) (p : Pi α) : Prop where
  c : 0 ≤ p.2.1
  l : p.2.2.length = m
  x : ∀ x ∈ p.2.2, 0 ≤ x
theorem items_fine {m : Nat} {p : Pi α} (h : Ok m p) : ∀ i ∈ items p, Fine m i := by
  intro i hi
  unfold items at hi
  by_cases c1 : p.1 = [] ∨ (p.2.1 = 0 ∧ plainB p.2.2 = true)
  · rw [if_pos c1] at hi
    simp at hi
  · rw [if_neg c1] at hi
    by_cases c2 : plainB p.2.2 = true
    · rw [if_pos c2] at hi
      rw [List.mem_singleton] at hi
      subst hi
      trivial
    · rw [if_neg c2] at hi
      have hw : p.1 ≠ [] := fun e => c1 (Or.inl e)
      have tp := times_pos hw
      rcases List.mem_cons.mp hi with e | e
      · subst e
        refine ⟨(rootOf_prim hw).1, by rw [List.length_map]; exact h.l, fun x hx => ?_, plain_mul (by omega) (by simpa using c2)⟩
        obtain ⟨y, hy, rfl⟩ := List.mem_map.mp hx
        exact Int.mul_nonneg (h.x y hy) (by omega)
      · rw [List.mem_singleton] at e
        subst e
        trivial
theorem addF_good {m : Nat} {d : List (It α (List Int))} (hd : ∀ i ∈ d, Good m i) (w : List α) : ∀ i ∈ addF d w, Good m i := by
  intro i hi
  unfold addF at hi
  by_cases c : w = []
  · rw [if_pos c] at hi
    exact hd i hi
  · rw [if_neg c] at hi
    rcases List.mem_append.mp hi with e | e
    · exact hd i e
    · rw [List.mem_singleton] at e
      subst e
      exact c
theorem addP_good {m : Nat} {d : List (It α (List Int))} (hd : ∀ i ∈ d, Good m i) {r : List α} {xs : List Int} (h : Good m (.pow r xs)) : ∀ i ∈ addP plus d r xs, Good m i := by
  intro i hi
  rcases addP_or plus d r xs with e | ⟨d0, u, e1, e2⟩
  · rw [e] at hi
    rcases List.mem_append.mp hi with f | f
    · exact hd i f
    · rw [List.mem_singleton] at f
      subst f
      exact h
  · rw [e2] at hi
    rcases List.mem_append.mp hi with f | f
    · exact hd i (by rw [e1]; exact List.mem_append_left _ f)
    · rw [List.mem_singleton] at f
      subst f
      obtain ⟨u1, u2, u3, u4⟩ := hd (.pow r u) (by rw [e1]; exact List.mem_append_right _ List.mem_cons_self)
      obtain ⟨v1, v2, v3, v4⟩ := h
      exact ⟨u1, plus_len u2 v2, plus_nn u3 v3, plus_plain (by omega) u3 v3 u4⟩
theorem step_good {m : Nat} {st : List (It α (List Int)) × List α} (hd : ∀ i ∈ st.1, Good m i) {x : It α (List Int)} (hx : Fine m x) : ∀ i ∈ (step plus st x).1, Good m i := by
  cases x with
  | fix w => exact hd
  | pow r v => exact addP_good (addF_good hd _) ⟨prim_tn hx.1 _, hx.2⟩
theorem P_good {m : Nat} : ∀ (b : List (It α (List Int))) (st : List (It α (List Int)) × List α), (∀ i ∈ b, Fine m i) → (∀ i ∈ st.1, Good m i) → ∀ i ∈ (P plus b st).1, Good m i
  | [], st, _, hd => hd
  | x :: b, st, hb, hd => P_good b (step plus st x) (fun i hi => hb i (List.mem_cons_of_mem _ hi)) (step_good hd (hb x List.mem_cons_self))
theorem norm_good {m : Nat} {ps : List (Pi α)} (h : ∀ p ∈ ps, Ok m p) : ∀ i ∈ norm plus (ps.flatMap items), Good m i := by
  refine addF_good (P_good _ _ (fun i hi => ?_) (fun i hi => by simp at hi)) _
  obtain ⟨p, hp, hi⟩ := List.mem_flatMap.mp hi
  exact items_fine (h p hp) i hi
theorem good_ok {m : Nat} {i : It α (List Int)} (h : Good m i) : Ok m (back m i) := by
  cases i with
  | fix w => exact ⟨by show (0 : Int) ≤ 1; omega, List.length_replicate, fun x hx => by rw [(List.mem_replicate.mp hx).2]; exact Int.le_refl 0⟩
  | pow r xs => exact ⟨Int.le_refl 0, h.2.1, h.2.2.1⟩
theorem nrm_ok {m : Nat} {ps : List (Pi α)} (h : ∀ p ∈ ps, Ok m p) : ∀ p ∈ nrm m ps, Ok m p := by
  intro p hp
  obtain ⟨i, hi, rfl⟩ := List.mem_map.mp hp
  exact good_ok (norm_good h i hi)
/-- what a normal piece does is what its item does -/
theorem P_back {m : Nat} {i : It α (List Int)} (h : Good m i) (st : List (It α (List Int)) × List α) : P plus (items (back m i)) st = step plus st i := by
  cases i with
  | fix w =>
    have pl : plainB (List.replicate m (0 : Int)) = true := (plain_iff _).mpr fun x hx => (List.mem_replicate.mp hx).2
    have e : items (back m (.fix w)) = [It.fix w] := by
      unfold items
      rw [if_neg (by rintro (z | z); exact h z; exact absurd z.1 (by show (1 : Int) ≠ 0; omega)), if_pos (show plainB (back m (It.fix w)).2.2 = true from pl)]
      show [It.fix (pw w 1)] = _
      rw [pw_one]
    rw [e]
    rfl
  | pow r xs =>
    obtain ⟨h1, h2, h3, h4⟩ := h
    obtain ⟨r1, r2⟩ := rootOf_self h1
    have e : items (back m (.pow r xs)) = [It.pow r xs, .fix []] := by
      unfold items
      rw [if_neg (by rintro (z | z); exact h1.1 z; exact absurd z.2 (by show ¬ plainB xs = true; rw [h4]; decide)), if_neg (by show ¬ plainB xs = true; rw [h4]; decide)]
      show [It.pow (rootOf r) (xs.map (· * (times r : Int))), .fix (pw (rootOf r) ((0 : Int) * (times r : Int)).toNat)] = _
      rw [r1, r2, Int.zero_mul]
      show [It.pow r (xs.map (· * (1 : Int))), .fix (pw r 0)] = _
      rw [map_one, pw_zero]
    rw [e]
    show ((step plus st (.pow r xs)).1, (step plus st (.pow r xs)).2 ++ []) = _
    rw [List.append_nil]
theorem P_backs {m : Nat} : ∀ (l : List (It α (List Int))) (st : List (It α (List Int)) × List α), (∀ i ∈ l, Good m i) → P plus ((l.map (back m)).flatMap items) st = P plus l st
  | [], st, _ => rfl
  | i :: l, st, h => by
    rw [List.map_cons, List.flatMap_cons, P_app, P_back (h i List.mem_cons_self), P_backs l _ fun j hj => h j (List.mem_cons_of_mem _ hj)]
    rfl
theorem P_nrm {m : Nat} {ps : List (Pi α)} (h : ∀ p ∈ ps, Ok m p) (st : List (It α (List Int)) × List α) : P plus ((nrm m ps).flatMap items) st = P plus (ps.flatMap items) st := by
  unfold nrm
  rw [P_backs _ _ (norm_good h), P_of_norm plus_assoc]
theorem nrm_nrm {m : Nat} {ps : List (Pi α)} (h : ∀ p ∈ ps, Ok m p) : nrm m (nrm m ps) = nrm m ps := by
  show (addF _ _).map _ = (addF _ _).map _
  rw [P_nrm h]
theorem nrm_app {m : Nat} {a b : List (Pi α)} (ha : ∀ p ∈ a, Ok m p) (hb : ∀ p ∈ b, Ok m p) : nrm m (nrm m a ++ nrm m b) = nrm m (a ++ b) := by
  have e : P plus ((nrm m a ++ nrm m b).flatMap items) ([], []) = P plus ((a ++ b).flatMap items) ([], []) := by
    rw [List.flatMap_append, List.flatMap_append, P_app, P_app, P_nrm ha, P_nrm hb]
  show (addF _ _).map _ = (addF _ _).map _
  rw [e]
/-! ### one way through the pieces, as the program goes it -/
def addFC (m : Nat) (d : List (Pi α)) (w : List α) : List (Pi α) := if w = [] then d else d ++ [(w, 1, List.replicate m 0)]
def addPC (d : List (Pi α)) (r : List α) (xs : List Int) : List (Pi α) := match d.getLast? with
  | some q => if q.1 = r ∧ plainB q.2.2 = false then d.dropLast ++ [(r, q.2.1 + 0, plus q.2.2 xs)] else d ++ [(r, 0, xs)]
  | none => d ++ [(r, 0, xs)]
def stepC (m : Nat) (st : List (Pi α) × List α) (p : Pi α) : List (Pi α) × List α :=
  if p.1 = [] ∨ (p.2.1 = 0 ∧ plainB p.2.2 = true) then st
  else if plainB p.2.2 = true then (st.1, st.2 ++ pw p.1 p.2.1.toNat)
  else
    let r := rootOf p.1
    let e := cend st.2 r
    (addPC (addFC m st.1 (st.2.take (st.2.length - e))) (tn r e) (p.2.2.map (· * (times p.1 : Int))), st.2.drop (st.2.length - e) ++ pw r (p.2.1 * (times p.1 : Int)).toNat)
theorem addFC_eq (m : Nat) (d : List (It α (List Int))) (w : List α) : addFC m (d.map (back m)) w = (addF d w).map (back m) := by
  unfold addFC addF
  by_cases c : w = []
  · rw [if_pos c, if_pos c]
  · rw [if_neg c, if_neg c, List.map_append]
    rfl
theorem addPC_eq {m : Nat} {d : List (It α (List Int))} (hd : ∀ i ∈ d, Good m i) (r : List α) (xs : List Int) : addPC (d.map (back m)) r xs = (addP plus d r xs).map (back m) := by
  rcases List.eq_nil_or_concat d with e | ⟨d0, x, e⟩
  · subst e
    rfl
  · rw [List.concat_eq_append] at e
    subst e
    unfold addPC
    rw [List.map_append, List.map_cons, List.map_nil, List.getLast?_concat]
    simp only
    cases x with
    | fix w =>
      have pl : plainB (List.replicate m (0 : Int)) = true := (plain_iff _).mpr fun x hx => (List.mem_replicate.mp hx).2
      rw [if_neg (by rintro ⟨_, z⟩; have z2 : plainB (List.replicate m (0 : Int)) = false := z; rw [pl] at z2; cases z2), addP_fix]
      simp [back]
    | pow s u =>
      have g := hd (.pow s u) (List.mem_append_right _ List.mem_cons_self)
      by_cases c : s = r
      · subst c
        rw [if_pos ⟨rfl, g.2.2.2⟩, addP_snoc, List.dropLast_concat, List.map_append]
        rfl
      · rw [if_neg (fun z => c z.1)]
        unfold addP
        rw [List.getLast?_concat]
        simp only
        rw [if_neg c, List.map_append, List.map_append]
        rfl
theorem stepC_eq {m : Nat} {st : List (It α (List Int)) × List α} (hd : ∀ i ∈ st.1, Good m i) {p : Pi α} (hp : Ok m p) : stepC m (st.1.map (back m), st.2) p = ((P plus (items p) st).1.map (back m), (P plus (items p) st).2) := by
  unfold stepC items
  by_cases c1 : p.1 = [] ∨ (p.2.1 = 0 ∧ plainB p.2.2 = true)
  · rw [if_pos c1, if_pos c1]
    rfl
  · rw [if_neg c1, if_neg c1]
    by_cases c2 : plainB p.2.2 = true
    · rw [if_pos c2, if_pos c2]
      rfl
    · rw [if_neg c2, if_neg c2]
      simp only
      rw [addFC_eq, addPC_eq (addF_good hd _)]
      rfl
theorem foldC_eq {m : Nat} : ∀ (ps : List (Pi α)) (st : List (It α (List Int)) × List α), (∀ p ∈ ps, Ok m p) → (∀ i ∈ st.1, Good m i) → ps.foldl (stepC m) (st.1.map (back m), st.2) = ((P plus (ps.flatMap items) st).1.map (back m), (P plus (ps.flatMap items) st).2)
  | [], st, _, _ => rfl
  | p :: ps, st, h, hd => by
    rw [List.foldl_cons, stepC_eq hd (h p List.mem_cons_self), List.flatMap_cons, P_app]
    exact foldC_eq ps (P plus (items p) st) (fun q hq => h q (List.mem_cons_of_mem _ hq)) (P_good _ _ (items_fine (h p List.mem_cons_self)) hd)
/-- the program's way: the fold, and what is fixed put behind -/
def nrmC (m : Nat) (ps : List (Pi α)) : List (Pi α) := addFC m (ps.foldl (stepC m) ([], [])).1 (ps.foldl (stepC m) ([], [])).2
theorem nrmC_eq {m : Nat} {ps : List (Pi α)} (h : ∀ p ∈ ps, Ok m p) : nrmC m ps = nrm m ps := by
  have e := foldC_eq ps (([] : List (It α (List Int))), ([] : List α)) h (fun i hi => by simp at hi)
  unfold nrmC
  rw [List.map_nil] at e
  rw [e, addFC_eq]
  rfl
theorem nrmC_app {m : Nat} {a b : List (Pi α)} (ha : ∀ p ∈ a, Ok m p) (hb : ∀ p ∈ b, Ok m p) : nrmC m (nrmC m a ++ nrmC m b) = nrmC m (a ++ b) := by
  have ab : ∀ p ∈ a ++ b, Ok m p := fun p hp => (List.mem_append.mp hp).elim (ha p) (hb p)
  rw [nrmC_eq ha, nrmC_eq hb, nrmC_eq ab, nrmC_eq (fun p hp => (List.mem_append.mp hp).elim (nrm_ok ha p) (nrm_ok hb p)), nrm_app ha hb]
theorem nrmC_nrmC {m : Nat} {ps : List (Pi α)} (h : ∀ p ∈ ps, Ok m p) : nrmC m (nrmC m ps) = nrmC m ps := by
  rw [nrmC_eq h, nrmC_eq (nrm_ok h), nrm_nrm h]
end
end N5
set_option Elab.async false
set_option linter.all false
set_option maxRecDepth 100000
set_option maxHeartbeats 4000000
namespace K5
open PySem PySem.Spec PyProof.Rows L2 XV NP
abbrev sLetters : Stmt := top 18
abbrev sRoot : Stmt := top 31
abbrev sCommon : Stmt := top 32
abbrev sTurned : Stmt := top 33
theorem scLetters : FnScope ["value"] ["value"] (defScope sLetters) := ⟨rfl, rfl, rfl, by decide +kernel, rfl, by decide +kernel, by decide +kernel⟩
theorem scRoot : FnScope ["word"] ["word"] (defScope sRoot) := ⟨rfl, rfl, rfl, by decide +kernel, rfl, by decide +kernel, by decide +kernel⟩
theorem scCommon : FnScope ["text", "word", "same"] ["text", "word"] (defScope sCommon) := ⟨rfl, rfl, rfl, by decide +kernel, rfl, by decide +kernel, by decide +kernel⟩
theorem scTurned : FnScope ["word", "letters", "middle"] ["word", "letters"] (defScope sTurned) := ⟨rfl, rfl, rfl, by decide +kernel, rfl, by decide +kernel, by decide +kernel⟩
/-- a word of a and b -/
def AB (z : Str) : Prop := ∀ c ∈ cs z, c = 97 ∨ c = 98
theorem arr_all (z : Str) (p : Nat → Bool) : z.cps.all p = (cs z).all p := by simp [cs]
theorem arr_any (z : Str) (p : Nat → Bool) : z.cps.any p = (cs z).any p := by simp [cs]
theorem ab_all {z : Str} (h : AB z) {p : Nat → Bool} (h1 : p 97 = true) (h2 : p 98 = true) : z.cps.all p = true := by
  rw [arr_all, List.all_eq_true]
  intro c hc
  rcases h c hc with rfl | rfl
  · exact h1
  · exact h2
theorem ab_any {z : Str} (h : AB z) {p : Nat → Bool} (h1 : p 97 = false) (h2 : p 98 = false) : z.cps.any p = false := by
  rw [arr_any, List.any_eq_false]
  intro c hc
  rcases h c hc with rfl | rfl
  · rw [h1]; decide
  · rw [h2]; decide
theorem ab_ascii {z : Str} (h : AB z) : Txt.isascii z = true := ab_all h (by decide) (by decide)
theorem ab_alpha {z : Str} (h : AB z) (n : cs z ≠ []) : Txt.isalpha z = true := by
  unfold Txt.isalpha
  have l : 0 < z.length := by
    rw [cs_len]
    exact List.length_pos_iff.mpr n
  rw [ab_all h (by decide +kernel) (by decide +kernel), Bool.and_true]
  exact decide_eq_true l
theorem ab_lower {z : Str} (h : AB z) (n : cs z ≠ []) : Txt.islower z = true := by
  unfold Txt.islower
  rw [ab_any h (p := fun c => Unicode.isUpper c || Unicode.isTitle c) (by decide +kernel) (by decide +kernel)]
  have e : z.cps.any Unicode.isLower = true := by
    rw [arr_any, List.any_eq_true]
    obtain ⟨c, r, hc⟩ := List.exists_cons_of_ne_nil n
    refine ⟨c, by rw [hc]; exact List.mem_cons_self, ?_⟩
    rcases h c (by rw [hc]; exact List.mem_cons_self) with rfl | rfl <;> decide +kernel
  rw [e]
  rfl
theorem cs_nil {z : Str} (h : cs z = []) : z = "" := cs_ext (h.trans (by decide +kernel))
theorem cut_to (z : Str) (p : Nat) (h : p ≤ (cs z).length) : cs (cutS z none (some (p : Int))) = (cs z).take p := by
  show ((z.cps.toList.drop (HT.sIx z.length 0 none)).take (HT.sIx z.length z.length (some (p : Int)) - HT.sIx z.length 0 none)) = _
  rw [HT.sIx_none, HT.sIx_nat, cs_len, Nat.min_eq_left h, Nat.sub_zero, List.drop_zero]
theorem cut_from (z : Str) (p : Nat) (h : p ≤ (cs z).length) : cs (cutS z (some (p : Int)) none) = (cs z).drop p := by
  show ((z.cps.toList.drop (HT.sIx z.length 0 (some (p : Int)))).take (HT.sIx z.length z.length none - HT.sIx z.length 0 (some (p : Int)))) = _
  rw [HT.sIx_none, HT.sIx_nat, cs_len, Nat.min_eq_left h]
  exact List.take_of_length_le (by rw [List.length_drop]; exact Nat.le_refl _)
theorem ce_of (r : List Nat) : ∀ (x : List Nat) (k n : Nat), n ≤ x.length → (∀ i, i < n → x[i]? = N5.lt r (k + i)) → (n = x.length ∨ x[n]? ≠ N5.lt r (k + n)) → N5.ce r x k = n
  | [], k, n, h, _, _ => by simp at h; rw [h]; rfl
  | a :: t, k, 0, _, _, hs => by
    rw [N5.ce_cons]
    have : ¬ N5.lt r k = some a := fun e => by
      rcases hs with z | z
      · simp at z
      · exact z (by rw [Nat.add_zero, e]; rfl)
    rw [if_neg this]
  | a :: t, k, n + 1, h, hi, hs => by
    rw [N5.ce_cons]
    have e0 : N5.lt r k = some a := by
      have := hi 0 (by omega)
      rw [Nat.add_zero] at this
      exact this.symm
    have ih : N5.ce r t (k + 1) = n := by
      refine ce_of r t (k + 1) n (by rw [List.length_cons] at h; omega) (fun i z => ?_) ?_
      · have := hi (i + 1) (by omega)
        rw [List.getElem?_cons_succ] at this
        rw [this]
        congr 1
        omega
      · rcases hs with z | z
        · rw [List.length_cons] at z
          exact Or.inl (by omega)
        · rw [List.getElem?_cons_succ] at z
          exact Or.inr (by rw [show k + 1 + n = k + (n + 1) by omega]; exact z)
    rw [if_pos e0, ih, Nat.add_comm]
theorem ce_agree (r : List Nat) : ∀ (x : List Nat) (k i : Nat), i < N5.ce r x k → x[i]? = N5.lt r (k + i)
  | [], k, i, h => by simp [N5.ce] at h
  | a :: t, k, i, h => by
    rw [N5.ce_cons] at h
    by_cases c : N5.lt r k = some a
    · rw [if_pos c] at h
      cases i with
      | zero => rw [Nat.add_zero, c]; rfl
      | succ i =>
        rw [List.getElem?_cons_succ, ce_agree r t (k + 1) i (by omega)]
        congr 1
        omega
    · rw [if_neg c] at h
      omega
theorem cend_agree {u r : List Nat} {i : Nat} (hi : i < N5.cend u r) : u[u.length - 1 - i]? = r[r.length - 1 - i % r.length]? := by
  have l := N5.cend_le u r
  have z := ce_agree r u.reverse 0 i hi
  rw [List.getElem?_reverse (by omega), Nat.zero_add] at z
  exact z
theorem cend_of {u r : List Nat} {same : Nat} (hs : same ≤ u.length) (h : ∀ i, i < same → u[u.length - 1 - i]? = r[r.length - 1 - i % r.length]?) (stop : same = u.length ∨ u[u.length - 1 - same]? ≠ r[r.length - 1 - same % r.length]?) : N5.cend u r = same := by
  refine ce_of r u.reverse 0 same (by rw [List.length_reverse]; exact hs) (fun i hi => ?_) ?_
  · rw [List.getElem?_reverse (by omega), h i hi, Nat.zero_add]
    rfl
  · by_cases c : same = u.length
    · exact Or.inl (by rw [List.length_reverse]; exact c)
    · rcases stop with z | z
      · exact absurd z c
      · refine Or.inr ?_
        rw [List.getElem?_reverse (by omega), Nat.zero_add]
        exact z
def spLetters : Sp := fun vs H Q _ => ∃ z : Str, vs = [.str z] ∧ AB z ∧ Q (.bl true) H
def spRoot : Sp := fun vs H Q _ => ∃ w : Str, vs = [.str w] ∧ cs w ≠ [] ∧ (cs w).length ≤ 100000 ∧ ∀ r : Str, cs r = N5.rootOf (cs w) → Q (.str r) H
def spCommon : Sp := fun vs H Q _ => ∃ u w : Str, vs = [.str u, .str w] ∧ cs w ≠ [] ∧ (cs w).length ≤ 100000 ∧ (cs u).length ≤ 100000 ∧ ∀ same : Nat, same = N5.cend (cs u) (cs w) → Q (.int (same : Int)) H
def spTurned : Sp := fun vs H Q _ => ∃ (w : Str) (e : Nat), vs = [.str w, .int e] ∧ cs w ≠ [] ∧ (cs w).length ≤ 100000 ∧ ∀ r : Str, cs r = N5.tn (cs w) e → Q (.str r) H
theorem sz5 {n : Nat} (h : n ≤ 200000) : n ≤ sizeLine := by
  rw [sizeLine_eq]
  omega
theorem at_back {xs : List Nat} {i : Nat} (h : i < xs.length) : atI xs (-1 - (i : Int)) = xs[xs.length - 1 - i]? := by
  unfold atI ixN
  rw [if_neg (by omega), if_pos (by omega)]
  show xs[(-1 - (i : Int) + (xs.length : Int)).toNat]? = _
  congr 1
  omega
section
variable {P : Program} {w : World} {K : PySem.W.Frag} {mg : Str → Option Value} {base : Heap} {f : Addr} {fd : FuncData}
theorem ok_letters (F : FnP K "is_string_of_letters" sLetters f fd) (z_isinstance : mg "isinstance" = none) (z_str : mg "str" = none) : FnOk P w K mg base CX0 1 f fd ["value"] spLetters := by
  refine F.ok scLetters (fun vs H Q E h => ?_) (fun cdv A outer s H vs Q E hr h => ?_)
  · obtain ⟨z, rfl, _⟩ := h
    rfl
  · obtain ⟨z, rfl, hz, q⟩ := h
    refine ⟨_, PSs.nox (pss_cons (ps_if (pt_not (pt_val (pe_callB call_isi (by rfl) z_isinstance (by decide +kernel) (pa_cons (pv 0) (pa_cons (pe_bltn (v := .ty "str") (by rfl) z_str (by decide +kernel) rfl) pa_nil))))) (pss_one (ps_ret pe_bl)) pss_nil)
 (pss_one (ps_ret (pe_or (pe_cmpR op_eq (pv 0) pe_str (nomark _)) (pe_one (pe_and (pe_m0 PySem.F.slot_str_isascii PySem.F.type_str_isascii mt_isascii (pv 0)) (pe_and (pe_m0 PySem.F.slot_str_isalpha PySem.F.type_str_isalpha mt_isalpha (pv 0)) (pe_one (pe_m0 PySem.F.slot_str_islower PySem.F.type_str_islower mt_islower (pv 0)))))))))), ?_⟩
    refine ⟨_, rfl, _, _, _, _, true, rfl, .ty "str", .base (.str z), kit_ty (by decide +kernel), true, rfl, iteF ⟨_, rfl, rfl, decide (V.str z = V.str ""), rfl, ?_⟩⟩
    by_cases e : cs z = []
    · have e2 := cs_nil e
      subst e2
      rw [decide_eq_true rfl]
      exact iteT q
    · have ne : ¬ V.str z = V.str "" := fun x => e (by
        have := V.str.inj x
        subst this
        decide +kernel)
      rw [decide_eq_false ne]
      refine iteF ⟨_, rfl, ⟨_, rfl⟩, _, rfl, rfl, trivial, true, congrArg V.bl (ab_ascii hz), iteT ?_⟩
      refine ⟨_, rfl, ⟨_, rfl⟩, _, rfl, rfl, trivial, true, congrArg V.bl (ab_alpha hz e), iteT ?_⟩
      refine ⟨_, rfl, ⟨_, rfl⟩, _, rfl, rfl, trivial, ?_⟩
      show Q (.bl (Txt.islower z)) H
      rw [ab_lower hz e]
      exact q
theorem ok_root (F : FnP K "root_of" sRoot f fd) : FnOk P w K mg base CX0 1 f fd ["word"] spRoot := by
  refine F.ok scRoot (fun vs H Q E h => ?_) (fun cdv A outer s H vs Q E hr h => ?_)
  · obtain ⟨w, rfl, _⟩ := h
    rfl
  · obtain ⟨w0, rfl, hw, hl, q⟩ := h
    refine ⟨_, PSs.nox (pss_one (ps_ret (pe_slice sl_str (pv 0) po_none (po_some (pe_bm PySem.F.plainAttrs_str PySem.F.slot_str_find PySem.F.type_str_find mt_find3 (pe_op op_add_str (pv 0) (pv 0)) (pa_cons (pv 0) (pa_cons pe_int pa_nil))))))), ?_⟩
    obtain ⟨p, ep, p1, p2, hat, least⟩ := root_find hw
    obtain ⟨g1, g2⟩ := root_power p1 p2 hat least
    refine ⟨_, rfl, _, rfl, _, rfl, _, _, rfl, rfl, ?_, rfl, _, rfl, _, _, _, rfl, rfl, (p : Int), congrArg V.int ep, _, rfl, ?_, ?_⟩
    · rw [cs_len]
      have := sz5 (n := (cs w0).length + (cs w0).length) (by omega)
      omega
    · rw [cs_len]
      exact sz5 (by omega)
    · have ec := cut_to w0 p p2
      have lc : (cs (cutS w0 none (some (p : Int)))).length = p := by rw [ec, List.length_take]; omega
      have le : p = N5.rootLen (cs w0) := N5.Least.uniq ⟨p1, p2, hat, least⟩ (N5.rootLen_least hw)
      exact q _ (by rw [ec, le]; rfl)
theorem ok_common (F : FnP K "common_end" sCommon f fd) (z_len : mg "len" = none) : FnOk P w K mg base CX0 1 f fd ["text", "word"] spCommon := by
  have nd := scCommon.nd
  refine F.ok scCommon (fun vs H Q E h => ?_) (fun cdv A outer s H vs Q E hr h => ?_)
  · obtain ⟨u, w, rfl, _⟩ := h
    rfl
  · obtain ⟨u, w0, rfl, hw, hl, hlu, q⟩ := h
    have n0 : 0 < (cs w0).length := List.length_pos_iff.mpr hw
    refine ⟨_, PSs.nox (pss_cons (ps_set (i := 2) nd rfl (Or.inl rfl) pe_int)
 (pss_cons (ps_while PassesOwn.never (PW.pt (pw_and (pt_cmpR op_lt (pv 2) (pe_callB call_len (by rfl) z_len boot_len (pa_cons (pv 0) pa_nil)) (nomark _)) (pw_and1 (pt_cmpR op_eq (pe_ix ix_str (pv 0) (pe_op op_sub (pe_un un_neg pe_int) (pv 2)) (fun _ _ => rfl)) (pe_ix ix_str (pv 1) (pe_op op_sub (pe_un un_neg pe_int) (pe_op op_mod (pv 2) (pe_callB call_len (by rfl) z_len boot_len (pa_cons (pv 1) pa_nil)))) (fun _ _ => rfl)) (nomark _))))) (pss_one (ps_aug (i := 2) nd rfl (Or.inl rfl) pe_int ip_add)))
 (pss_one (ps_ret (pv 2))))), ?_⟩
    refine ⟨fun m σ H' => H' = H ∧ ∃ same : Nat, m + same = (cs u).length ∧ σ = [some (.str u), some (.str w0), some (.int (same : Int))] ∧ ∀ i, i < same → (cs u)[(cs u).length - 1 - i]? = (cs w0)[(cs w0).length - 1 - i % (cs w0).length]?, ⟨(cs u).length, rfl, 0, by omega, rfl, fun i h => absurd h (by omega)⟩, ?_⟩
    rintro m σ H' ⟨rfl, same, em, rfl, hs⟩
    refine ⟨_, rfl, _, rfl, _, (cs u).length, rfl, ⟨by rw [cs_len]; exact sz5 (by omega), cs_len u⟩, _, _, rfl, rfl, _, rfl, ite2 (fun c => ?_) (fun c => ?_)⟩
    · have c : same < (cs u).length := by
        have := of_decide_eq_true c
        omega
      have cu : ((cs u).length - 1 - same) < (cs u).length := by omega
      have gu : (cs u)[(cs u).length - 1 - same]? = some (cs u)[(cs u).length - 1 - same] := List.getElem?_eq_getElem cu
      have hm := Nat.mod_lt same n0
      have cw : (cs w0).length - 1 - same % (cs w0).length < (cs w0).length := by omega
      have gw : (cs w0)[(cs w0).length - 1 - same % (cs w0).length]? = some (cs w0)[(cs w0).length - 1 - same % (cs w0).length] := List.getElem?_eq_getElem cw
      generalize (cs u)[(cs u).length - 1 - same] = a at gu
      generalize (cs w0)[(cs w0).length - 1 - same % (cs w0).length] = b at gw
      refine ⟨_, rfl, _, rfl, _, rfl, _, _, rfl, rfl, u, _, a, rfl, rfl, by rw [cs_len]; exact sz5 (by omega), (at_back c).trans gu, ?_⟩
      refine ⟨_, rfl, _, rfl, _, rfl, _, rfl, _, (cs w0).length, rfl, ⟨by rw [cs_len]; exact sz5 (by omega), cs_len w0⟩, _, _, rfl, rfl, (by show (0 : Int) < ((cs w0).length : Int); omega), _, _, rfl, rfl, w0, _, b, rfl, rfl, by rw [cs_len]; exact sz5 (by omega), (at_back (i := same % (cs w0).length) (by omega)).trans gw, ?_⟩
      refine ⟨rfl, _, rfl, ite2 (fun y => ?_) (fun y => ?_)⟩
      · have eab : a = b := by
          have := V.str.inj (of_decide_eq_true y)
          exact (by simpa using congrArg cs this)
        subst eab
        refine ⟨fun σ' H1 => H1 = H' ∧ σ' = [some (.str u), some (.str w0), some (.int ((same + 1 : Nat) : Int))], fun σ' H1 z => ⟨m - 1, by omega, z.1, same + 1, by omega, z.2, fun i hi => ?_⟩, _, rfl, _, _, rfl, rfl, rfl, rfl⟩
        by_cases e : i < same
        · exact hs i e
        · obtain rfl : i = same := by omega
          exact gu.trans gw.symm
      · have nab : a ≠ b := fun e => by
          subst e
          exact y (decide_eq_true rfl)
        exact ⟨_, rfl, q same (cend_of (by omega) hs (Or.inr (by rw [gu, gw]; exact fun z => nab (Option.some.inj z)))).symm⟩
    · have c : same = (cs u).length := by
        have : ¬ ((same : Int) < ((cs u).length : Int)) := fun z => c (decide_eq_true z)
        omega
      exact iteF ⟨_, rfl, q same (cend_of (by omega) hs (Or.inl c)).symm⟩
theorem ok_turned (F : FnP K "turned" sTurned f fd) (z_len : mg "len" = none) : FnOk P w K mg base CX0 1 f fd ["word", "letters"] spTurned := by
  have nd := scTurned.nd
  refine F.ok scTurned (fun vs H Q E h => ?_) (fun cdv A outer s H vs Q E hr h => ?_)
  · obtain ⟨w, e, rfl, _⟩ := h
    rfl
  · obtain ⟨w0, e, rfl, hw, hl, q⟩ := h
    have n0 : 0 < (cs w0).length := List.length_pos_iff.mpr hw
    refine ⟨_, PSs.nox (pss_cons (ps_set (i := 2) nd rfl (Or.inl rfl) (pe_op op_sub (pe_callB call_len (by rfl) z_len boot_len (pa_cons (pv 0) pa_nil)) (pe_op op_mod (pv 1) (pe_callB call_len (by rfl) z_len boot_len (pa_cons (pv 0) pa_nil)))))
 (pss_one (ps_ret (pe_op op_add_str (pe_slice sl_str (pv 0) (po_some (pv 2)) po_none) (pe_slice sl_str (pv 0) po_none (po_some (pv 2))))))), ?_⟩
    have lz : w0.length ≤ sizeLine := by
      rw [cs_len]
      exact sz5 (by omega)
    have hm := Nat.mod_lt e n0
    have em : ((cs w0).length : Int) - (e : Int) % ((cs w0).length : Int) = (((cs w0).length - e % (cs w0).length : Nat) : Int) := by omega
    refine ⟨_, rfl, _, (cs w0).length, rfl, ⟨lz, cs_len w0⟩, _, rfl, _, rfl, _, (cs w0).length, rfl, ⟨lz, cs_len w0⟩, _, _, rfl, rfl, (by show (0 : Int) < ((cs w0).length : Int); omega), _, _, rfl, rfl, ?_⟩
    refine ⟨_, rfl, _, rfl, _, rfl, _, rfl, lz, _, rfl, _, rfl, _, rfl, _, rfl, lz, _, _, rfl, rfl, ?_, ?_⟩
    · show (cutS w0 (some (((cs w0).length : Int) - (e : Int) % ((cs w0).length : Int))) none).length + (cutS w0 none (some (((cs w0).length : Int) - (e : Int) % ((cs w0).length : Int)))).length ≤ sizeLine
      rw [em, cs_len, cs_len, cut_from _ _ (by omega), cut_to _ _ (by omega), List.length_drop, List.length_take]
      exact sz5 (by omega)
    · refine q _ ?_
      show cs (cutS w0 (some (((cs w0).length : Int) - (e : Int) % ((cs w0).length : Int))) none ++ cutS w0 none (some (((cs w0).length : Int) - (e : Int) % ((cs w0).length : Int)))) = _
      rw [em, cs_app, cut_from _ _ (by omega), cut_to _ _ (by omega)]
      rfl
end
end K5
set_option Elab.async false
set_option linter.all false
set_option maxRecDepth 100000
set_option maxHeartbeats 4000000
namespace K5
open PySem PySem.Spec PyProof.Rows L2 XV
abbrev sWhole : Stmt := top 14
abbrev sCount : Stmt := top 15
abbrev sBelow : Stmt := top 16
abbrev sIsPoint : Stmt := top 20
abbrev sHasForm : Stmt := top 22
theorem scWhole : FnScope ["value"] ["value"] (defScope sWhole) := ⟨rfl, rfl, rfl, by decide +kernel, rfl, by decide +kernel, by decide +kernel⟩
theorem scCount : FnScope ["value"] ["value"] (defScope sCount) := ⟨rfl, rfl, rfl, by decide +kernel, rfl, by decide +kernel, by decide +kernel⟩
theorem scBelow : FnScope ["bound", "value"] ["bound", "value"] (defScope sBelow) := ⟨rfl, rfl, rfl, by decide +kernel, rfl, by decide +kernel, by decide +kernel⟩
theorem scIsPoint : FnScope ["many", "value", "number"] ["many", "value"] (defScope sIsPoint) := ⟨rfl, rfl, rfl, by decide +kernel, rfl, by decide +kernel, by decide +kernel⟩
theorem scHasForm : FnScope ["many", "item", "number"] ["many", "item"] (defScope sHasForm) := ⟨rfl, rfl, rfl, by decide +kernel, rfl, by decide +kernel, by decide +kernel⟩
/-- a value whose kind is known -/
inductive Kn (H : Hp) : V → Prop
  | int (i : Int) : Kn H (.int i)
  | non : Kn H .non
  | bl (b : Bool) : Kn H (.bl b)
  | str (z : Str) : Kn H (.str z)
  | lst {a : Addr} {xs : List V} (h : H a = some (.lst xs)) : Kn H (.ref a)
  | tup {a : Addr} {xs : List V} (h : H a = some (.tup xs)) : Kn H (.ref a)
theorem Kn.keep {H H' : Hp} (s : Same H H') {v : V} (h : Kn H v) : Kn H' v := by
  cases h with
  | int i => exact .int i
  | non => exact .non
  | bl b => exact .bl b
  | str z => exact .str z
  | lst h => exact .lst (s _ _ h)
  | tup h => exact .tup (s _ _ h)
/-- a whole number, a count -/
def whV : V → Bool
  | .int _ => true
  | _ => false
def cntV : V → Bool
  | .int i => decide (0 ≤ i)
  | _ => false
def belV (b : Int) : V → Bool
  | .int i => decide (0 ≤ i) && decide (i < b)
  | _ => false
def spWhole : Sp := fun vs H Q _ => ∃ v, vs = [v] ∧ Kn H v ∧ Q (.bl (whV v)) H
def spCount : Sp := fun vs H Q _ => ∃ v, vs = [v] ∧ Kn H v ∧ Q (.bl (cntV v)) H
def spBelow : Sp := fun vs H Q _ => ∃ b v, vs = [.int b, v] ∧ Kn H v ∧ Q (.bl (belV b v)) H
section
variable {P : Program} {w : World} {K : PySem.W.Frag} {mg : Str → Option Value} {base : Heap} {f : Addr} {fd : FuncData}
theorem ok_whole (F : FnP K "is_whole" sWhole f fd) (z_isinstance : mg "isinstance" = none) (z_int : mg "int" = none) (z_bool : mg "bool" = none) : FnOk P w K mg base CX0 1 f fd ["value"] spWhole := by
  refine F.ok scWhole (fun vs H Q E h => ?_) (fun cdv A outer s H vs Q E hr h => ?_)
  · obtain ⟨v, rfl, _⟩ := h
    rfl
  · obtain ⟨v, rfl, kv, q⟩ := h
    refine ⟨_, PSs.nox (pss_one (ps_ret (pe_and (pe_callB call_isi (by rfl) z_isinstance (by decide +kernel) (pa_cons (pv 0) (pa_cons (pe_bltn (v := .ty "int") (by rfl) z_int (by decide +kernel) rfl) pa_nil))) (pe_one (pe_not (pe_callB call_isi (by rfl) z_isinstance (by decide +kernel) (pa_cons (pv 0) (pa_cons (pe_bltn (v := .ty "bool") (by rfl) z_bool (by decide +kernel) rfl) pa_nil)))))))), ?_⟩
    cases kv with
    | int i => exact ⟨_, rfl, _, _, _, _, true, rfl, .ty "int", .base (.int i), kit_ty (by decide +kernel), true, rfl, _, rfl, _, _, _, _, false, rfl, .ty "bool", .base (.int i), kit_ty (by decide +kernel), false, rfl, q⟩
    | bl b => exact ⟨_, rfl, _, _, _, _, true, rfl, .ty "int", .base (.bl b), kit_ty (by decide +kernel), true, rfl, _, rfl, _, _, _, _, true, rfl, .ty "bool", .base (.bl b), kit_ty (by decide +kernel), true, rfl, q⟩
    | non => exact ⟨_, rfl, _, _, _, _, false, rfl, .ty "int", .base .non, kit_ty (by decide +kernel), false, rfl, iteF q⟩
    | str z => exact ⟨_, rfl, _, _, _, _, false, rfl, .ty "int", .base (.str z), kit_ty (by decide +kernel), false, rfl, iteF q⟩
    | lst h => exact ⟨_, rfl, _, _, _, _, false, rfl, .ty "int", .base (.lst h), kit_ty (by decide +kernel), false, rfl, iteF q⟩
    | tup h => exact ⟨_, rfl, _, _, _, _, false, rfl, .ty "int", .base (.tup h), kit_ty (by decide +kernel), false, rfl, iteF q⟩
theorem ok_count (F : FnP K "is_count" sCount f fd) (o_is_whole : Ok P w K mg base "is_whole" 1 ["value"] spWhole) : FnOk P w K mg base CX0 2 f fd ["value"] spCount := by
  refine F.ok scCount (fun vs H Q E h => ?_) (fun cdv A outer s H vs Q E hr h => ?_)
  · obtain ⟨v, rfl, _⟩ := h
    rfl
  · obtain ⟨v, rfl, kv, q⟩ := h
    refine ⟨_, PSs.nox (pss_one (ps_ret (pe_and (pe_callO o_is_whole (hr.mono (by decide)) (by rfl) (pa_cons (pv 0) pa_nil)) (pe_one (pe_cmpR op_ge (pv 0) pe_int (nomark _)))))), ?_⟩
    have k2 := kv
    cases kv with
    | int i => exact ⟨_, rfl, _, rfl, k2, true, rfl, _, rfl, _, _, rfl, rfl, q⟩
    | bl b => exact ⟨_, rfl, _, rfl, k2, false, rfl, iteF q⟩
    | non => exact ⟨_, rfl, _, rfl, k2, false, rfl, iteF q⟩
    | str z => exact ⟨_, rfl, _, rfl, k2, false, rfl, iteF q⟩
    | lst h => exact ⟨_, rfl, _, rfl, k2, false, rfl, iteF q⟩
    | tup h => exact ⟨_, rfl, _, rfl, k2, false, rfl, iteF q⟩
theorem ok_below (F : FnP K "is_count_below" sBelow f fd) (o_is_count : Ok P w K mg base "is_count" 2 ["value"] spCount) : FnOk P w K mg base CX0 3 f fd ["bound", "value"] spBelow := by
  refine F.ok scBelow (fun vs H Q E h => ?_) (fun cdv A outer s H vs Q E hr h => ?_)
  · obtain ⟨b, v, rfl, _⟩ := h
    rfl
  · obtain ⟨b, v, rfl, kv, q⟩ := h
    refine ⟨_, PSs.nox (pss_one (ps_ret (pe_and (pe_callO o_is_count (hr.mono (by decide)) (by rfl) (pa_cons (pv 1) pa_nil)) (pe_one (pe_cmpR op_lt (pv 1) (pv 0) (nomark _)))))), ?_⟩
    have k2 := kv
    cases kv with
    | int i =>
      refine ⟨_, rfl, _, rfl, k2, _, rfl, ?_⟩
      by_cases c : 0 ≤ i
      · have e : cntV (.int i) = true := decide_eq_true c
        rw [e]
        have e2 : belV b (.int i) = decide (i < b) := by
          show (decide (0 ≤ i) && decide (i < b)) = _
          rw [decide_eq_true c]
          rfl
        rw [e2] at q
        exact iteT ⟨_, rfl, _, rfl, _, _, rfl, rfl, q⟩
      · have e : cntV (.int i) = false := decide_eq_false c
        rw [e]
        have e2 : belV b (.int i) = false := by
          show (decide (0 ≤ i) && decide (i < b)) = _
          rw [decide_eq_false c]
          rfl
        rw [e2] at q
        exact iteF q
    | bl z => exact ⟨_, rfl, _, rfl, k2, false, rfl, iteF q⟩
    | non => exact ⟨_, rfl, _, rfl, k2, false, rfl, iteF q⟩
    | str z => exact ⟨_, rfl, _, rfl, k2, false, rfl, iteF q⟩
    | lst h => exact ⟨_, rfl, _, rfl, k2, false, rfl, iteF q⟩
    | tup h => exact ⟨_, rfl, _, rfl, k2, false, rfl, iteF q⟩
end
end K5
set_option Elab.async false
set_option linter.all false
set_option maxRecDepth 100000
set_option maxHeartbeats 4000000
namespace K5
open PySem PySem.Spec PyProof.Rows L2 XV
abbrev sFormValue : Stmt := top 24
abbrev sTimes : Stmt := top 27
theorem scFormValue : FnScope ["form", "point", "number", "count"] ["form", "point"] (defScope sFormValue) := ⟨rfl, rfl, rfl, by decide +kernel, rfl, by decide +kernel, by decide +kernel⟩
theorem scTimes : FnScope ["form", "times", "number"] ["form", "times"] (defScope sTimes) := ⟨rfl, rfl, rfl, by decide +kernel, rfl, by decide +kernel, by decide +kernel⟩
/-- a count of at most k binary digits -/
def Sz (k : Nat) (x : Int) : Prop := 0 ≤ x ∧ x < 2 ^ k
theorem Sz.log {k : Nat} {x : Int} (h : Sz k x) : x.natAbs.log2 ≤ k := by
  obtain ⟨h0, h1⟩ := h
  by_cases z : x.natAbs = 0
  · rw [z]
    exact Nat.zero_le _
  · have l : x.natAbs < 2 ^ k := by
      have e : ((x.natAbs : Nat) : Int) = x := Int.natAbs_of_nonneg h0
      have e2 : ((x.natAbs : Nat) : Int) < ((2 ^ k : Nat) : Int) := by
        rw [e, Int.natCast_pow]
        exact h1
      exact Int.ofNat_lt.mp e2
    exact Nat.le_of_lt ((Nat.log2_lt z).mpr l)
theorem Sz.mulW {k l : Nat} {x y : Int} (a : Sz k x) (b : Sz l y) (h : k + l < 1000000) : CMulW x y := by
  have h1 := a.log
  have h2 := b.log
  show x.natAbs.log2 + y.natAbs.log2 < 1000000
  omega
theorem Sz.mul {k l : Nat} {x y : Int} (a : Sz k x) (b : Sz l y) : Sz (k + l) (x * y) := by
  refine ⟨Int.mul_nonneg a.1 b.1, ?_⟩
  rw [Int.pow_add]
  have p : (0 : Int) < 2 ^ k := Int.lt_of_le_of_lt a.1 a.2
  have p2 : (0 : Int) < 2 ^ l := Int.lt_of_le_of_lt b.1 b.2
  by_cases z : y = 0
  · rw [z, Int.mul_zero]
    exact Int.mul_pos p p2
  · have y0 : 0 < y := by
      have := b.1
      omega
    exact Int.lt_of_lt_of_le (Int.mul_lt_mul_of_pos_right a.2 y0) (Int.mul_le_mul_of_nonneg_left (Int.le_of_lt b.2) (Int.le_of_lt p))
def dot (xs ys : List Int) : Int := (List.zipWith (· * ·) xs ys).sum
def spFormValue : Sp := fun vs H Q _ => ∃ (fa pa : Addr) (c : Int) (xs ys : List Int), vs = [.ref fa, .ref pa] ∧ H fa = some (.tup ((c :: xs).map V.int)) ∧ H pa = some (.lst (ys.map V.int)) ∧ xs.length = ys.length ∧ xs.length ≤ 100 ∧
  (∀ x ∈ xs, Sz 1000 x) ∧ (∀ y ∈ ys, Sz 1000 y) ∧ ∀ H', Same H H' → Q (.int (c + dot xs ys)) H'
theorem zw_get {xs ys : List Int} {i : Nat} {x y : Int} (hx : xs[i]? = some x) (hy : ys[i]? = some y) : (List.zipWith (· * ·) xs ys)[i]? = some (x * y) := by
  rw [List.getElem?_zipWith, hx, hy]
theorem cut_rest (c : Int) (xs : List Int) : cutV ((c :: xs).map V.int) (some 1) none = xs.map V.int := by
  unfold cutV
  rw [HT.sIx_none, show HT.sIx ((c :: xs).map V.int).length 0 (some 1) = min 1 ((c :: xs).map V.int).length from HT.sIx_nat _ _ 1]
  rw [List.map_cons, List.length_cons, show min 1 ((xs.map V.int).length + 1) = 1 by omega]
  simp only [List.drop_succ_cons, List.drop_zero]
  exact List.take_of_length_le (by simp)
section
variable {P : Program} {w : World} {K : PySem.W.Frag} {mg : Str → Option Value} {base : Heap} {f : Addr} {fd : FuncData}
theorem ok_formValue (F : FnP K "form_value" sFormValue f fd) (z_sum : mg "sum" = none) (z_zip : mg "zip" = none) : FnOk P w K mg base CX0 1 f fd ["form", "point"] spFormValue := by
  have nd := scFormValue.nd
  refine F.ok scFormValue (fun vs H Q E h => ?_) (fun cdv A outer s H vs Q E hr h => ?_)
  · obtain ⟨fa, pa, c, xs, ys, rfl, _⟩ := h
    rfl
  · obtain ⟨fa, pa, c, xs, ys, rfl, hf, hp, hl, h100, bx, hy, q⟩ := h
    refine ⟨_, PSs.nox (pss_one (ps_ret (pe_op op_add (pe_ix ix_tup (pv 0) pe_int (fun _ _ => rfl)) (pe_callB (cr_sum rfl) (by rfl) z_sum (by decide +kernel) (pa_cons
      (pe_lc (own := [("number", 2), ("count", 3)]) (g := gTup K 2 (gCons (gName 2) (gCons (gName 3) gNil))) (by rfl) nd (pi_zipM (by rfl) z_zip (pa_cons (pe_slice sl_tup (pv 0) (po_some pe_int) po_none) (pa_cons (pv 1) pa_nil))) (blkOk_by (N := ["form", "point", "number", "count"]) (sc := defScope sFormValue) (own := [("number", 2), ("count", 3)]) (by decide +kernel))
        (fun _ _ _ _ _ => pg_tup rfl (pgs_cons (pg_name (i := 2) nd rfl (Or.inl rfl)) (pgs_cons (pg_name (i := 3) nd rfl (Or.inl rfl)) pgs_nil))) (fun _ _ _ _ _ => pts_nil)
        (fun _ _ _ _ _ => pe_op op_mulW (pv 2) (pv 3))) pa_nil))))), ?_⟩
    refine ⟨_, rfl, fa, _, _, _, rfl, rfl, SqT.of hf, (show atI ((c :: xs).map V.int) ((0 : Nat) : Int) = some (V.int c) from atI_nat rfl), _, rfl, _, rfl, fa, _, rfl, SqT.of hf, (fun z => absurd z.1 (by
      rw [show HT.sIx ((c :: xs).map V.int).length 0 (some 1) = min 1 ((c :: xs).map V.int).length from HT.sIx_nat _ _ 1, List.map_cons, List.length_cons]
      omega)), fun sl nsl => ⟨_, rfl, sl, pa, _, _, rfl, ⟨SqT.of upd_same, SqL.of (same_new nsl _ _ hp)⟩, fun D nD => ?_⟩⟩
    rw [cut_rest] at nD ⊢
    have s0 := same_new (o := .tup (xs.map V.int)) nsl
    refine lc_zipM (K := K) (a := sl) (b := pa) (xs := xs.map V.int) (ys := ys.map V.int) (by simp [hl]) (fun k H' => Same (upd H sl (.tup (xs.map V.int))) H' ∧ H' D = some (.lst (((List.zipWith (· * ·) xs ys).take k).map V.int))) ⟨same_new nD, upd_same⟩ (fun i H' p => ⟨SqT.of (p.1 _ _ upd_same), SqL.of (p.1 _ _ (s0 _ _ hp))⟩) ?_ ?_
    · rintro i x y T H' hx hy' ⟨sm, hD⟩ nT
      rw [List.getElem?_map] at hx hy'
      obtain ⟨x0, ex, rfl⟩ := Option.map_eq_some_iff.mp hx
      obtain ⟨y0, ey, rfl⟩ := Option.map_eq_some_iff.mp hy'
      have sT := same_new (o := .tup [.int x0, .int y0]) nT
      have li : i < xs.length := (List.getElem?_eq_some_iff.mp ex).1
      refine ⟨T, _, rfl, SqT.of upd_same, rfl, _, _, rfl, _, _, rfl, rfl, rfl, ?_⟩
      refine ⟨_, rfl, _, rfl, _, _, rfl, rfl, (bx _ (List.mem_of_getElem? ex)).mulW (hy _ (List.mem_of_getElem? ey)) (by decide), _, sT _ _ hD, ?_, fun b o e => ?_, ?_⟩
      · rw [List.length_map]
        exact small1000 (Nat.le_trans (List.length_take_le _ _) (by omega))
      · rw [upd_ne (ne_of_none e nD)]
        exact sT _ _ (sm _ _ e)
      · rw [upd_same, List.take_add_one, zw_get ex ey, List.map_append]
        rfl
    · rintro H' ⟨sm, hD⟩
      have el : ((List.zipWith (· * ·) xs ys).take (xs.map V.int).length) = List.zipWith (· * ·) xs ys := List.take_of_length_le (by simp; exact Nat.min_le_left _ _)
      rw [el] at hD
      exact ⟨D, _, rfl, SqL.of hD, _, _, rfl, rfl, q H' (s0.trans sm)⟩
end
end K5
set_option Elab.async false
set_option linter.all false
set_option maxRecDepth 100000
set_option maxHeartbeats 4000000
namespace K5
open PySem PySem.Spec PyProof.Rows L2 XV
abbrev sPlain : Stmt := top 29
theorem scPlain : FnScope ["many", "constant"] ["many", "constant"] (defScope sPlain) := ⟨rfl, rfl, rfl, by decide +kernel, rfl, by decide +kernel, by decide +kernel⟩
def spTimes : Sp := fun vs H Q _ => ∃ (fa : Addr) (t : Int) (ns : List Int), vs = [.ref fa, .int t] ∧ H fa = some (.tup (ns.map V.int)) ∧ ns.length ≤ 100 ∧ (∀ x ∈ ns, Sz 1000 x) ∧ Sz 1000 t ∧
  ∀ (H' : Hp) (p : Addr), Same H H' → H p = none → H' p = some (.tup ((ns.map (· * t)).map V.int)) → Q (.ref p) H'
def spPlain : Sp := fun vs H Q _ => ∃ (m : Nat) (c : Int), vs = [.int m, .int c] ∧ m ≤ 100 ∧ ∀ (H' : Hp) (p : Addr), Same H H' → H p = none → H' p = some (.tup ((c :: List.replicate m 0).map V.int)) → Q (.ref p) H'
theorem rep_flat (m : Nat) : (List.replicate m [V.int 0]).flatten = (List.replicate m (0 : Int)).map V.int := by
  induction m with
  | zero => rfl
  | succ m ih =>
    rw [List.replicate_succ, List.flatten_cons, ih, List.replicate_succ, List.map_cons]
    rfl
theorem was_new {H H' : Hp} {p : Addr} (s : Same H H') (n : H' p = none) : H p = none := by
  cases e : H p with
  | none => rfl
  | some o =>
    rw [s _ _ e] at n
    cases n
section
variable {P : Program} {w : World} {K : PySem.W.Frag} {mg : Str → Option Value} {base : Heap} {f : Addr} {fd : FuncData}
theorem ok_times (F : FnP K "form_times" sTimes f fd) (z_tuple : mg "tuple" = none) : FnOk P w K mg base CX0 1 f fd ["form", "times"] spTimes := by
  have nd := scTimes.nd
  refine F.ok scTimes (fun vs H Q E h => ?_) (fun cdv A outer s H vs Q E hr h => ?_)
  · obtain ⟨fa, t, ns, rfl, _⟩ := h
    rfl
  · obtain ⟨fa, t, ns, rfl, hf, hn, bx, bt, q⟩ := h
    refine ⟨_, PSs.nox (pss_one (ps_ret (pe_callTy call_tuple_of (by rfl) z_tuple (by decide +kernel) (pa_cons
      (pe_lc (own := [("number", 2)]) (g := gName 2) (by rfl) nd (pi_tup (pv 0)) (blkOk_by (N := ["form", "times", "number"]) (sc := defScope sTimes) (own := [("number", 2)]) (by decide +kernel)) (fun _ _ _ _ _ => pg_name (i := 2) nd rfl (Or.inl rfl)) (fun _ _ _ _ _ => pts_nil) (fun _ _ _ _ _ => pe_op op_mulW (pv 2) (pv 1))) pa_nil)))), ?_⟩
    refine ⟨_, rfl, fa, rfl, ⟨_, SqT.of hf⟩, fun D nD => lc_tup (K := K) (a := fa) (xs := ns.map V.int) (fun k H' => Same H H' ∧ H' D = some (.lst (((ns.map (· * t)).take k).map V.int))) ⟨same_new nD, upd_same⟩ (fun k H' _ p => SqT.ext (SqT.of hf) p.1) ?_ ?_⟩
    · rintro k y H' hk ⟨sm, hD⟩
      rw [List.getElem?_map] at hk
      obtain ⟨z, ez, rfl⟩ := Option.map_eq_some_iff.mp hk
      have li : k < ns.length := (List.getElem?_eq_some_iff.mp ez).1
      refine ⟨rfl, ?_⟩
      refine ⟨_, rfl, _, rfl, _, _, rfl, rfl, (bx _ (List.mem_of_getElem? ez)).mulW bt (by decide), _, hD, ?_, fun b o e => ?_, ?_⟩
      · rw [List.length_map]
        exact small1000 (Nat.le_trans (List.length_take_le _ _) (by omega))
      · rw [upd_ne (ne_of_none (H := H) e nD)]
        exact sm _ _ e
      · rw [upd_same, List.take_add_one, List.getElem?_map, ez, List.map_append]
        rfl
    · rintro H' ⟨sm, hD⟩
      have el : (ns.map (· * t)).take (ns.map V.int).length = ns.map (· * t) := List.take_of_length_le (by simp)
      rw [el] at hD
      exact ⟨D, _, rfl, .inl ⟨SqL.of hD, fun l nl => q _ l (sm.trans (same_new nl)) (was_new sm nl) upd_same⟩⟩
theorem ok_plain (F : FnP K "plain_form" sPlain f fd) (z_tuple : mg "tuple" = none) : FnOk P w K mg base CX0 1 f fd ["many", "constant"] spPlain := by
  refine F.ok scPlain (fun vs H Q E h => ?_) (fun cdv A outer s H vs Q E hr h => ?_)
  · obtain ⟨m, c, rfl, _⟩ := h
    rfl
  · obtain ⟨m, c, rfl, hm, q⟩ := h
    refine ⟨_, PSs.nox (pss_one (ps_ret (pe_callTy call_tuple_of (by rfl) z_tuple (by decide +kernel) (pa_cons (pe_op op_cat (pe_lst (pa_cons (pv 1) pa_nil)) (pe_op op_rep (pe_lst (pa_cons pe_int pa_nil)) (pv 0))) pa_nil)))), ?_⟩
    have le1 : m ≤ sizeLine := Nat.le_of_lt (small1000 (by omega))
    refine ⟨_, rfl, (by show 1 ≤ sizeLine; decide), fun l nl => ⟨(by show 1 ≤ sizeLine; decide), fun i ni => ⟨_, rfl, i, (m : Int), _, rfl, rfl, upd_same, by omega, by omega, (by show 1 * m ≤ sizeLine; omega), fun r nr => ?_⟩⟩⟩
    have e1 : (List.replicate ((m : Int)).toNat [V.int 0]).flatten = (List.replicate m (0 : Int)).map V.int := rep_flat m
    rw [e1]
    have s1 := same_new (o := .lst [.int c]) nl
    have s2 := same_new (o := .lst [.int 0]) ni
    have s3 := same_new (o := .lst ((List.replicate m (0 : Int)).map V.int)) nr
    have le2 : 1 + m ≤ sizeLine := Nat.le_of_lt (small1000 (by omega))
    refine ⟨l, r, [.int c], (List.replicate m (0 : Int)).map V.int, rfl, rfl, s3 _ _ (s2 _ _ upd_same), upd_same, (by simp; omega), fun t nt => ?_⟩
    have s4 := same_new (o := .lst ((c :: List.replicate m (0 : Int)).map V.int)) nt
    refine ⟨t, (c :: List.replicate m (0 : Int)).map V.int, rfl, .inl ⟨SqL.of upd_same, fun x nx => q _ x ?_ ?_ upd_same⟩⟩
    · exact (((s1.trans s2).trans s3).trans s4).trans (same_new nx)
    · exact was_new (((s1.trans s2).trans s3).trans s4) nx
end
end K5
set_option Elab.async false
set_option linter.all false
set_option maxRecDepth 100000
set_option maxHeartbeats 4000000
namespace K5
open PySem PySem.Spec PyProof.Rows L2 XV
abbrev sSum : Stmt := top 28
theorem scSum : FnScope ["many", "forms", "place", "form"] ["many", "forms"] (defScope sSum) := ⟨rfl, rfl, rfl, by decide +kernel, rfl, by decide +kernel, by decide +kernel⟩
abbrev scO : Scope := { kind := .function, names := [(Str.ofString ".0", .local), (Str.ofString "place", .cell), (Str.ofString "sum", .globalImplicit), (Str.ofString "forms", .cell)], isGenerator := false, isCoroutine := false }
abbrev scI : Scope := { kind := .function, names := [(Str.ofString ".0", .local), (Str.ofString "form", .local), (Str.ofString "place", .free)], isGenerator := false, isCoroutine := false }
theorem blk_in : BlkOk ["many", "forms", "place", "form"] scO scI [("form", 3)] := blkOk_by (by decide +kernel)
def col (ps : List (Addr × List Int)) (j : Nat) : Int := (ps.map fun p => p.2.getD j 0).sum
def spSum : Sp := fun vs H Q _ => ∃ (m : Nat) (la : Addr) (ps : List (Addr × List Int)), vs = [.int m, .ref la] ∧ H la = some (.lst (ps.map fun p => V.ref p.1)) ∧ m ≤ 100 ∧ ps.length ≤ 100 ∧ (∀ p ∈ ps, H p.1 = some (.tup (p.2.map V.int)) ∧ p.2.length = m + 1) ∧
  ∀ (H' : Hp) (r : Addr), Same H H' → H r = none → H' r = some (.tup (((List.range (m + 1)).map (col ps)).map V.int)) → Q (.ref r) H'
section
variable {P : Program} {w : World} {K : PySem.W.Frag} {mg : Str → Option Value} {base : Heap} {f : Addr} {fd : FuncData}
theorem ok_sum (F : FnP K "sum_of_forms" sSum f fd) (z_tuple : mg "tuple" = none) (z_sum : mg "sum" = none) (z_range : mg "range" = none) : FnOk P w K mg base CX0 1 f fd ["many", "forms"] spSum := by
  have nd := scSum.nd
  refine F.ok scSum (fun vs H Q E h => ?_) (fun cdv A outer s H vs Q E hr h => ?_)
  · obtain ⟨m, la, ps, rfl, _⟩ := h
    rfl
  · obtain ⟨m, la, ps, rfl, hl, hm, hn, hp, q⟩ := h
    refine ⟨_, PSs.nox (pss_one (ps_ret (pe_callTy call_tuple_of (by rfl) z_tuple (by decide +kernel) (pa_cons
      (pe_lc (own := [("place", 2)]) (g := gName 2) (by rfl) nd (pi_range1 (by rfl) z_range (pa_cons (pe_op op_add (pv 0) pe_int) pa_nil)) (blkOk_by (N := ["many", "forms", "place", "form"]) (sc := defScope sSum) (own := [("place", 2)]) (by decide +kernel)) (fun _ _ _ _ _ => pg_name (i := 2) nd rfl (Or.inr rfl)) (fun _ _ _ _ _ => pts_nil)
        (fun _ _ _ _ _ => pe_callB (cr_sumK (K := K) rfl rfl) (by rfl) z_sum (by decide +kernel) (pa_cons
          (pe_lc (own := [("form", 3)]) (g := gName 3) (by rfl) nd (pi_listK (K := K) rfl (pv 1)) blk_in (fun _ _ _ _ _ => pg_name (i := 3) nd rfl (Or.inl rfl)) (fun _ _ _ _ _ => pts_nil)
            (fun _ _ _ _ _ => pe_ix (ix_tupK (K := K) rfl) (pv 3) (pv 2) (fun _ _ => rfl))) pa_nil))) pa_nil)))), ?_⟩
    refine ⟨_, rfl, _, _, rfl, rfl, (m : Int) + 1, rfl, by omega, by omega, fun D nD => ?_⟩
    have eN : ((m : Int) + 1).toNat = m + 1 := by omega
    rw [eN]
    refine lc_range (lo := 0) (n := m + 1) (fun k H' => Same H H' ∧ H' D = some (.lst (((List.range k).map (col ps)).map V.int))) ⟨same_new nD, upd_same⟩ ?_ ?_
    · rintro j H' hj ⟨sm, hD⟩
      rw [Int.zero_add]
      refine ⟨rfl, ?_⟩
      refine ⟨_, rfl, la, rfl, ⟨_, SqL.of (sm _ _ hl)⟩, fun D2 nD2 => lc_list (K := K) (a := la) (xs := ps.map fun p => V.ref p.1) (fun k H2 => Same H' H2 ∧ H2 D2 = some (.lst (((ps.map fun p => p.2.getD j 0).take k).map V.int))) ⟨same_new nD2, upd_same⟩ (fun k H2 _ p => SqL.of (p.1 _ _ (sm _ _ hl))) ?_ ?_⟩
      · rintro k y H2 hk ⟨s2, hD2⟩
        rw [List.getElem?_map] at hk
        obtain ⟨p, ep, rfl⟩ := Option.map_eq_some_iff.mp hk
        obtain ⟨h1, h2⟩ := hp p (List.mem_of_getElem? ep)
        have lk : k < ps.length := (List.getElem?_eq_some_iff.mp ep).1
        have gj : (p.2.map V.int)[j]? = some (.int (p.2.getD j 0)) := by
          have lj : j < p.2.length := by omega
          rw [List.getElem?_map, List.getD_eq_getElem?_getD, List.getElem?_eq_getElem lj]
          rfl
        refine ⟨rfl, ?_⟩
        refine ⟨_, rfl, _, rfl, p.1, _, _, _, rfl, rfl, SqT.of (s2 _ _ (sm _ _ h1)), atI_nat gj, _, hD2, ?_, fun b o e => ?_, ?_⟩
        · rw [List.length_map]
          exact small1000 (Nat.le_trans (List.length_take_le _ _) (by omega))
        · rw [upd_ne (ne_of_none (H := H') e nD2)]
          exact s2 _ _ e
        · rw [upd_same, List.take_add_one, List.getElem?_map, ep, List.map_append]
          rfl
      · rintro H2 ⟨s2, hD2⟩
        have el : (ps.map fun p => p.2.getD j 0).take (ps.map fun p => V.ref p.1).length = ps.map fun p => p.2.getD j 0 := List.take_of_length_le (by simp)
        rw [el] at hD2
        refine ⟨D2, _, rfl, SqL.of hD2, _, s2 _ _ hD, ?_, fun b o e => ?_, ?_⟩
        · rw [List.length_map, List.length_map, List.length_range]
          exact small1000 (by omega)
        · rw [upd_ne (ne_of_none (H := H) e nD)]
          exact s2 _ _ (sm _ _ e)
        · rw [upd_same, List.range_succ, List.map_append, List.map_append]
          rfl
    · rintro H' ⟨sm, hD⟩
      exact ⟨D, _, rfl, .inl ⟨SqL.of hD, fun l nl => q _ l (sm.trans (same_new nl)) (was_new sm nl) upd_same⟩⟩
end
end K5
set_option Elab.async false
set_option linter.all false
set_option maxRecDepth 100000
set_option maxHeartbeats 4000000
namespace K5
open PySem PySem.Spec PyProof.Rows L2 XV NP
/-! ### pieces on the heap -/
def fm (p : Pc) : List Int := p.2.1 :: p.2.2
def IsPc (H : Hp) (x : V) (p : Pc) : Prop := ∃ a f, x = .ref a ∧ H a = some (.tup [.str p.1, .ref f]) ∧ H f = some (.tup ((fm p).map V.int))
inductive Pcs (H : Hp) : List V → List Pc → Prop
  | nil : Pcs H [] []
  | cons {x : V} {xs : List V} {p : Pc} {P : List Pc} : IsPc H x p → Pcs H xs P → Pcs H (x :: xs) (p :: P)
theorem IsPc.keep {H H' : Hp} (s : Same H H') {x : V} {p : Pc} (h : IsPc H x p) : IsPc H' x p := by
  obtain ⟨a, f, e, t, u⟩ := h
  exact ⟨a, f, e, s _ _ t, s _ _ u⟩
theorem Pcs.keep {H H' : Hp} (s : Same H H') : ∀ {xs : List V} {P : List Pc}, Pcs H xs P → Pcs H' xs P
  | _, _, .nil => .nil
  | _, _, .cons h r => .cons (h.keep s) (Pcs.keep s r)
theorem Pcs.len {H : Hp} : ∀ {xs : List V} {P : List Pc}, Pcs H xs P → xs.length = P.length
  | _, _, .nil => rfl
  | _, _, .cons _ r => congrArg (· + 1) (Pcs.len r)
theorem Pcs.get {H : Hp} : ∀ {xs : List V} {P : List Pc} {i : Nat} {x : V}, Pcs H xs P → xs[i]? = some x → ∃ p, P[i]? = some p ∧ IsPc H x p
  | _, _, i, x, .nil, h => by simp at h
  | _, _, 0, x, .cons a r, h => by
    cases h
    exact ⟨_, rfl, a⟩
  | _, _, i + 1, x, .cons a r, h => by
    obtain ⟨l, e, z⟩ := Pcs.get (i := i) r (by simpa using h)
    exact ⟨l, by simpa using e, z⟩
theorem Pcs.snoc {H : Hp} {y : V} {m : Pc} (hy : IsPc H y m) : ∀ {xs : List V} {P : List Pc}, Pcs H xs P → Pcs H (xs ++ [y]) (P ++ [m])
  | _, _, .nil => .cons hy .nil
  | _, _, .cons h r => .cons h (Pcs.snoc hy r)
/-- a store at a list leaves the pieces -/
theorem IsPc.updL {H : Hp} {D : Addr} {ys : List V} {o : HO} (hD : H D = some (.lst ys)) {x : V} {p : Pc} (h : IsPc H x p) : IsPc (upd H D o) x p := by
  obtain ⟨a, f, e, t, u⟩ := h
  refine ⟨a, f, e, ?_, ?_⟩
  · rw [upd_ne (ne_of t hD (by intro z; cases z))]
    exact t
  · rw [upd_ne (ne_of u hD (by intro z; cases z))]
    exact u
theorem Pcs.updL {H : Hp} {D : Addr} {ys : List V} {o : HO} (hD : H D = some (.lst ys)) : ∀ {xs : List V} {P : List Pc}, Pcs H xs P → Pcs (upd H D o) xs P
  | _, _, .nil => .nil
  | _, _, .cons h r => .cons (h.updL hD) (Pcs.updL hD r)
/-- the last one -/
theorem Pcs.last {H : Hp} : ∀ {xs : List V} {P : List Pc}, Pcs H xs P → P ≠ [] → ∃ xs0 x P0 p, xs = xs0 ++ [x] ∧ P = P0 ++ [p] ∧ Pcs H xs0 P0 ∧ IsPc H x p
  | _, _, .nil, h => absurd rfl h
  | _, _, .cons (xs := []) h .nil, _ => ⟨[], _, [], _, rfl, rfl, .nil, h⟩
  | _, _, .cons h (.cons h2 r), _ => by
    obtain ⟨xs0, x, P0, p, e1, e2, r0, hx⟩ := Pcs.last (.cons h2 r) (by simp)
    exact ⟨_ :: xs0, x, _ :: P0, p, by rw [e1]; rfl, by rw [e2]; rfl, .cons h r0, hx⟩
def PL (H : Hp) (D : Addr) (P : List Pc) : Prop := ∃ xs, H D = some (.lst xs) ∧ Pcs H xs P
/-- of m unknowns, each number with at most k digits -/
theorem Sz.le {k l : Nat} {x : Int} (h : Sz k x) (hl : k ≤ l) : Sz l x := by
  refine ⟨h.1, Int.lt_of_lt_of_le h.2 ?_⟩
  have e : (2 : Nat) ^ k ≤ 2 ^ l := Nat.pow_le_pow_right (by decide) hl
  have e2 : ((2 ^ k : Nat) : Int) ≤ ((2 ^ l : Nat) : Int) := Int.ofNat_le.mpr e
  simpa [Int.natCast_pow] using e2
theorem Sz.add {k : Nat} {x y : Int} (h : Sz k x) (g : Sz k y) : Sz (k + 1) (x + y) := by
  refine ⟨Int.add_nonneg h.1 g.1, ?_⟩
  have a := h.2
  have b := g.2
  rw [Int.pow_succ]
  omega
structure Pz (m k : Nat) (p : Pc) : Prop where
  c : Sz k p.2.1
  l : p.2.2.length = m
  x : ∀ x ∈ p.2.2, Sz k x
theorem Pz.le {m k k' : Nat} {p : Pc} (h : Pz m k p) (l : k ≤ k') : Pz m k' p := ⟨Sz.le h.c l, h.l, fun x hx => Sz.le (h.x x hx) l⟩
abbrev sPlainQ : Stmt := top 26
abbrev sAddF : Stmt := top 44
abbrev sAddP : Stmt := top 45
theorem scPlainQ : FnScope ["form"] ["form"] (defScope sPlainQ) := ⟨rfl, rfl, rfl, by decide +kernel, rfl, by decide +kernel, by decide +kernel⟩
theorem scAddF : FnScope ["many", "done", "word"] ["many", "done", "word"] (defScope sAddF) := ⟨rfl, rfl, rfl, by decide +kernel, rfl, by decide +kernel, by decide +kernel⟩
theorem scAddP : FnScope ["many", "done", "word", "form", "power"] ["many", "done", "word", "form"] (defScope sAddP) := ⟨rfl, rfl, rfl, by decide +kernel, rfl, by decide +kernel, by decide +kernel⟩
def spPlainQ : Sp := fun vs H Q _ => ∃ (f : Addr) (c : Int) (xs : List Int), vs = [.ref f] ∧ H f = some (.tup ((c :: xs).map V.int)) ∧ xs.length ≤ 100 ∧ ∀ H', Same H H' → Q (.bl (decide (∀ x ∈ xs, x = 0))) H'
/-- all but the list at D stands -/
def Rest (H H' : Hp) (D : Addr) : Prop := ∀ b o, b ≠ D → H b = some o → H' b = some o
/-- a piece, its word as letters -/
def pi (p : Pc) : N5.Pi Nat := (cs p.1, p.2.1, p.2.2)
def spAddF : Sp := fun vs H Q _ => ∃ (m : Nat) (D : Addr) (w : Str) (done : List Pc), vs = [.int m, .ref D, .str w] ∧ m ≤ 3 ∧ PL H D done ∧ done.length ≤ 500 ∧
  ∀ (H' : Hp) (d2 : List Pc), Rest H H' D → PL H' D d2 → AddF m done d2 (cs w) → d2.map pi = N5.addFC m (done.map pi) (cs w) → d2.length ≤ done.length + 1 → (∀ p ∈ d2, p ∈ done ∨ (p = (w, 1, List.replicate m 0) ∧ cs w ≠ [])) → Q .non H'
section
variable {P : Program} {w : World} {K : PySem.W.Frag} {mg : Str → Option Value} {base : Heap} {f : Addr} {fd : FuncData}
theorem ok_plainQ (F : FnP K "is_plain" sPlainQ f fd) (z_any : mg "any" = none) : FnOk P w K mg base CX0 1 f fd ["form"] spPlainQ := by
  refine F.ok scPlainQ (fun vs H Q E h => ?_) (fun cdv A outer s H vs Q E hr h => ?_)
  · obtain ⟨fm, c, xs, rfl, _⟩ := h
    rfl
  · obtain ⟨fm, c, xs, rfl, hf, h100, q⟩ := h
    refine ⟨_, PSs.nox (pss_one (ps_ret (pe_not (pe_callB (call_anyT rfl) (by rfl) z_any (by decide +kernel) (pa_cons (pe_slice sl_tup (pv 0) (po_some pe_int) po_none) pa_nil))))), ?_⟩
    refine ⟨_, rfl, _, rfl, fm, _, rfl, SqT.of hf, (fun z => absurd z.1 (by
      rw [show HT.sIx ((c :: xs).map V.int).length 0 (some 1) = min 1 ((c :: xs).map V.int).length from HT.sIx_nat _ _ 1, List.map_cons, List.length_cons]
      omega)), fun p np => ?_⟩
    rw [cut_rest]
    have hp : (upd H p (.tup (xs.map V.int))) p = some (.tup (xs.map V.int)) := upd_same
    have dp : ∀ l : List Int, DpAll K (upd H p (.tup (xs.map V.int))) (l.map V.int) (l.map PyData.int) := fun l => by
      induction l with
      | nil => exact .nil
      | cons x l ih => exact .cons (.int x) ih
    refine ⟨p, _, xs.map PyData.int, rfl, SqT.of hp, dp xs, ?_, ?_, _, rfl, ?_⟩
    · clear dp hp np q h100 hf
      induction xs with
      | nil => simp [PyData.plainAll]
      | cons x xs ih => simp [PyData.plainAll, PyData.plain, ih]
    · intro d hd
      obtain ⟨x, _, rfl⟩ := List.mem_map.mp hd
      trivial
    · have e : (!((xs.map PyData.int).any PyData.truthy)) = decide (∀ x ∈ xs, x = 0) := by
        clear dp hp np q h100 hf
        induction xs with
        | nil => simp
        | cons x xs ih =>
          rw [List.map_cons, List.any_cons, Bool.not_or, ih]
          by_cases h : x = 0
          · simp [PyData.truthy, h]
          · simp [PyData.truthy, h]
      show Q (.bl (!((xs.map PyData.int).any PyData.truthy))) _
      rw [e]
      exact q _ (same_new np)
theorem ok_addF (F : FnP K "add_fixed" sAddF f fd) (o_plain : Ok P w K mg base "plain_form" 1 ["many", "constant"] spPlain) : FnOk P w K mg base CX0 2 f fd ["many", "done", "word"] spAddF := by
  refine F.ok scAddF (fun vs H Q E h => ?_) (fun cdv A outer s H vs Q E hr h => ?_)
  · obtain ⟨m, D, w, done, rfl, _⟩ := h
    rfl
  · obtain ⟨m, D, w0, done, rfl, hm, ⟨xs, hD, hP⟩, h500, q⟩ := h
    have lx := hP.len
    refine ⟨_, PSs.nox (pss_one (ps_if (pt_cmpR op_ne (pv 2) pe_str (nomark _)) (pss_one (ps_expr (pe_bm PySem.F.plainAttrs_list PySem.F.slot_list_append PySem.F.type_list_append mt_append (pv 1) (pa_cons (pe_tup (pa_cons (pv 2) (pa_cons (pe_callO o_plain hr (by rfl) (pa_cons (pv 0) (pa_cons pe_int pa_nil))) pa_nil))) pa_nil)))) pss_nil)), ?_⟩
    refine ⟨_, rfl, rfl, _, rfl, ite2 (fun c => ?_) (fun c => ?_)⟩
    · refine ⟨_, rfl, .inl ⟨rfl, _, SqL.of hD⟩, _, rfl, _, rfl, m, 1, rfl, by omega, fun H1 p s1 np hp => ⟨(by show 2 ≤ sizeLine; decide), fun t nt => ?_⟩⟩
      have s2 := same_new (o := .tup [.str w0, .ref p]) nt
      have hD2 := s2 _ _ (s1 _ _ hD)
      have hP2 := (hP.keep s1).keep s2
      refine ⟨D, xs, _, rfl, rfl, hD2, small1000 (by omega), q _ (done ++ [(w0, 1, List.replicate m 0)]) (fun b o nb e => ?_) ⟨_, upd_same, Pcs.updL hD2 (Pcs.snoc (m := (w0, 1, List.replicate m 0)) ⟨t, p, rfl, upd_same, s2 _ _ hp⟩ hP2)⟩ (addF_one done w0) (by
        have nw : cs w0 ≠ [] := fun z => by
          rw [cs_nil z] at c
          simp at c
        unfold N5.addFC
        rw [if_neg nw, List.map_append]
        rfl) (by rw [List.length_append]; exact Nat.le_refl _) fun p hp => ?_⟩
      · rw [upd_ne nb]
        exact s2 _ _ (s1 _ _ e)
      · rcases List.mem_append.mp hp with h | h
        · exact .inl h
        · exact .inr ⟨List.mem_singleton.mp h, fun z => by
            rw [cs_nil z] at c
            simp at c⟩
    · have e : w0 = "" := by
        by_cases e : w0 = ""
        · exact e
        · exact absurd (by
            have : ¬ V.str w0 = V.str "" := fun z => e (V.str.inj z)
            simp [this]) c
      subst e
      exact q H done (fun _ _ _ e => e) ⟨xs, hD, hP⟩ (addF_nil done) (by
        have nw : cs ("" : Str) = [] := by decide +kernel
        unfold N5.addFC
        rw [if_pos nw]) (by omega) fun p hp => .inl hp
end
end K5
set_option Elab.async false
set_option linter.all false
set_option maxRecDepth 100000
set_option maxHeartbeats 4000000
namespace XV
open PySem PySem.Spec PyProof.Rows L2
section
variable {X : Cx}
/-- t + u, t[lo:hi]: the answer is to be read, wherever it stands -/
def rCatS : R2 := fun x y H Q => ∃ a b xs ys, x = .ref a ∧ y = .ref b ∧ H a = some (.tup xs) ∧ H b = some (.tup ys) ∧ xs.length + ys.length ≤ sizeLine ∧ ∀ (H' : Hp) (p : Addr), Same H H' → H' p = some (.tup (xs ++ ys)) → Q (.ref p) H'
theorem op_catS : OpR X (binaryOp .Add) rCatS := by
  intro pins s σ H x y v u Q I rx ry h
  obtain ⟨a, b, xs, ys, rfl, rfl, ha, hb, hz, q⟩ := h
  refine op_catA pins s σ H _ _ v u Q I rx ry ⟨a, b, xs, ys, rfl, rfl, SqT.of ha, SqT.of hb, hz, fun e => ?_, fun _ e => ?_, fun _ _ p np => q _ p (same_new np) upd_same⟩
  · subst e
    exact q H b (fun _ _ z => z) hb
  · subst e
    exact q H a (fun _ _ z => z) (by rw [List.append_nil]; exact ha)
def rSlS : V → Option Int → Option Int → Hp → VK → Prop := fun x lo hi H Q => ∃ a xs, x = .ref a ∧ H a = some (.tup xs) ∧ ∀ (H' : Hp) (p : Addr), Same H H' → H' p = some (.tup (cutV xs lo hi)) → Q (.ref p) H'
theorem sl_tupS : SlR X rSlS := by
  intro pins s σ H x v vl vu lo hi sl Q I rx hs pl pu h
  obtain ⟨a, xs, rfl, hx, q⟩ := h
  refine sl_tupA pins s σ H _ v vl vu lo hi sl Q I rx hs pl pu ⟨a, xs, rfl, SqT.of hx, fun w => q H a (fun _ _ z => z) ?_, fun _ p np => q _ p (same_new np) upd_same⟩
  rw [hx]
  unfold cutV
  rw [w.1, w.2, List.drop_zero, Nat.sub_zero, List.take_length]
/-- xs != [] -/
def rNeE : R2 := fun x y H Q => ∃ (a b : Addr) (xs : List V), x = .ref a ∧ y = .ref b ∧ H a = some (.lst xs) ∧ H b = some (.lst []) ∧ Q (.bl (!xs.isEmpty)) H
theorem op_neE (hu : X.A.units + 66 < cLine) : OpR X (compareOp .NotEq) rNeE := by
  intro pins s σ H x y v u Q I rx ry h
  obtain ⟨a, b, xs, rfl, rfl, ha, hb, q⟩ := h
  cases (show v = Value.ref a from rx)
  cases (show u = Value.ref b from ry)
  obtain ⟨_, its, n, r, h1⟩ := (show ObjOk X.prog X.w H s.heap a (.lst xs) from I.hok a _ ha)
  obtain ⟨_, its2, n2, r2, h2⟩ := (show ObjOk X.prog X.w H s.heap b (.lst []) from I.hok b _ hb)
  cases r2
  show wpAny (model X.prog X.w) X.A (richCompare .NotEq (.ref a) (.ref b)) (EP X pins σ Q) X.xe s
  have hl2 : s.heap.IsList b (([] : List Value).toArray) := ⟨_, h2, rfl, _, rfl⟩
  have hl : s.heap.IsList a its.toArray := ⟨_, h1, rfl, _, rfl⟩
  cases r with
  | nil => exact SeqAt.RcNeAt.lists (A := X.A) (e := fun _ => true) hl hl2 rfl (by omega) (fun j j1 _ => absurd j1 (by show ¬ j < 0; omega)) X.prog X.w _ _ ⟨.bl _, H, I, rfl, q⟩
  | cons r1 rr => exact SeqAt.RcNeAt.lists_lengths (A := X.A) hl hl2 (by simp) (by omega) X.prog X.w _ _ ⟨.bl _, H, I, rfl, q⟩
end
end XV
namespace K5
open PySem PySem.Spec PyProof.Rows L2 XV NP
theorem addPC_snoc (l : List (N5.Pi Nat)) (q : N5.Pi Nat) (r : List Nat) (xs : List Int) : N5.addPC (l ++ [q]) r xs = if q.1 = r ∧ N5.plainB q.2.2 = false then l ++ [(r, q.2.1 + 0, N5.plus q.2.2 xs)] else l ++ [q] ++ [(r, 0, xs)] := by
  unfold N5.addPC
  rw [List.getLast?_concat]
  simp only
  rw [List.dropLast_concat]
def spAddP : Sp := fun vs H Q _ => ∃ (m k : Nat) (D f : Addr) (w : Str) (c : Int) (xs : List Int) (done : List Pc), vs = [.int m, .ref D, .str w, .ref f] ∧ m ≤ 3 ∧ k ≤ 900 ∧ PL H D done ∧ done.length ≤ 500 ∧ (∀ p ∈ done, Pz m k p) ∧ H f = some (.tup ((c :: xs).map V.int)) ∧ xs.length = m ∧ (∀ x ∈ xs, Sz k x) ∧
  ∀ (H' : Hp) (d2 : List Pc), Rest H H' D → PL H' D d2 → AddP done d2 (cs w) xs → d2.map pi = N5.addPC (done.map pi) (cs w) xs → d2.length ≤ done.length + 1 → (∀ p ∈ d2, Pz m (k + 1) p ∧ (p.1 = w ∨ ∃ p' ∈ done, p.1 = p'.1)) → Q .non H'
theorem at_last {α : Type} (xs : List α) (x : α) : atI (xs ++ [x]) (-1) = some x := by
  unfold atI ixN
  rw [if_neg (by decide), if_pos (by rw [List.length_append, List.length_singleton]; omega)]
  show (xs ++ [x])[(-1 + ((xs ++ [x]).length : Int)).toNat]? = _
  rw [List.length_append, List.length_singleton, show (-1 + ((xs.length + 1 : Nat) : Int)).toNat = xs.length by omega, List.getElem?_append_right (Nat.le_refl _), Nat.sub_self]
  rfl
theorem cols {m : Nat} {f g : Addr} {c : Int} {zs xs : List Int} (hz : zs.length = m) (hx : xs.length = m) : (List.range (m + 1)).map (col [(f, c :: zs), (g, 0 :: xs)]) = (c + 0) :: List.zipWith (· + ·) zs xs := by
  apply List.ext_getElem?
  intro i
  cases i with
  | zero => simp [List.range_succ_eq_map, col]
  | succ i =>
    rw [List.getElem?_map, List.getElem?_cons_succ, List.getElem?_zipWith]
    by_cases h : i < m
    · rw [List.getElem?_range (by omega), List.getElem?_eq_getElem (show i < zs.length by omega), List.getElem?_eq_getElem (show i < xs.length by omega)]
      simp [col, List.getD_eq_getElem?_getD, List.getElem?_eq_getElem (show i < zs.length by omega), List.getElem?_eq_getElem (show i < xs.length by omega)]
    · rw [List.getElem?_eq_none (by rw [List.length_range]; omega), List.getElem?_eq_none (by omega)]
      rfl
section
variable {P : Program} {w : World} {K : PySem.W.Frag} {mg : Str → Option Value} {base : Heap} {f : Addr} {fd : FuncData}
theorem ok_addP (F : FnP K "add_power" sAddP f fd) (o_plain : Ok P w K mg base "is_plain" 1 ["form"] spPlainQ) (o_sum : Ok P w K mg base "sum_of_forms" 1 ["many", "forms"] spSum) : FnOk P w K mg base CX0 2 f fd ["many", "done", "word", "form"] spAddP := by
  have nd := scAddP.nd
  refine F.ok scAddP (fun vs H Q E h => ?_) (fun cdv A outer s H vs Q E hr h => ?_)
  · obtain ⟨m, k, D, f, w, c, xs, done, rfl, _⟩ := h
    rfl
  · obtain ⟨m, k, D, fa, w0, c, xs, done, rfl, hm, hk, ⟨ys, hD, hP⟩, h500, hz, hf, hx, sx, q⟩ := h
    have ly := hP.len
    have szl := sizeLine_eq
    have r1 : Room 1 (A.deeper (envOfC "add_power" (defScope sAddP) s.heap.objs.size f cdv)) := hr.mono (by decide)
    have hu66 : (A.deeper (envOfC "add_power" (defScope sAddP) s.heap.objs.size f cdv)).units + 66 < cLine := by
      have := hr.un
      omega
    refine ⟨_, PSs.nox (pss_cons (ps_set (i := 4) nd rfl (Or.inl rfl) (pe_op op_catS (pe_tup (pa_cons pe_int pa_nil)) (pe_slice sl_tupS (pv 3) (po_some pe_int) po_none)))
 (C8.pss_cut (ps_if (PW.pt (pw_and (pt_cmpR (op_neE hu66) (pv 1) (pe_lst pa_nil) (nomark _)) (pw_and (pt_cmpR op_eq (pe_ix ix_tup (pe_ix ix_list (pv 1) (pe_un un_neg pe_int) (fun _ _ => rfl)) pe_int (fun _ _ => rfl)) (pv 2) (nomark _)) (pw_and1 (pt_not (pt_val (pe_callO o_plain r1 (by rfl) (pa_cons (pe_ix ix_tup (pe_ix ix_list (pv 1) (pe_un un_neg pe_int) (fun _ _ => rfl)) pe_int (fun _ _ => rfl)) pa_nil))))))))
    (pss_one (ps_set (i := 4) nd rfl (Or.inl rfl) (pe_callO o_sum r1 (by rfl) (pa_cons (pv 0) (pa_cons (pe_lst (pa_cons (pe_ix ix_tup (pe_bm0 PySem.F.plainAttrs_list PySem.F.slot_list_pop PySem.F.type_list_pop mt_pop (pv 1)) pe_int (fun _ _ => rfl)) (pa_cons (pv 4) pa_nil))) pa_nil))))) pss_nil)
 (pss_one (ps_expr (pe_bm PySem.F.plainAttrs_list PySem.F.slot_list_append PySem.F.type_list_append mt_append (pv 1) (pa_cons (pe_tup (pa_cons (pv 2) (pa_cons (pv 4) pa_nil))) pa_nil)))))), ?_⟩
    refine ⟨(by show 1 ≤ sizeLine; decide), fun t0 nt0 => ⟨_, rfl, _, rfl, fa, _, rfl, same_new nt0 _ _ hf, fun H1 t1 s1 ht1 => ?_⟩⟩
    have s01 := (same_new (o := .tup [.int 0]) nt0).trans s1
    have ht0 := s1 _ _ (upd_same (H := H) (a := t0) (o := .tup [.int 0]))
    rw [cut_rest] at ht1
    refine ⟨t0, t1, _, _, rfl, rfl, ht0, ht1, by rw [List.length_singleton, List.length_map]; omega, fun H2 pw0 s2 hp => ?_⟩
    have s02 := s01.trans s2
    have hp : H2 pw0 = some (.tup (((0 : Int) :: xs).map V.int)) := hp
    have hD2 := s02 _ _ hD
    have hP2 := hP.keep s02
    -- behind the if: what is at D, what is at power
    refine ⟨fun σ' H' => ∃ (d0 : List Pc) (ys0 : List V) (pf : Addr) (c' : Int) (xs' : List Int), σ' = [some (.int m), some (.ref D), some (.str w0), some (.ref fa), some (.ref pf)] ∧ Rest H H' D ∧ H' D = some (.lst ys0) ∧ Pcs H' ys0 d0 ∧ d0.length ≤ done.length ∧
      H' pf = some (.tup ((c' :: xs').map V.int)) ∧ AddP done (d0 ++ [(w0, c', xs')]) (cs w0) xs ∧ (d0 ++ [(w0, c', xs')]).map pi = N5.addPC (done.map pi) (cs w0) xs ∧ (∀ p ∈ d0, p ∈ done) ∧ Pz m (k + 1) (w0, c', xs'), ?_, ?_⟩
    · have plainWay : ∀ H', Same H2 H' → (done ++ [(w0, 0, xs)]).map pi = N5.addPC (done.map pi) (cs w0) xs → ∃ (d0 : List Pc) (ys0 : List V) (pf : Addr) (c' : Int) (xs' : List Int), ([some (.int m), some (.ref D), some (.str w0), some (.ref fa), some (.ref pw0)] : L2.St) = [some (.int m), some (.ref D), some (.str w0), some (.ref fa), some (.ref pf)] ∧ Rest H H' D ∧ H' D = some (.lst ys0) ∧ Pcs H' ys0 d0 ∧ d0.length ≤ done.length ∧
          H' pf = some (.tup ((c' :: xs').map V.int)) ∧ AddP done (d0 ++ [(w0, c', xs')]) (cs w0) xs ∧ (d0 ++ [(w0, c', xs')]).map pi = N5.addPC (done.map pi) (cs w0) xs ∧ (∀ p ∈ d0, p ∈ done) ∧ Pz m (k + 1) (w0, c', xs') := fun H' s' eno =>
        ⟨done, ys, pw0, 0, xs, rfl, (fun b o _ e => s' _ _ (s02 _ _ e)), s' _ _ hD2, hP2.keep s', Nat.le_refl _, s' _ _ hp, addP_new done w0 xs, eno, fun p h => h, ⟨⟨Int.le_refl 0, Int.pow_pos (by decide)⟩, hx, fun x h => Sz.le (sx x h) (by omega)⟩⟩
      refine ⟨_, rfl, (by show 0 ≤ sizeLine; decide), fun e0 ne0 => ?_⟩
      have s3 := same_new (o := .lst []) ne0
      refine ⟨D, e0, ys, rfl, rfl, s3 _ _ hD2, upd_same, _, rfl, ?_⟩
      have hD3 := s3 _ _ hD2
      have hP3 := hP2.keep s3
      have hp3 := s3 _ _ hp
      generalize upd H2 e0 (.lst []) = H3 at *
      by_cases en : done = []
      · subst en
        cases hP
        exact iteF (iteF (plainWay H3 s3 rfl))
      · obtain ⟨ys0, y, d0, p, rfl, rfl, hP0, ⟨ta, tf, rfl, hta, htf⟩⟩ := hP3.last en
        have ne : (!(ys0 ++ [V.ref ta]).isEmpty) = true := by simp
        rw [ne]
        have aty : atI (ys0 ++ [V.ref ta]) (-1) = some (V.ref ta) := at_last _ _
        refine iteT ⟨_, rfl, _, rfl, D, _, _, _, rfl, rfl, SqL.of hD3, aty, ta, _, _, _, rfl, rfl, SqT.of hta, (show atI [V.str p.1, V.ref tf] ((0 : Nat) : Int) = _ from atI_nat rfl), _, rfl, rfl, _, rfl, ite2 (fun e => ?_) (fun e => iteF (plainWay H3 s3 (by
          have e2 : ¬ cs p.1 = cs w0 := fun z => e (decide_eq_true (congrArg V.str (cs_ext z)))
          rw [List.map_append, List.map_append, List.map_cons, List.map_nil, addPC_snoc, if_neg (fun z => e2 z.1)]
          rfl)))⟩
        have e : p.1 = w0 := V.str.inj (of_decide_eq_true e)
        have pz := hz p (by simp)
        refine ⟨_, rfl, _, rfl, D, _, _, _, rfl, rfl, SqL.of hD3, aty, ta, _, _, _, rfl, rfl, SqT.of hta, (show atI [V.str p.1, V.ref tf] ((1 : Nat) : Int) = _ from atI_nat rfl), tf, p.2.1, p.2.2, rfl, htf, by rw [pz.l]; omega, fun H4 s4 => ⟨_, rfl, ?_⟩⟩
        by_cases pl : ∀ x ∈ p.2.2, x = 0
        · rw [decide_eq_true pl]
          exact iteF (plainWay H4 (s3.trans s4) (by
            have e2 : N5.plainB p.2.2 = true := (N5.plain_iff _).mpr pl
            rw [List.map_append, List.map_append, List.map_cons, List.map_nil, addPC_snoc, if_neg (fun z => by
              have z2 : N5.plainB p.2.2 = false := z.2
              rw [e2] at z2
              cases z2)]
            rfl))
        · rw [decide_eq_false pl]
          refine iteT ?_
          have hD4 := s4 _ _ hD3
          have hP4 := hP0.keep s4
          have hta4 := s4 _ _ hta
          have htf4 := s4 _ _ htf
          have hp4 := s4 _ _ hp3
          have rest4 : Rest H H4 D := fun b o _ h => s4 _ _ (s3 _ _ (s02 _ _ h))
          have hl0 : (ys0 ++ [V.ref ta])[(ys0 ++ [V.ref ta]).length - 1]? = some (V.ref ta) := by
            rw [List.length_append, List.length_singleton, Nat.add_sub_cancel, List.getElem?_append_right (Nat.le_refl _), Nat.sub_self]
            rfl
          refine ⟨_, rfl, _, rfl, .inl ⟨rfl, _, SqL.of hD4⟩, D, _, V.ref ta, rfl, rfl, hD4, hl0, ?_⟩
          rw [List.dropLast_concat]
          have nt : ta ≠ D := ne_of hta4 hD4 (by intro z; cases z)
          have nf : tf ≠ D := ne_of htf4 hD4 (by intro z; cases z)
          have np : pw0 ≠ D := ne_of hp4 hD4 (by intro z; cases z)
          have hta5 : (upd H4 D (.lst ys0)) ta = some (.tup [.str p.1, .ref tf]) := by rw [upd_ne nt]; exact hta4
          have htf5 : (upd H4 D (.lst ys0)) tf = some (.tup ((fm p).map V.int)) := by rw [upd_ne nf]; exact htf4
          have hp5 : (upd H4 D (.lst ys0)) pw0 = some (.tup (((0 : Int) :: xs).map V.int)) := by rw [upd_ne np]; exact hp4
          have hP5 : Pcs (upd H4 D (.lst ys0)) ys0 d0 := Pcs.updL hD4 hP4
          have hD5 : (upd H4 D (.lst ys0)) D = some (.lst ys0) := upd_same
          have rest5 : Rest H (upd H4 D (.lst ys0)) D := fun b o nb h => by rw [upd_ne nb]; exact rest4 b o nb h
          generalize upd H4 D (.lst ys0) = H5 at *
          refine ⟨ta, _, _, _, rfl, rfl, SqT.of hta5, (show atI [V.str p.1, V.ref tf] ((1 : Nat) : Int) = _ from atI_nat rfl), _, rfl, (by show 2 ≤ sizeLine; decide), fun l nl => ?_⟩
          have s6 := same_new (o := .lst [.ref tf, .ref pw0]) nl
          refine ⟨m, l, [(tf, fm p), (pw0, 0 :: xs)], rfl, upd_same, by omega, by show 2 ≤ 100; decide, fun z hz' => ?_, fun H6 r s7 nr hr6 => ?_⟩
          · rcases List.mem_cons.mp hz' with rfl | hz'
            · exact ⟨s6 _ _ htf5, by show p.2.2.length + 1 = m + 1; rw [pz.l]⟩
            · rcases List.mem_singleton.mp hz' with rfl
              exact ⟨s6 _ _ hp5, by show xs.length + 1 = m + 1; rw [hx]⟩
          · have s67 := s6.trans s7
            rw [show fm p = p.2.1 :: p.2.2 from rfl, cols pz.l hx] at hr6
            have lz : p.2.2.length = xs.length := by rw [pz.l, hx]
            refine ⟨d0, ys0, r, p.2.1 + 0, List.zipWith (· + ·) p.2.2 xs, rfl, fun b o nb h => s67 _ _ (rest5 b o nb h), s67 _ _ hD5, hP5.keep s67, by rw [List.length_append]; omega, hr6, ?_, ?_, fun z hz' => List.mem_append_left _ hz', ?_⟩
            · have j := addP_join d0 w0 p.2.1 p.2.2 xs pz.c.1 (fun x h => (pz.x x h).1) (fun x h => (sx x h).1) lz
              have ep : p = (w0, p.2.1, p.2.2) := by rw [← e]
              rw [← ep] at j
              exact j
            · have e2 : N5.plainB p.2.2 = false := by
                cases z : N5.plainB p.2.2 with
                | false => rfl
                | true => exact absurd ((N5.plain_iff _).mp z) pl
              rw [List.map_append, List.map_append, List.map_cons, List.map_nil, List.map_cons, List.map_nil, addPC_snoc, if_pos ⟨congrArg cs e, e2⟩]
              rfl
            · refine ⟨by show Sz (k + 1) (p.2.1 + 0); rw [Int.add_zero]; exact Sz.le pz.c (by omega), by show (List.zipWith (· + ·) p.2.2 xs).length = m; rw [List.length_zipWith, lz, Nat.min_self, hx], fun x h => ?_⟩
              obtain ⟨i, hi⟩ := List.mem_iff_getElem?.mp h
              rw [List.getElem?_zipWith] at hi
              cases e1 : p.2.2[i]? with
              | none => rw [e1] at hi; cases hi
              | some a =>
                cases e2 : xs[i]? with
                | none => rw [e1, e2] at hi; cases hi
                | some b =>
                  rw [e1, e2] at hi
                  cases hi
                  exact Sz.add (pz.x a (List.mem_of_getElem? e1)) (sx b (List.mem_of_getElem? e2))
    · rintro σ' H' ⟨d0, ys0, pf, c', xs', rfl, hR, hD', hP', l0, hpf, hA, hE, hmem, hpz⟩
      have l1 := hP'.len
      refine ⟨_, rfl, .inl ⟨rfl, _, SqL.of hD'⟩, _, rfl, _, rfl, (by show 2 ≤ sizeLine; decide), fun t nt => ?_⟩
      have s1 := same_new (o := .tup [.str w0, .ref pf]) nt
      have hD2' := s1 _ _ hD'
      refine ⟨D, ys0, _, rfl, rfl, hD2', small1000 (by omega), q _ (d0 ++ [(w0, c', xs')]) (fun b o nb e => ?_) ⟨_, upd_same, Pcs.updL hD2' (Pcs.snoc (m := (w0, c', xs')) ⟨t, pf, rfl, upd_same, s1 _ _ hpf⟩ (hP'.keep s1))⟩ hA hE (by rw [List.length_append, List.length_singleton]; omega) fun p hp => ?_⟩
      · rw [upd_ne nb]
        exact s1 _ _ (hR b o nb e)
      · rcases List.mem_append.mp hp with h | h
        · exact ⟨(hz p (hmem p h)).le (by omega), .inr ⟨p, hmem p h, rfl⟩⟩
        · rcases List.mem_singleton.mp h with rfl
          exact ⟨hpz, .inl rfl⟩
end
end K5
set_option Elab.async false
set_option linter.all false
set_option maxRecDepth 100000
set_option maxHeartbeats 8000000
namespace K5
open PySem PySem.Spec PyProof.Rows L2 XV NP
theorem lin_nn {m k0 : Nat} {ps : List Pc} (h : ∀ p ∈ ps, Pz m k0 p) (k : Nat → Bool) (j : Nat) : 0 ≤ lin k j ps := by
  induction ps with
  | nil => exact Int.le_refl 0
  | cons p ps ih =>
    have e : lin k j (p :: ps) = cn k p.1 * fj p j + lin k j ps := by
      unfold lin
      rw [List.map_cons, List.sum_cons]
    have z := h p List.mem_cons_self
    have a : 0 ≤ fj p j := by
      cases j with
      | zero => exact z.c.1
      | succ j => exact getD_nn (fun x hx => (z.x x hx).1) j
    have b : 0 ≤ cn k p.1 := by
      unfold cn
      omega
    have c := Int.mul_nonneg b a
    have d := ih fun q hq => h q (List.mem_cons_of_mem _ hq)
    rw [e]
    omega
def tt : Nat → Bool := fun _ => true
theorem cn_tt (w : Str) : cn tt w = ((cs w).length : Int) := by
  unfold cn tt
  rw [List.countP_true]
theorem mulOk {z : Str} {n : Int} (h0 : 0 ≤ n) (hz : cs z ≠ []) (hl : (cs z).length * n.toNat ≤ 100000) : MulOk z n := by
  have l1 : 1 ≤ (cs z).length := List.length_pos_iff.mpr hz
  have n1 : n.toNat ≤ 100000 := by
    have := Nat.mul_le_mul_right n.toNat l1
    omega
  refine ⟨?_, fun h _ => ?_, fun h _ => ?_⟩
  · rw [decide_eq_false (by omega), decide_eq_false (by omega)]
    rfl
  · rw [cs_len]
    have e : ((cs z).length : Int) * n ≤ 2 ^ 63 - 1 := by
      have e1 : (((cs z).length * n.toNat : Nat) : Int) = ((cs z).length : Int) * n := by rw [Int.natCast_mul, Int.toNat_of_nonneg h0]
      omega
    have := Int.le_ediv_of_mul_le (show 0 < n by omega) e
    omega
  · rw [cs_len]
    unfold Builtin.Str.tooLong
    exact decide_eq_false (by rw [sizeLine_eq]; omega)
theorem ab_sub {z : Str} {l : List Nat} (h : AB z) (s : ∀ c ∈ l, c ∈ cs z) : ∀ c ∈ l, c = 97 ∨ c = 98 := fun c hc => h c (s c hc)
theorem pw_mem {α : Type} {w : List α} {c : α} : ∀ {n : Nat}, c ∈ pw w n → c ∈ w
  | 0, h => by simp [pw_zero] at h
  | n + 1, h => by
    rw [pw_succ] at h
    rcases List.mem_append.mp h with h | h
    · exact h
    · exact pw_mem h
abbrev sNP : Stmt := top 43
abbrev nNP : List Str := ["many", "pieces", "done", "fixed", "word", "form", "root", "passing", "staying"]
theorem scNP : FnScope nNP ["many", "pieces"] (defScope sNP) := ⟨rfl, rfl, rfl, by decide +kernel, rfl, by decide +kernel, by decide +kernel⟩
/-- pieces that the law makes -/
structure Ps (m k : Nat) (ps : List Pc) : Prop where
  kk : k ≤ 600
  z : ∀ p ∈ ps, Pz m k p
  w : ∀ p ∈ ps, AB p.1 ∧ (cs p.1).length ≤ 2000
  l : ps.length ≤ 90
  c : lin tt 0 ps ≤ 2000
/-- what is done so far -/
structure Dn (m k : Nat) (done : List Pc) : Prop where
  z : ∀ p ∈ done, Pz m k p
  w : ∀ p ∈ done, AB p.1 ∧ (cs p.1).length ≤ 2000
  e : ∀ p ∈ done, cs p.1 ≠ []
def spNP : Sp := fun vs H Q _ => ∃ (m kb : Nat) (pl : Addr) (ps : List Pc), vs = [.int m, .ref pl] ∧ m ≤ 3 ∧ PL H pl ps ∧ Ps m kb ps ∧
  ∀ (H' : Hp) (l : Addr) (done : List Pc), Same H H' → H l = none → PL H' l done → NI ps done [] → done.map pi = N5.nrmC m (ps.map pi) → done.length ≤ 2 * ps.length + 1 → Dn m (kb + 200) done → Q (.ref l) H'
section
variable {P : Program} {w : World} {K : PySem.W.Frag} {mg : Str → Option Value} {base : Heap} {f : Addr} {fd : FuncData}
theorem ok_np (F : FnP K "normal_pieces" sNP f fd) (o_plain : Ok P w K mg base "is_plain" 1 ["form"] spPlainQ) (o_root : Ok P w K mg base "root_of" 1 ["word"] spRoot) (o_times : Ok P w K mg base "form_times" 1 ["form", "times"] spTimes)
    (o_common : Ok P w K mg base "common_end" 1 ["text", "word"] spCommon) (o_turned : Ok P w K mg base "turned" 1 ["word", "letters"] spTurned) (o_fixed : Ok P w K mg base "add_fixed" 2 ["many", "done", "word"] spAddF) (o_power : Ok P w K mg base "add_power" 2 ["many", "done", "word", "form"] spAddP)
    (z_any : mg "any" = none) (z_len : mg "len" = none) : FnOk P w K mg base CX0 3 f fd ["many", "pieces"] spNP := by
  have nd := scNP.nd
  refine F.ok scNP (fun vs H Q E h => ?_) (fun cdv A outer s H vs Q E hr h => ?_)
  · obtain ⟨m, kb, pl, ps, rfl, _⟩ := h
    rfl
  · obtain ⟨m, kb, pl, ps, rfl, hm, ⟨xs, hp, hP⟩, hPs, q⟩ := h
    have lx := hP.len
    have l20 := hPs.l
    have hkb := hPs.kk
    have szl := sizeLine_eq
    refine ⟨_, PSs.nox (pss_cons (ps_set (i := 2) nd rfl (Or.inl rfl) (pe_lst pa_nil))
 (pss_cons (ps_set (i := 3) nd rfl (Or.inl rfl) pe_str)
 (pss_cons (ps_for PassesOwn.never rfl (pi_list (pv 1)) (pg_tup rfl (pgs_cons (pg_name (i := 4) nd rfl (Or.inl rfl)) (pgs_cons (pg_name (i := 5) nd rfl (Or.inl rfl)) pgs_nil))) (pss_cons (ps_if (PW.pt (pw_or (pt_cmpR op_eq (pv 4) pe_str (nomark _)) (pw_or1 (pt_not (pt_val (pe_callB (call_anyT rfl) (by rfl) z_any (by decide +kernel) (pa_cons (pv 5) pa_nil))))))) (pss_one (ps_continue)) pss_nil)
 (pss_cons (ps_if (pt_val (pe_callO o_plain (hr.mono (by decide)) (by rfl) (pa_cons (pv 5) pa_nil))) (pss_cons (ps_aug (i := 3) nd rfl (Or.inl rfl) (pe_op op_mulS (pv 4) (pe_ix ix_tup (pv 5) pe_int (fun _ _ => rfl))) ip_addS)
 (pss_one (ps_continue))) pss_nil)
 (pss_cons (ps_set (i := 6) nd rfl (Or.inl rfl) (pe_callO o_root (hr.mono (by decide)) (by rfl) (pa_cons (pv 4) pa_nil)))
 (pss_cons (ps_set (i := 5) nd rfl (Or.inl rfl) (pe_callO o_times (hr.mono (by decide)) (by rfl) (pa_cons (pv 5) (pa_cons (pe_op op_fdivN (pe_callB call_len (by rfl) z_len boot_len (pa_cons (pv 4) pa_nil)) (pe_callB call_len (by rfl) z_len boot_len (pa_cons (pv 6) pa_nil))) pa_nil))))
 (pss_cons (ps_set (i := 7) nd rfl (Or.inl rfl) (pe_callO o_common (hr.mono (by decide)) (by rfl) (pa_cons (pv 3) (pa_cons (pv 6) pa_nil))))
 (pss_cons (ps_set (i := 8) nd rfl (Or.inl rfl) (pe_slice sl_str (pv 3) po_none (po_some (pe_op op_sub (pe_callB call_len (by rfl) z_len boot_len (pa_cons (pv 3) pa_nil)) (pv 7)))))
 (pss_cons (ps_expr (pe_callO o_fixed (hr.mono (by decide)) (by rfl) (pa_cons (pv 0) (pa_cons (pv 2) (pa_cons (pv 8) pa_nil)))))
 (pss_cons (ps_expr (pe_callO o_power (hr.mono (by decide)) (by rfl) (pa_cons (pv 0) (pa_cons (pv 2) (pa_cons (pe_callO o_turned (hr.mono (by decide)) (by rfl) (pa_cons (pv 6) (pa_cons (pv 7) pa_nil))) (pa_cons (pv 5) pa_nil))))))
 (pss_one (ps_set (i := 3) nd rfl (Or.inl rfl) (pe_op op_add_str (pe_slice sl_str (pv 3) (po_some (pe_callB call_len (by rfl) z_len boot_len (pa_cons (pv 8) pa_nil))) po_none) (pe_op op_mulS (pv 6) (pe_ix ix_tup (pv 5) pe_int (fun _ _ => rfl)))))))))))))))
 (pss_cons (ps_expr (pe_callO o_fixed (hr.mono (by decide)) (by rfl) (pa_cons (pv 0) (pa_cons (pv 2) (pa_cons (pv 3) pa_nil)))))
 (pss_one (ps_ret (pv 2))))))), ?_⟩
    refine ⟨(by show 0 ≤ sizeLine; decide), fun D nD => ?_⟩
    have s1 := same_new (o := .lst []) nD
    have sR : ∀ {H1 H2 : Hp}, Same H H1 → Rest H1 H2 D → Same H H2 := fun s r b o e => r b o (ne_of_none e nD) (s b o e)
    refine ⟨_, rfl, pl, rfl, ⟨_, SqL.of (s1 _ _ hp)⟩, for_list (K := K) (a := pl) (xs := xs) (fun i σ H' => Same H H' ∧ ∃ (fx : Str) (done : List Pc) (x4 x5 x6 x7 x8 : Option V), σ = [some (.int m), some (.ref pl), some (.ref D), some (.str fx), x4, x5, x6, x7, x8] ∧
      PL H' D done ∧ NI (ps.take i) done (cs fx) ∧ ((ps.take i).map pi).foldl (N5.stepC m) ([], []) = (done.map pi, cs fx) ∧ done.length ≤ 2 * i ∧ Dn m (kb + 100 + i) done ∧ AB fx) ⟨s1, "", [], _, _, _, _, _, rfl, ⟨[], upd_same, .nil⟩, NI.nil, (by
        have e : cs ("" : Str) = [] := by decide +kernel
        rw [e]
        rfl), Nat.le_refl _, ⟨fun p hp => (by cases hp), fun p hp => (by cases hp), fun p hp => (by cases hp)⟩, fun c hc => (by
        have e : cs ("" : Str) = [] := by decide +kernel
        rw [e] at hc
        cases hc)⟩ (fun i σ H' _ z => SqL.of (z.1 _ _ hp)) ?_ ?_⟩
    · rintro i y σ H1 hi ⟨sm, fx, done, x4, x5, x6, x7, x8, rfl, hL, ni, ef, ld, dn, afx⟩
      obtain ⟨p, ep, ⟨a, f1, rfl, ha, hf⟩⟩ := (hP.keep sm).get hi
      have li : i < 90 := by
        have := (List.getElem?_eq_some_iff.mp ep).1
        omega
      have pz := hPs.z p (List.mem_of_getElem? ep)
      obtain ⟨abp, l2000⟩ := hPs.w p (List.mem_of_getElem? ep)
      have etk : ps.take (i + 1) = ps.take i ++ [p] := by rw [List.take_add_one, ep]; rfl
      have efs : ((ps.take (i + 1)).map pi).foldl (N5.stepC m) ([], []) = N5.stepC m (done.map pi, cs fx) (pi p) := by
        rw [etk, List.map_append, List.foldl_append, ef]
        rfl
      -- how long the fixed word is
      have total : lin tt 0 (ps.take (i + 1)) ≤ 2000 := by
        have e : lin tt 0 ps = lin tt 0 (ps.take (i + 1)) + lin tt 0 (ps.drop (i + 1)) := by rw [← lin_app, List.take_append_drop]
        have n := lin_nn (fun p hp => hPs.z p (List.mem_of_mem_drop hp)) tt 0 (ps := ps.drop (i + 1))
        have := hPs.c
        omega
      have parts : ((cs fx).length : Int) + ((cs p.1).length : Int) * p.2.1 ≤ 2000 := by
        rw [etk, lin_app, lin_one, ni.n, if_pos rfl, cn_tt] at total
        have n := lin_nn dn.z tt 0
        have e : (cs fx).countP tt = (cs fx).length := by
            show (cs fx).countP (fun _ => true) = _
            rw [List.countP_true]
        rw [e] at total
        have : fj p 0 = p.2.1 := rfl
        rw [this] at total
        omega
      have c0 := pz.c.1
      have pos2 : 0 ≤ ((cs p.1).length : Int) * p.2.1 := Int.mul_nonneg (by omega) c0
      have lfx : (cs fx).length ≤ 2000 := by omega
      have dp : ∀ (H0 : Hp) (l : List Int), DpAll K H0 (l.map V.int) (l.map PyData.int) := fun H0 l => by
        induction l with
        | nil => exact .nil
        | cons x l ih => exact .cons (.int x) ih
      have pa : ∀ l : List Int, PyData.plainAll (l.map PyData.int) = true := fun l => by
        induction l with
        | nil => simp [PyData.plainAll]
        | cons x xs ih => simp [PyData.plainAll, PyData.plain, ih]
      have tr : ∀ l : List Int, ((l.map PyData.int).any PyData.truthy) = decide (¬ ∀ x ∈ l, x = 0) := fun l => by
        induction l with
        | nil => simp
        | cons x xs ih =>
          rw [List.map_cons, List.any_cons, ih]
          by_cases h : x = 0
          · simp [PyData.truthy, h]
          · simp [PyData.truthy, h]
      refine ⟨a, _, rfl, SqT.of ha, rfl, _, _, rfl, _, _, rfl, rfl, ?_⟩
      refine ⟨_, rfl, rfl, _, rfl, ite2 (fun e => ?_) (fun e => ?_)⟩
      · have e : p.1 = "" := V.str.inj (of_decide_eq_true e)
        have e0 : cs p.1 = [] := by rw [e]; decide +kernel
        refine iteT ⟨sm, fx, done, _, _, _, _, _, rfl, hL, ?_, ?_, by omega, ⟨fun q hq => (dn.z q hq).le (by omega), dn.w, dn.e⟩, afx⟩
        · rw [etk]
          exact ni.skip p (.inl e0)
        · rw [efs]
          unfold N5.stepC
          rw [if_pos (show (pi p).1 = [] ∨ ((pi p).2.1 = 0 ∧ N5.plainB (pi p).2.2 = true) from Or.inl e0)]
      have ne : cs p.1 ≠ [] := fun z => e (by rw [cs_nil z]; exact decide_eq_true rfl)
      refine ⟨_, rfl, f1, _, (fm p).map PyData.int, rfl, SqT.of hf, dp _ _, pa _, ?_, _, rfl, ?_⟩
      · intro d hd
        obtain ⟨x, _, rfl⟩ := List.mem_map.mp hd
        trivial
      rw [tr]
      by_cases az : ∀ x ∈ fm p, x = 0
      · rw [decide_eq_false (fun z => z az)]
        refine iteT ⟨sm, fx, done, _, _, _, _, _, rfl, hL, ?_, ?_, by omega, ⟨fun q hq => (dn.z q hq).le (by omega), dn.w, dn.e⟩, afx⟩
        · rw [etk]
          exact ni.skip p (.inr ⟨az _ List.mem_cons_self, fun x hx => az x (List.mem_cons_of_mem _ hx)⟩)
        · rw [efs]
          unfold N5.stepC
          rw [if_pos (show (pi p).1 = [] ∨ ((pi p).2.1 = 0 ∧ N5.plainB (pi p).2.2 = true) from Or.inr ⟨az _ List.mem_cons_self, (N5.plain_iff _).mpr fun x hx => az x (List.mem_cons_of_mem _ hx)⟩)]
      rw [decide_eq_true az]
      have c1 : ¬ ((pi p).1 = [] ∨ ((pi p).2.1 = 0 ∧ N5.plainB (pi p).2.2 = true)) := by
        rintro (z | ⟨z1, z2⟩)
        · exact ne z
        · refine az fun x hx => ?_
          rcases List.mem_cons.mp hx with rfl | hx
          · exact z1
          · exact (N5.plain_iff _).mp z2 x hx
      refine iteF ⟨_, rfl, f1, p.2.1, p.2.2, rfl, hf, by rw [pz.l]; omega, fun H2 s2 => ⟨_, rfl, ?_⟩⟩
      have hf2 := s2 _ _ hf
      have sm2 := sm.trans s2
      have hL2 : PL H2 D done := by
        obtain ⟨ys, h1, h2⟩ := hL
        exact ⟨ys, s2 _ _ h1, h2.keep s2⟩
      have at0 : ∀ (c : Int) (l : List Int), atI ((c :: l).map V.int) ((0 : Nat) : Int) = some (V.int c) := fun c l => atI_nat rfl
      by_cases pl0 : ∀ x ∈ p.2.2, x = 0
      · rw [decide_eq_true pl0]
        have lm : (cs p.1).length * p.2.1.toNat ≤ 2000 := by
          have e1 : (((cs p.1).length * p.2.1.toNat : Nat) : Int) = ((cs p.1).length : Int) * p.2.1 := by rw [Int.natCast_mul, Int.toNat_of_nonneg c0]
          omega
        refine iteT ⟨_, rfl, _, rfl, _, rfl, f1, _, _, _, rfl, rfl, SqT.of hf2, at0 _ _, _, _, rfl, rfl, mulOk c0 ne (by omega), _, _, rfl, rfl, ?_, ?_⟩
        · rw [cs_len, cs_len, cs_mul _ c0, pw_len]
          rw [Nat.mul_comm] at lm
          omega
        · refine ⟨sm2, _, done, _, _, _, _, _, rfl, hL2, ?_, ?_, by omega, ⟨fun q hq => (dn.z q hq).le (by omega), dn.w, dn.e⟩, fun c hc => ?_⟩
          · rw [etk, cs_app, cs_mul _ c0]
            exact ni.plain p c0 pl0
          · rw [efs, cs_app, cs_mul _ c0]
            unfold N5.stepC
            rw [if_neg c1, if_pos (show N5.plainB (pi p).2.2 = true from (N5.plain_iff _).mpr pl0)]
            rfl
          · rw [cs_app, cs_mul _ c0] at hc
            rcases List.mem_append.mp hc with h | h
            · exact afx c h
            · exact abp c (pw_mem h)
      rw [decide_eq_false pl0]
      refine iteF ⟨_, rfl, p.1, rfl, ne, by omega, fun r hroot => ?_⟩
      have c2 : ¬ N5.plainB (pi p).2.2 = true := fun z => pl0 ((N5.plain_iff _).mp z)
      obtain ⟨pr1, pr2⟩ := N5.rootOf_prim ne
      rw [← hroot] at pr1 pr2
      obtain ⟨n, hn⟩ : ∃ n, n = N5.times (cs p.1) := ⟨_, rfl⟩
      have hpw : cs p.1 = pw (cs r) n := by rw [hn]; exact pr2
      have hr0 : 0 < (cs r).length := pr1.pos
      have hlen : (cs p.1).length = n * (cs r).length := by
        have e := congrArg List.length hpw
        rw [pw_len] at e
        exact e
      have nr : cs r ≠ [] := List.length_pos_iff.mp hr0
      have n1 : 1 ≤ n := by
        by_cases z : n = 0
        · rw [z, Nat.zero_mul] at hlen
          exact absurd (List.length_eq_zero_iff.mp hlen) ne
        · omega
      have lr : (cs r).length ≤ 2000 := by
        have := Nat.mul_le_mul_right (cs r).length n1
        omega
      have ln : n ≤ 2000 := by
        have := Nat.mul_le_mul_left n (show 1 ≤ (cs r).length by omega)
        omega
      have div : Int.fdiv ((cs p.1).length : Int) ((cs r).length : Int) = (n : Int) := by
        rw [← Int.ofNat_fdiv, hlen, Nat.mul_div_cancel _ hr0]
      have abr : AB r := fun c hc => abp c (by
        rw [hpw]
        obtain ⟨k, rfl⟩ : ∃ k, n = k + 1 := ⟨n - 1, by omega⟩
        rw [pw_succ]
        exact List.mem_append_left _ hc)
      have pm : ∀ x : Int, Sz kb x → Sz (kb + 100) (x * (n : Int)) := fun x h => by
        have := Sz.mul (k := kb) (l := 100) h (y := (n : Int)) ⟨by omega, Int.lt_of_le_of_lt (b := 2000) (by omega) (by decide)⟩
        exact this
      refine ⟨_, rfl, _, rfl, _, (cs p.1).length, rfl, ⟨by rw [cs_len]; omega, cs_len _⟩, _, rfl, _, (cs r).length, rfl, ⟨by rw [cs_len]; omega, cs_len _⟩, _, _, rfl, rfl, ⟨by omega, by omega⟩, f1, (n : Int), fm p, by rw [← div]; rfl, hf2, by show p.2.2.length + 1 ≤ 100; rw [pz.l]; omega, ?_, ⟨by omega, Int.lt_of_le_of_lt (b := 2000) (by omega) (by decide +kernel)⟩, fun H3 g s3 ng hg => ?_⟩
      · intro x hx
        rcases List.mem_cons.mp hx with rfl | hx
        · exact Sz.le pz.c (by omega)
        · exact Sz.le (pz.x x hx) (by omega)
      have hg : H3 g = some (.tup (((p.2.1 * (n : Int)) :: p.2.2.map (· * (n : Int))).map V.int)) := hg
      refine ⟨_, rfl, _, rfl, fx, r, rfl, nr, by omega, by omega, fun same esame => ?_⟩
      have hs : same ≤ (cs fx).length := by rw [esame]; exact N5.cend_le _ _
      have hend : ∀ i, i < same → (cs fx)[(cs fx).length - 1 - i]? = (cs r)[(cs r).length - 1 - i % (cs r).length]? := fun i hi => cend_agree (by rw [← esame]; exact hi)
      have sm3 := sm2.trans s3
      obtain ⟨ys, hD3, hP3⟩ : PL H3 D done := by
        obtain ⟨ys, h1, h2⟩ := hL2
        exact ⟨ys, s3 _ _ h1, h2.keep s3⟩
      have esub : ((cs fx).length : Int) - (same : Int) = (((cs fx).length - same : Nat) : Int) := by omega
      refine ⟨_, rfl, _, rfl, _, (cs fx).length, rfl, ⟨by rw [cs_len]; omega, cs_len _⟩, _, rfl, _, _, rfl, rfl, _, rfl, _, rfl, by rw [cs_len]; omega, ?_⟩
      have est : cs (cutS fx none (some (((cs fx).length : Int) - (same : Int)))) = (cs fx).take ((cs fx).length - same) := by rw [esub, cut_to _ _ (by omega)]
      have lst : (cs (cutS fx none (some (((cs fx).length : Int) - (same : Int))))).length = (cs fx).length - same := by rw [est, List.length_take]; omega
      refine ⟨_, rfl, _, rfl, _, rfl, m, D, _, done, rfl, hm, ⟨ys, hD3, hP3⟩, by omega, fun H4 d1 R4 hL4 A1 E1 l1 mem1 => ?_⟩
      rw [est] at E1
      have A1 : AddF m done d1 ((cs fx).take ((cs fx).length - same)) := by
        rw [← est]
        exact A1
      have sm4 := sR sm3 R4
      have hg4 : H4 g = some (.tup (((p.2.1 * (n : Int)) :: p.2.2.map (· * (n : Int))).map V.int)) := R4 _ _ (ne_of hg hD3 (by intro z; cases z)) hg
      have abst : AB (cutS fx none (some (((cs fx).length : Int) - (same : Int)))) := fun c hc => afx c (by
        rw [est] at hc
        exact List.mem_of_mem_take hc)
      have dz1 : ∀ q ∈ d1, Pz m (kb + 100 + i) q := fun q hq => by
        rcases mem1 q hq with h | ⟨rfl, _⟩
        · exact dn.z q h
        · refine ⟨⟨by show (0 : Int) ≤ 1; decide, ?_⟩, List.length_replicate, fun x hx => ?_⟩
          · show (1 : Int) < 2 ^ (kb + 100 + i)
            exact (Sz.le (k := 1) (l := kb + 100 + i) (x := 1) ⟨by decide, by decide⟩ (by omega)).2
          · rw [(List.mem_replicate.mp hx).2]
            exact ⟨Int.le_refl 0, Int.pow_pos (by decide)⟩
      refine ⟨_, rfl, _, rfl, _, rfl, _, rfl, r, same, rfl, nr, by omega, fun tr0 htr => ⟨_, rfl, m, kb + 100 + i, D, g, tr0, _, _, d1, rfl, hm, by omega, hL4, by omega, dz1, hg4, by rw [List.length_map, pz.l], ?_, fun H5 d2 R5 hL5 A2 E2 l2 mem2 => ?_⟩⟩
      · intro x hx
        obtain ⟨x0, hx0, rfl⟩ := List.mem_map.mp hx
        exact Sz.le (pm x0 (pz.x x0 hx0)) (by omega)
      have sm5 := sR sm4 R5
      obtain ⟨ys4, hD4, _⟩ := id hL4
      have hg5 := R5 _ _ (ne_of hg4 hD4 (by intro z; cases z)) hg4
      have htn := htr
      have htr : cs tr0 = turnW (cs r) (same % (cs r).length) := htr
      rw [htr] at A2
      have nn : 0 ≤ p.2.1 * (n : Int) := Int.mul_nonneg c0 (by omega)
      have lm : (cs r).length * (p.2.1 * (n : Int)).toNat ≤ 2000 := by
        have e1 : (((cs r).length * (p.2.1 * (n : Int)).toNat : Nat) : Int) = ((cs p.1).length : Int) * p.2.1 := by
          rw [Int.natCast_mul, Int.toNat_of_nonneg nn, hlen, Int.natCast_mul, Int.mul_comm p.2.1, ← Int.mul_assoc, Int.mul_comm ((cs r).length : Int)]
        omega
      refine ⟨_, rfl, _, rfl, _, (cs fx).length - same, rfl, ⟨by rw [cs_len, lst]; omega, by rw [cs_len, lst]⟩, _, rfl, _, rfl, by rw [cs_len]; omega, ?_⟩
      have edr : cs (cutS fx (some (((cs fx).length - same : Nat) : Int)) none) = (cs fx).drop ((cs fx).length - same) := cut_from _ _ (by omega)
      refine ⟨_, rfl, _, rfl, g, _, _, _, rfl, rfl, SqT.of hg5, at0 _ _, _, _, rfl, rfl, mulOk nn nr (by omega), _, _, rfl, rfl, ?_, ?_⟩
      · rw [cs_len, cs_len, edr, cs_mul _ nn, pw_len, List.length_drop]
        rw [Nat.mul_comm] at lm
        omega
      · refine ⟨sm5, _, d2, _, _, _, _, _, rfl, hL5, ?_, ?_, by omega, ⟨fun q hq => (mem2 q hq).1, fun q hq => ?_, fun q hq => ?_⟩, fun c hc => ?_⟩
        · rw [etk, cs_app, edr, cs_mul _ nn]
          exact ni.power p c0 (fun x hx => (pz.x x hx).1) hr0 hpw hs hend A1 A2
        · rw [efs, cs_app, edr, cs_mul _ nn]
          unfold N5.stepC
          rw [if_neg c1, if_neg c2]
          show (N5.addPC (N5.addFC m (done.map pi) ((cs fx).take ((cs fx).length - N5.cend (cs fx) (N5.rootOf (cs p.1))))) (N5.tn (N5.rootOf (cs p.1)) (N5.cend (cs fx) (N5.rootOf (cs p.1)))) (p.2.2.map (· * (N5.times (cs p.1) : Int))), (cs fx).drop ((cs fx).length - N5.cend (cs fx) (N5.rootOf (cs p.1))) ++ pw (N5.rootOf (cs p.1)) (p.2.1 * (N5.times (cs p.1) : Int)).toNat) = _
          rw [← hroot, ← hn, ← esame, E2, E1, htn]
        · have base1 : ∀ q ∈ d1, AB q.1 ∧ (cs q.1).length ≤ 2000 := fun q hq => by
            rcases mem1 q hq with h | ⟨rfl, _⟩
            · exact dn.w q h
            · exact ⟨abst, by show (cs (cutS fx none _)).length ≤ 2000; rw [lst]; omega⟩
          rcases (mem2 q hq).2 with e | ⟨q', hq', e⟩
          · rw [e]
            refine ⟨fun c hc => abr c ?_, ?_⟩
            · rw [htr] at hc
              rcases List.mem_append.mp hc with h | h
              · exact List.mem_of_mem_drop h
              · exact List.mem_of_mem_take h
            · rw [htr]
              unfold turnW
              rw [List.length_append, List.length_drop, List.length_take]
              omega
          · rw [e]
            exact base1 q' hq'
        · rcases (mem2 q hq).2 with e | ⟨q', hq', e⟩
          · rw [e, htr]
            refine List.length_pos_iff.mp ?_
            unfold turnW
            rw [List.length_append, List.length_drop, List.length_take]
            omega
          · rw [e]
            rcases mem1 q' hq' with h | ⟨rfl, ne⟩
            · exact dn.e q' h
            · exact ne
        · rw [cs_app, edr, cs_mul _ nn] at hc
          rcases List.mem_append.mp hc with h | h
          · exact afx c (List.mem_of_mem_drop h)
          · exact abr c (pw_mem h)
    · rintro σ H1 ⟨sm, fx, done, x4, x5, x6, x7, x8, rfl, hL, ni, ef, ld, dn, afx⟩
      rw [lx, List.take_length] at ni
      refine ⟨_, rfl, _, rfl, _, rfl, m, D, fx, done, rfl, hm, hL, by omega, fun H2 d2 R2 hL2 A2 E2 l2 mem2 => ⟨_, rfl, q H2 D d2 (sR sm R2) nD hL2 ⟨fun ys hy => ?_, fun k j => ?_⟩ (by
        rw [lx, List.take_length] at ef
        unfold N5.nrmC
        rw [ef]
        exact E2) (by omega) ⟨fun p hp => ?_, fun p hp => ?_, fun p hp => ?_⟩⟩⟩
      · rw [ni.v ys hy, A2.1 ys hy, List.append_nil]
      · rw [ni.n, A2.2]
        cases j with
        | zero => simp
        | succ j => simp
      · rcases mem2 p hp with h | ⟨rfl, _⟩
        · exact (dn.z p h).le (by omega)
        · refine ⟨⟨by show (0 : Int) ≤ 1; decide, ?_⟩, List.length_replicate, fun x hx => ?_⟩
          · exact (Sz.le (k := 1) (l := kb + 200) (x := 1) ⟨by decide, by decide⟩ (by omega)).2
          · rw [(List.mem_replicate.mp hx).2]
            exact ⟨Int.le_refl 0, Int.pow_pos (by decide)⟩
      · rcases mem2 p hp with h | ⟨rfl, _⟩
        · exact dn.w p h
        · refine ⟨afx, ?_⟩
          have total := hPs.c
          rw [ni.n, if_pos rfl] at total
          have n := lin_nn dn.z tt 0
          have e : (cs fx).countP tt = (cs fx).length := by
            show (cs fx).countP (fun _ => true) = _
            rw [List.countP_true]
          rw [e] at total
          show (cs fx).length ≤ 2000
          omega
      · rcases mem2 p hp with h | ⟨rfl, ne⟩
        · exact dn.e p h
        · exact ne
end
end K5
set_option Elab.async false
set_option linter.all false
set_option maxRecDepth 100000
set_option maxHeartbeats 4000000
namespace K5
open PySem PySem.Spec PyProof.Rows L2 XV NP
/-! ### the errors -/
def nm4 (i : Nat) : Str := (["InvalidText", "InvalidPoint", "InvalidWord", "InvalidNumber", "TooLong", "Unlike", "InvalidList"] : List Str).getD i "LoopError"
abbrev C4 (K : PySem.W.Frag) (i : Nat) : Addr := He.ga K (nm4 i)
structure Cl4 (P : Program) (w : World) (K : PySem.W.Frag) (mg : Str → Option Value) (base : Heap) : Prop where
  x : ∀ i, i < 7 → ∃ fI fd, XCls P w K mg base (nm4 i) "value" (C4 K i) fI fd
  g : ∀ i, i < 8 → mg (nm4 i) = some (.ref (C4 K i))
  e : ∀ i, i < 7 → ExcC K (C4 K i)
  f : ∀ i, i < 7 → XF K (C4 K i) "value"
  kit : ∀ i, i < 7 → ∀ j, j < 7 → PySem.W.kitOne K (.ref (C4 K i)) (.ref (C4 K j)) = some (decide (i = j))
  exm : ∀ i, i < 7 → PySem.W.exmOne K (.ref (C4 K i)) (.ref (C4 K 7)) = some true
  own : ∀ i, i < 7 → PySem.W.exmOne K (.ref (C4 K i)) (.ref (C4 K i)) = some true
/-- the wish: an error of the class at C with the value v -/
def Rz (E : XK) (H : Hp) (C : Addr) (v : L2.V) : Prop := ∀ (H' : Hp) (d : Addr), Same H H' → H' d = none → E (.ref C) (some d) (upd H' d (.xd [("value", v)]))
theorem Rz.at {E : XK} {H H1 : Hp} {C : Addr} {v : L2.V} (h : Rz E H C v) (s : Same H H1) : Rz E H1 C v := fun H' d s1 n => h H' d (s.trans s1) n
end K5
set_option Elab.async false
set_option linter.all false
set_option maxRecDepth 100000
set_option maxHeartbeats 4000000
namespace K5
open PySem PySem.Spec PyProof.Rows L2 XV
/-- whether a value is a form for m unknowns -/
def IsF (H : Hp) (m : Nat) (v : V) (b : Bool) : Prop := (∃ a xs, v = .ref a ∧ H a = some (.tup xs) ∧ xs.length ≤ 100 ∧ (∀ x ∈ xs, Kn H x) ∧ b = (decide (xs.length = m + 1) && xs.all cntV)) ∨
  (((∃ a xs, v = .ref a ∧ H a = some (.lst xs)) ∨ (∃ i, v = .int i) ∨ v = .non ∨ (∃ z, v = .bl z) ∨ ∃ z, v = .str z) ∧ b = false)
/-- whether it is a list of m counts -/
def IsP (H : Hp) (m : Nat) (v : V) (b : Bool) : Prop := (∃ a xs, v = .ref a ∧ H a = some (.lst xs) ∧ xs.length ≤ 100 ∧ (∀ x ∈ xs, Kn H x) ∧ b = (decide (xs.length = m) && xs.all cntV)) ∨
  (((∃ a xs, v = .ref a ∧ H a = some (.tup xs)) ∨ (∃ i, v = .int i) ∨ v = .non ∨ (∃ z, v = .bl z) ∨ ∃ z, v = .str z) ∧ b = false)
theorem IsF.keep {H H' : Hp} (s : Same H H') {m : Nat} {v : V} {b : Bool} (h : IsF H m v b) : IsF H' m v b := by
  rcases h with ⟨a, xs, e, h1, h2, h3, h4⟩ | ⟨h, e⟩
  · exact .inl ⟨a, xs, e, s _ _ h1, h2, fun x hx => (h3 x hx).keep s, h4⟩
  · refine .inr ⟨?_, e⟩
    rcases h with ⟨a, xs, e, h⟩ | h
    · exact .inl ⟨a, xs, e, s _ _ h⟩
    · exact .inr h
theorem IsP.keep {H H' : Hp} (s : Same H H') {m : Nat} {v : V} {b : Bool} (h : IsP H m v b) : IsP H' m v b := by
  rcases h with ⟨a, xs, e, h1, h2, h3, h4⟩ | ⟨h, e⟩
  · exact .inl ⟨a, xs, e, s _ _ h1, h2, fun x hx => (h3 x hx).keep s, h4⟩
  · refine .inr ⟨?_, e⟩
    rcases h with ⟨a, xs, e, h⟩ | h
    · exact .inl ⟨a, xs, e, s _ _ h⟩
    · exact .inr h
def spHasForm : Sp := fun vs H Q _ => ∃ (m : Nat) (v : V) (b : Bool), vs = [.int m, v] ∧ IsF H m v b ∧ ∀ H', Same H H' → Q (.bl b) H'
def spIsPoint : Sp := fun vs H Q _ => ∃ (m : Nat) (v : V) (b : Bool), vs = [.int m, v] ∧ IsP H m v b ∧ ∀ H', Same H H' → Q (.bl b) H'
theorem nat_dec (x y : Nat) : decide (V.int (x : Int) = V.int (y : Int)) = decide (x = y) := by
  by_cases e : x = y
  · rw [e, decide_eq_true rfl, decide_eq_true rfl]
  · rw [decide_eq_false e, decide_eq_false]
    intro z
    have := V.int.inj z
    omega
section
variable {P : Program} {w : World} {K : PySem.W.Frag} {mg : Str → Option Value} {base : Heap} {f : Addr} {fd : FuncData}
theorem ok_hasForm (F : FnP K "has_form" sHasForm f fd) (o_is_count : Ok P w K mg base "is_count" 2 ["value"] spCount) (z_isinstance : mg "isinstance" = none) (z_tuple : mg "tuple" = none) (z_len : mg "len" = none) (z_all : mg "all" = none) :
    FnOk P w K mg base CX0 3 f fd ["many", "item"] spHasForm := by
  have nd := scHasForm.nd
  refine F.ok scHasForm (fun vs H Q E h => ?_) (fun cdv A outer s H vs Q E hr h => ?_)
  · obtain ⟨m, v, b, rfl, _⟩ := h
    rfl
  · obtain ⟨m, v, b, rfl, hF, q⟩ := h
    have hr2 : Room 2 (A.deeper (envOfC "has_form" (defScope sHasForm) s.heap.objs.size f cdv)) := hr
    refine ⟨_, PSs.nox (pss_one (ps_ret (pe_and (pe_callB call_isi (by rfl) z_isinstance (by decide +kernel) (pa_cons (pv 1) (pa_cons (pe_bltn (v := .ty "tuple") (by rfl) z_tuple (by decide +kernel) rfl) pa_nil))) (pe_and (pe_cmpR op_eq (pe_callB call_len (by rfl) z_len boot_len (pa_cons (pv 1) pa_nil)) (pe_op op_add (pv 0) pe_int) (nomark _)) (pe_one (pe_callB (cr_all rfl) (by rfl) z_all (by decide +kernel) (pa_cons
      (pe_lc (own := [("number", 2)]) (g := gName 2) (by rfl) nd (pi_tup (pv 1)) (blkOk_by (N := ["many", "item", "number"]) (sc := defScope sHasForm) (own := [("number", 2)]) (by decide +kernel)) (fun _ _ _ _ _ => pg_name (i := 2) nd rfl (Or.inl rfl)) (fun _ _ _ _ _ => pts_nil) (fun _ _ _ _ _ => pe_callO o_is_count hr2 (by rfl) (pa_cons (pv 2) pa_nil))) pa_nil))))))), ?_⟩
    rcases hF with ⟨a, xs, rfl, hf, h100, kn, rfl⟩ | ⟨h, rfl⟩
    · refine ⟨_, rfl, _, _, _, _, true, rfl, .ty "tuple", .base (.tup hf), kit_ty (by decide +kernel), true, rfl, .ref a, rfl, _, xs.length, rfl, .inr ⟨_, SqT.of hf, rfl⟩, _, rfl, _, _, rfl, rfl, rfl, decide (xs.length = m + 1), congrArg V.bl (nat_dec xs.length (m + 1)), ?_⟩
      by_cases c : xs.length = m + 1
      · rw [decide_eq_true c] at q ⊢
        refine iteT ⟨_, rfl, a, rfl, ⟨_, SqT.of hf⟩, fun D nD => lc_tup (K := K) (a := a) (xs := xs) (fun k H' => Same H H' ∧ H' D = some (.lst (((xs.map cntV).take k).map V.bl))) ⟨same_new nD, upd_same⟩ (fun k H' _ p => SqT.ext (SqT.of hf) p.1) ?_ ?_⟩
        · rintro k y H' hk ⟨sm, hD⟩
          have li : k < xs.length := (List.getElem?_eq_some_iff.mp hk).1
          refine ⟨rfl, ?_⟩
          refine ⟨_, rfl, y, rfl, (kn y (List.mem_of_getElem? hk)).keep sm, _, hD, ?_, fun b o e => ?_, ?_⟩
          · rw [List.length_map]
            exact small1000 (Nat.le_trans (List.length_take_le _ _) (by omega))
          · rw [upd_ne (ne_of_none (H := H) e nD)]
            exact sm _ _ e
          · rw [upd_same, List.take_add_one, List.getElem?_map, hk, List.map_append]
            rfl
        · rintro H' ⟨sm, hD⟩
          have el : (xs.map cntV).take xs.length = xs.map cntV := List.take_of_length_le (by simp)
          rw [el] at hD
          refine ⟨D, _, rfl, SqL.of hD, ?_⟩
          have e : (xs.map cntV).all id = xs.all cntV := by rw [List.all_map]; rfl
          rw [e]
          exact q H' sm
      · rw [decide_eq_false c] at q ⊢
        exact iteF (q H (Same.refl H))
    · rcases h with ⟨a, xs, rfl, h⟩ | ⟨i, rfl⟩ | rfl | ⟨z, rfl⟩ | ⟨z, rfl⟩
      · exact ⟨_, rfl, _, _, _, _, false, rfl, .ty "tuple", .base (.lst h), kit_ty (by decide +kernel), false, rfl, iteF (q H (Same.refl H))⟩
      · exact ⟨_, rfl, _, _, _, _, false, rfl, .ty "tuple", .base (.int i), kit_ty (by decide +kernel), false, rfl, iteF (q H (Same.refl H))⟩
      · exact ⟨_, rfl, _, _, _, _, false, rfl, .ty "tuple", .base .non, kit_ty (by decide +kernel), false, rfl, iteF (q H (Same.refl H))⟩
      · exact ⟨_, rfl, _, _, _, _, false, rfl, .ty "tuple", .base (.bl z), kit_ty (by decide +kernel), false, rfl, iteF (q H (Same.refl H))⟩
      · exact ⟨_, rfl, _, _, _, _, false, rfl, .ty "tuple", .base (.str z), kit_ty (by decide +kernel), false, rfl, iteF (q H (Same.refl H))⟩
end
end K5
set_option Elab.async false
set_option linter.all false
set_option maxRecDepth 100000
set_option maxHeartbeats 4000000
namespace K5
open PySem PySem.Spec PyProof.Rows L2 XV NP
abbrev sReqMany : Stmt := top 17
abbrev sNormal : Stmt := top 39
abbrev sIsPiece : Stmt := top 40
abbrev sMeasure : Stmt := top 41
abbrev sReqMeas : Stmt := top 42
abbrev sInit : Stmt := inClass (top 47) 0
abbrev sManyT : Stmt := inClass (top 47) 1
abbrev sPiecesT : Stmt := inClass (top 47) 2
theorem scReqMany : FnScope ["many"] ["many"] (defScope sReqMany) := ⟨rfl, rfl, rfl, by decide +kernel, rfl, by decide +kernel, by decide +kernel⟩
theorem scNormal : FnScope ["many", "pieces", "item"] ["many", "pieces"] (defScope sNormal) := ⟨rfl, rfl, rfl, by decide +kernel, rfl, by decide +kernel, by decide +kernel⟩
theorem scIsPiece : FnScope ["many", "item", "word", "form"] ["many", "item"] (defScope sIsPiece) := ⟨rfl, rfl, rfl, by decide +kernel, rfl, by decide +kernel, by decide +kernel⟩
theorem scMeasure : FnScope ["pieces", "word", "form"] ["pieces"] (defScope sMeasure) := ⟨rfl, rfl, rfl, by decide +kernel, rfl, by decide +kernel, by decide +kernel⟩
theorem scReqMeas : FnScope ["number"] ["number"] (defScope sReqMeas) := ⟨rfl, rfl, rfl, by decide +kernel, rfl, by decide +kernel, by decide +kernel⟩
theorem scInit : FnScope ["self", "many", "pieces"] ["self", "many", "pieces"] (defScope sInit) := ⟨rfl, rfl, rfl, by decide +kernel, rfl, by decide +kernel, by decide +kernel⟩
theorem scManyT : FnScope ["self"] ["self"] (defScope sManyT) := ⟨rfl, rfl, rfl, by decide +kernel, rfl, by decide +kernel, by decide +kernel⟩
theorem scPiecesT : FnScope ["self"] ["self"] (defScope sPiecesT) := ⟨rfl, rfl, rfl, by decide +kernel, rfl, by decide +kernel, by decide +kernel⟩
/-- pieces, however great their measure -/
structure Pq (m k : Nat) (ps : List Pc) : Prop where
  kk : k ≤ 600
  z : ∀ p ∈ ps, Pz m k p
  w : ∀ p ∈ ps, AB p.1 ∧ (cs p.1).length ≤ 2000
  l : ps.length ≤ 90
theorem Ps.pq {m k : Nat} {ps : List Pc} (h : Ps m k ps) : Pq m k ps := ⟨h.kk, h.z, h.w, h.l⟩
def spReqMany (K : PySem.W.Frag) : Sp := fun vs H Q E => ∃ v, vs = [v] ∧ Kn H v ∧ (belV 4 v = true → Q .non H) ∧ (belV 4 v = false → Rz E H (C4 K 3) v)
def me1 (p : Pc) : Int := (p.1.length : Int) * (p.2.1 + if (∀ x ∈ p.2.2, x = 0) then 0 else 1)
def meas (ps : List Pc) : Int := (ps.map me1).sum
def spIsPiece : Sp := fun vs H Q _ => ∃ (m : Nat) (v : V) (p : Pc), vs = [.int m, v] ∧ m ≤ 3 ∧ IsPc H v p ∧ Pz m 600 p ∧ AB p.1 ∧ (cs p.1).length ≤ 2000 ∧ ∀ H', Same H H' → Q (.bl true) H'
def spMeasure : Sp := fun vs H Q _ => ∃ (m kb : Nat) (pl : Addr) (ps : List Pc), vs = [.ref pl] ∧ m ≤ 3 ∧ PL H pl ps ∧ Pq m kb ps ∧ ∀ H', Same H H' → Q (.int (meas ps)) H'
def spReqMeas (K : PySem.W.Frag) : Sp := fun vs H Q E => ∃ n : Int, vs = [.int n] ∧ (n ≤ 2000 → Q .non H) ∧ (2000 < n → Rz E H (C4 K 4) (.int n))
def spNormal (K : PySem.W.Frag) : Sp := fun vs H Q E => ∃ (m kb : Nat) (pl : Addr) (ps : List Pc), vs = [.int m, .ref pl] ∧ m ≤ 3 ∧ PL H pl ps ∧ Pq m kb ps ∧ (2000 < meas ps → Rz E H (C4 K 4) (.int (meas ps))) ∧ (meas ps ≤ 2000 →
  ∀ (H' : Hp) (l : Addr) (done : List Pc), Same H H' → H l = none → PL H' l done → NI ps done [] → done.map pi = N5.nrmC m (ps.map pi) → done.length ≤ 2 * ps.length + 1 → Dn m (kb + 200) done → Q (.ref l) H')
theorem me1_ge {m k : Nat} {p : Pc} (h : Pz m k p) : cn tt p.1 * fj p 0 ≤ me1 p := by
  have c0 := h.c.1
  have lz := cs_len p.1
  rw [cn_tt]
  show ((cs p.1).length : Int) * p.2.1 ≤ (p.1.length : Int) * (p.2.1 + _)
  rw [lz]
  refine Int.mul_le_mul_of_nonneg_left ?_ (by omega)
  split <;> omega
theorem lin_meas {m k : Nat} : ∀ {ps : List Pc}, (∀ p ∈ ps, Pz m k p) → lin tt 0 ps ≤ meas ps
  | [], _ => Int.le_refl 0
  | p :: ps, h => by
    have a := me1_ge (h p List.mem_cons_self)
    have b := lin_meas fun q hq => h q (List.mem_cons_of_mem _ hq)
    have e1 : lin tt 0 (p :: ps) = cn tt p.1 * fj p 0 + lin tt 0 ps := by
      unfold lin
      rw [List.map_cons, List.sum_cons]
    have e2 : meas (p :: ps) = me1 p + meas ps := by
      unfold meas
      rw [List.map_cons, List.sum_cons]
    rw [e1, e2]
    exact Int.add_le_add a b
theorem Pq.ps {m k : Nat} {ps : List Pc} (h : Pq m k ps) (hm : meas ps ≤ 2000) : Ps m k ps := ⟨h.kk, h.z, h.w, h.l, Int.le_trans (lin_meas h.z) hm⟩
theorem PL.keep {H H' : Hp} (s : Same H H') {a : Addr} {ps : List Pc} (h : PL H a ps) : PL H' a ps := by
  obtain ⟨xs, e, r⟩ := h
  exact ⟨xs, s _ _ e, r.keep s⟩
section
variable {P : Program} {w : World} {K : PySem.W.Frag} {mg : Str → Option Value} {base : Heap} {f : Addr} {fd : FuncData}
theorem ok_reqMany (F : FnP K "require_many" sReqMany f fd) (Z : Cl4 P w K mg base) (o_below : Ok P w K mg base "is_count_below" 3 ["bound", "value"] spBelow) {tM : Tok} (h_MU : mg "MOST_UNKNOWNS" = some (.int 3 tM)) : FnOk P w K mg base (L2.CX P w) 4 f fd ["many"] (spReqMany K) := by
  refine F.ok scReqMany (fun vs H Q E h => ?_) (fun cdv A outer s H vs Q E hr h => ?_)
  · obtain ⟨v, rfl, _⟩ := h
    rfl
  · obtain ⟨v, rfl, kn, q, r⟩ := h
    obtain ⟨fI, fdI, XT⟩ := Z.x 3 (by decide)
    have XT : XCls P w K mg base "InvalidNumber" "value" (C4 K 3) fI fdI := XT
    refine ⟨_, pss_one (ps_if (pt_not (pt_val (pe_callO o_below (hr.mono (by decide)) (by rfl) (pa_cons (pe_op op_add (pe_glob (v := .int 3) (by rfl) h_MU ⟨_, rfl⟩) pe_int) (pa_cons (pv 0) pa_nil))))) (pss_one (ps_raiseX (nm := "InvalidNumber") rfl XT (hr.mono (by decide)) (takes_of rfl rfl rfl rfl) (by rfl) (pv 0))) pss_nil), ?_⟩
    refine ⟨_, _, rfl, rfl, _, rfl, 4, v, rfl, kn, belV 4 v, rfl, ?_⟩
    cases e : belV 4 v with
    | true => exact iteF (q e)
    | false => exact iteT ⟨_, rfl, fun d nd => r e H d (Same.refl _) nd⟩
theorem ok_isPiece (F : FnP K "is_piece" sIsPiece f fd) (o_letters : Ok P w K mg base "is_string_of_letters" 1 ["value"] spLetters) (o_form : Ok P w K mg base "has_form" 3 ["many", "item"] spHasForm) (z_isinstance : mg "isinstance" = none) (z_tuple : mg "tuple" = none) (z_len : mg "len" = none) {tM : Tok} (h_L : mg "LONGEST_PIECE" = some (.int 2000 tM)) :
    FnOk P w K mg base CX0 4 f fd ["many", "item"] spIsPiece := by
  have nd := scIsPiece.nd
  refine F.ok scIsPiece (fun vs H Q E h => ?_) (fun cdv A outer s H vs Q E hr h => ?_)
  · obtain ⟨m, v, p, rfl, _⟩ := h
    rfl
  · obtain ⟨m, v, p, rfl, hm, ⟨a, f1, rfl, ha, hf⟩, pz, ab, l2, q⟩ := h
    have szl := sizeLine_eq
    refine ⟨_, PSs.nox (pss_cons (ps_if (PW.pt (pw_or (pt_not (pt_val (pe_callB call_isi (by rfl) z_isinstance (by decide +kernel) (pa_cons (pv 1) (pa_cons (pe_bltn (v := .ty "tuple") (by rfl) z_tuple (by decide +kernel) rfl) pa_nil))))) (pw_or1 (pt_cmpR op_ne (pe_callB call_len (by rfl) z_len boot_len (pa_cons (pv 1) pa_nil)) pe_int (nomark _))))) (pss_one (ps_ret pe_bl)) pss_nil)
      (pss_cons (ps_asg (pv 1) (pg_tup rfl (pgs_cons (pg_name (i := 2) nd rfl (Or.inl rfl)) (pgs_cons (pg_name (i := 3) nd rfl (Or.inl rfl)) pgs_nil))))
      (pss_one (ps_ret (pe_and (pe_callO o_letters (hr.mono (by decide)) (by rfl) (pa_cons (pv 2) pa_nil)) (pe_and (pe_cmpR op_le (pe_callB call_len (by rfl) z_len boot_len (pa_cons (pv 2) pa_nil)) (pe_glob (v := .int 2000) (by rfl) h_L ⟨_, rfl⟩) (nomark _)) (pe_one (pe_callO o_form hr (by rfl) (pa_cons (pv 0) (pa_cons (pv 3) pa_nil)))))))))), ?_⟩
    refine ⟨_, rfl, _, _, _, _, true, rfl, .ty "tuple", .base (.tup ha), kit_ty (by decide +kernel), true, rfl, iteF ⟨_, rfl, _, 2, rfl, .inr ⟨_, SqT.of ha, rfl⟩, rfl, false, rfl, iteF ?_⟩⟩
    refine ⟨_, rfl, a, _, rfl, SqT.of ha, rfl, _, _, rfl, _, _, rfl, rfl, ?_⟩
    refine ⟨_, rfl, p.1, rfl, ab, true, rfl, iteT ⟨_, rfl, _, (cs p.1).length, rfl, ⟨by rw [cs_len]; omega, cs_len _⟩, _, _, rfl, rfl, true, congrArg V.bl (decide_eq_true (by omega)), iteT ?_⟩⟩
    refine ⟨_, rfl, _, rfl, m, .ref f1, true, rfl, .inl ⟨f1, _, rfl, hf, by rw [List.length_map]; show p.2.2.length + 1 ≤ 100; rw [pz.l]; omega, fun x hx => ?_, ?_⟩, q⟩
    · obtain ⟨i, _, rfl⟩ := List.mem_map.mp hx
      exact .int i
    · have e1 : ((fm p).map V.int).all cntV = true := by
        rw [List.all_eq_true]
        intro x hx
        obtain ⟨i, hi, rfl⟩ := List.mem_map.mp hx
        show decide (0 ≤ i) = true
        rcases List.mem_cons.mp hi with rfl | hi
        · exact decide_eq_true pz.c.1
        · exact decide_eq_true (pz.x i hi).1
      rw [e1, Bool.and_true]
      exact (decide_eq_true (by rw [List.length_map]; show p.2.2.length + 1 = m + 1; rw [pz.l])).symm
theorem ok_measure (F : FnP K "measure" sMeasure f fd) (o_plain : Ok P w K mg base "is_plain" 1 ["form"] spPlainQ) (z_sum : mg "sum" = none) (z_len : mg "len" = none) : FnOk P w K mg base CX0 2 f fd ["pieces"] spMeasure := by
  have nd := scMeasure.nd
  refine F.ok scMeasure (fun vs H Q E h => ?_) (fun cdv A outer s H vs Q E hr h => ?_)
  · obtain ⟨m, kb, pl, ps, rfl, _⟩ := h
    rfl
  · obtain ⟨m, kb, pl, ps, rfl, hm, ⟨xs, hp, hP⟩, hPs, q⟩ := h
    have lx := hP.len
    have l20 := hPs.l
    have szl := sizeLine_eq
    have r1 : Room 1 (A.deeper (envOfC "measure" (defScope sMeasure) s.heap.objs.size f cdv)) := hr
    refine ⟨_, PSs.nox (pss_one (ps_ret (pe_callB (cr_sum rfl) (by rfl) z_sum (by decide +kernel) (pa_cons
      (pe_lc (own := [("word", 1), ("form", 2)]) (g := gTup K 2 (gCons (gName 1) (gCons (gName 2) gNil))) (by rfl) nd (pi_list (pv 0)) (blkOk_by (N := ["pieces", "word", "form"]) (sc := defScope sMeasure) (own := [("word", 1), ("form", 2)]) (by decide +kernel))
        (fun _ _ _ _ _ => pg_tup rfl (pgs_cons (pg_name (i := 1) nd rfl (Or.inl rfl)) (pgs_cons (pg_name (i := 2) nd rfl (Or.inl rfl)) pgs_nil))) (fun _ _ _ _ _ => pts_nil)
        (fun _ _ _ _ _ => pe_op op_mul (pe_callB call_len_str (by rfl) z_len boot_len (pa_cons (pv 1) pa_nil)) (pe_op op_add (pe_ix (ix_tupK (K := K) rfl) (pv 2) pe_int (fun _ _ => rfl)) (pe_ifExp (pt_val (pe_callO o_plain r1 (by rfl) (pa_cons (pv 2) pa_nil))) pe_int pe_int)))) pa_nil)))), ?_⟩
    refine ⟨_, rfl, pl, rfl, ⟨_, SqL.of hp⟩, fun D nD => lc_list (K := K) (a := pl) (xs := xs) (fun k H' => Same H H' ∧ H' D = some (.lst (((ps.take k).map me1).map V.int))) ⟨same_new nD, upd_same⟩ (fun k H' _ p => SqL.of (p.1 _ _ hp)) ?_ ?_⟩
    · rintro k y H' hk ⟨sm, hD⟩
      obtain ⟨p, ep, ⟨a, f1, rfl, ha, hf⟩⟩ := hP.get hk
      have pz := hPs.z p (List.mem_of_getElem? ep)
      obtain ⟨_, l2⟩ := hPs.w p (List.mem_of_getElem? ep)
      have li : k < 90 := by
        have := (List.getElem?_eq_some_iff.mp ep).1
        omega
      have ha1 := sm _ _ ha
      have hf1 := sm _ _ hf
      have at0 : atI ((p.2.1 :: p.2.2).map V.int) ((0 : Nat) : Int) = some (V.int p.2.1) := atI_nat rfl
      refine ⟨a, _, rfl, SqT.of ha1, rfl, _, _, rfl, _, _, rfl, rfl, rfl, ?_⟩
      refine ⟨_, rfl, p.1, rfl, by rw [cs_len]; omega, _, rfl, f1, _, _, _, rfl, rfl, SqT.of hf1, at0, _, rfl, f1, p.2.1, p.2.2, rfl, hf1, by rw [pz.l]; omega, fun H2 s2 => ⟨_, rfl, ?_⟩⟩
      have lz := cs_len p.1
      have fin : ∀ z : Int, z = (if (∀ x ∈ p.2.2, x = 0) then 0 else 1) → ∃ i j : Int, V.int p.2.1 = .int i ∧ V.int z = .int j ∧ ∃ i' j' : Int, V.int ((p.1.length : Nat) : Int) = .int i' ∧ V.int (i + j) = .int j' ∧ CMul i' j' ∧ ∃ acc, H2 D = some (.lst acc) ∧ acc.length < sizeLine ∧ (Same H (upd H2 D (.lst (acc ++ [.int (i' * j')]))) ∧ (upd H2 D (.lst (acc ++ [.int (i' * j')]))) D = some (.lst (((ps.take (k + 1)).map me1).map V.int))) := by
        rintro z rfl
        refine ⟨_, _, rfl, rfl, _, _, rfl, rfl, .inl ⟨by omega, by omega⟩, _, s2 _ _ hD, ?_, fun b o e => ?_, ?_⟩
        · rw [List.length_map, List.length_map]
          exact small1000 (Nat.le_trans (List.length_take_le _ _) (by omega))
        · rw [upd_ne (ne_of_none (H := H) e nD)]
          exact s2 _ _ (sm _ _ e)
        · rw [upd_same, List.take_add_one, ep, List.map_append, List.map_append]
          rfl
      by_cases pl0 : ∀ x ∈ p.2.2, x = 0
      · rw [decide_eq_true pl0]
        exact iteT (fin 0 (by rw [if_pos pl0]))
      · rw [decide_eq_false pl0]
        exact iteF (fin 1 (by rw [if_neg pl0]))
    · rintro H' ⟨sm, hD⟩
      rw [lx, List.take_length] at hD
      exact ⟨D, _, rfl, SqL.of hD, q H' sm⟩
theorem ok_reqMeas (F : FnP K "require_measure" sReqMeas f fd) (Z : Cl4 P w K mg base) {tM : Tok} (h_M : mg "MOST_MEASURE" = some (.int 2000 tM)) : FnOk P w K mg base (L2.CX P w) 3 f fd ["number"] (spReqMeas K) := by
  refine F.ok scReqMeas (fun vs H Q E h => ?_) (fun cdv A outer s H vs Q E hr h => ?_)
  · obtain ⟨n, rfl, _⟩ := h
    rfl
  · obtain ⟨n, rfl, q, r⟩ := h
    obtain ⟨fI, fdI, XT⟩ := Z.x 4 (by decide)
    have XT : XCls P w K mg base "TooLong" "value" (C4 K 4) fI fdI := XT
    refine ⟨_, pss_one (ps_if (pt_cmpR op_gt (pv 0) (pe_glob (v := .int 2000) (by rfl) h_M ⟨_, rfl⟩) (nomark _)) (pss_one (ps_raiseX (nm := "TooLong") rfl XT hr (takes_of rfl rfl rfl rfl) (by rfl) (pv 0))) pss_nil), ?_⟩
    refine ⟨_, rfl, _, _, rfl, rfl, _, rfl, ite2 (fun c => ?_) (fun c => ?_)⟩
    · exact ⟨_, rfl, fun d nd => r (of_decide_eq_true c) H d (Same.refl _) nd⟩
    · exact q (Int.not_lt.mp fun z => c (decide_eq_true z))
theorem ok_normal (F : FnP K "normal" sNormal f fd) (o_many : OkX P w K mg base "require_many" 4 ["many"] (spReqMany K)) (o_piece : Ok P w K mg base "is_piece" 4 ["many", "item"] spIsPiece) (o_measure : Ok P w K mg base "measure" 2 ["pieces"] spMeasure) (o_reqM : OkX P w K mg base "require_measure" 3 ["number"] (spReqMeas K))
    (o_np : Ok P w K mg base "normal_pieces" 3 ["many", "pieces"] spNP) (z_isinstance : mg "isinstance" = none) (z_list : mg "list" = none) (z_len : mg "len" = none) {tM : Tok} (h_M : mg "MOST_PIECES" = some (.int 5000 tM)) : FnOk P w K mg base (L2.CX P w) 5 f fd ["many", "pieces"] (spNormal K) := by
  have nd := scNormal.nd
  refine F.ok scNormal (fun vs H Q E h => ?_) (fun cdv A outer s H vs Q E hr h => ?_)
  · obtain ⟨m, kb, pl, ps, rfl, _⟩ := h
    rfl
  · obtain ⟨m, kb, pl, ps, rfl, hm, hL, hPs, rz, q⟩ := h
    obtain ⟨xs, hp, hP⟩ := id hL
    have lx := hP.len
    have l20 := hPs.l
    refine ⟨_, pss_cons (ps_expr (pe_callX (E := E) o_many (takes_of rfl rfl rfl rfl) hr (by rfl) (pa_cons (pv 0) pa_nil)))
      (pss_cons (ps_if (PW.pt (pw_or (pt_not (pt_val (pe_callB call_isi (by rfl) z_isinstance (by decide +kernel) (pa_cons (pv 1) (pa_cons (pe_bltn (v := .ty "list") (by rfl) z_list (by decide +kernel) rfl) pa_nil))))) (pw_or1 (pt_cmpR op_gt (pe_callB call_len (by rfl) z_len boot_len (pa_cons (pv 1) pa_nil)) (pe_glob (v := .int 5000) (by rfl) h_M ⟨_, rfl⟩) (nomark _))))) (pss_one ps_never) pss_nil)
      (pss_cons (ps_for (passes_of rfl) rfl (pi_list (pv 1)) (pg_name (i := 2) nd rfl (Or.inl rfl)) (pss_one (ps_if (pt_not (pt_val (pe_callO o_piece hr (by rfl) (pa_cons (pv 0) (pa_cons (pv 2) pa_nil))))) (pss_one ps_never) pss_nil)))
      (pss_cons (ps_expr (pe_callX (E := E) o_reqM (takes_of rfl rfl rfl rfl) (hr.mono (by decide)) (by rfl) (pa_cons (pe_callO o_measure (hr.mono (by decide)) (by rfl) (pa_cons (pv 1) pa_nil)) pa_nil)))
      (pss_one (ps_ret (pe_callO o_np (hr.mono (by decide)) (by rfl) (pa_cons (pv 0) (pa_cons (pv 1) pa_nil)))))))), ?_⟩
    refine ⟨_, rfl, .int m, rfl, .int _, fun _ => ?_, fun z => ?_⟩
    rotate_left
    · have : belV 4 (.int (m : Int)) = true := by
        show (decide (0 ≤ (m : Int)) && decide ((m : Int) < 4)) = true
        rw [decide_eq_true (by omega), decide_eq_true (by omega)]
        rfl
      rw [this] at z
      cases z
    refine ⟨_, rfl, _, _, _, _, true, rfl, .ty "list", .base (.lst hp), kit_ty (by decide +kernel), true, rfl, iteF ⟨_, rfl, _, xs.length, rfl, .inl ⟨_, SqL.of hp, rfl⟩, _, _, rfl, rfl, false, congrArg V.bl (decide_eq_false (by omega)), iteF ?_⟩⟩
    refine ⟨_, rfl, pl, rfl, ⟨_, SqL.of hp⟩, for_list (K := K) (a := pl) (xs := xs) (fun i σ H' => Same H H' ∧ ∃ x, σ = [some (.int m), some (.ref pl), x]) ⟨Same.refl _, _, rfl⟩ (fun i σ H' _ z => SqL.of (z.1 _ _ hp)) ?_ ?_⟩
    · rintro i y σ H' hi ⟨sm, x, rfl⟩
      obtain ⟨p, ep, ip⟩ := (hP.keep sm).get hi
      obtain ⟨ab, l2⟩ := hPs.w p (List.mem_of_getElem? ep)
      exact ⟨_, rfl, _, rfl, m, y, p, rfl, hm, ip, (hPs.z p (List.mem_of_getElem? ep)).le hPs.kk, ab, l2, fun H2 s2 => ⟨true, rfl, iteF ⟨sm.trans s2, _, rfl⟩⟩⟩
    · rintro σ H' ⟨sm, x, rfl⟩
      refine ⟨_, rfl, m, kb, pl, ps, rfl, hm, hL.keep sm, hPs, fun H2 s2 => ⟨_, rfl, fun hme => ?_, fun gt => (rz gt).at (sm.trans s2)⟩⟩
      have S := sm.trans s2
      refine ⟨_, rfl, _, rfl, m, kb, pl, ps, rfl, hm, hL.keep S, hPs.ps hme, fun H3 l done s3 nl hl ni ex ld dn => q hme H3 l done (S.trans s3) ?_ hl ni ex ld dn⟩
      cases e : H l with
      | none => rfl
      | some o =>
        rw [S _ _ e] at nl
        cases nl
end
end K5
set_option Elab.async false
set_option linter.all false
set_option maxRecDepth 100000
set_option maxHeartbeats 4000000
namespace K5
open PySem PySem.Spec PyProof.Rows L2 XV
section
variable {P : Program} {w : World} {K : PySem.W.Frag} {mg : Str → Option Value} {base : Heap} {f : Addr} {fd : FuncData}
theorem ok_isPoint (F : FnP K "is_point" sIsPoint f fd) (o_is_count : Ok P w K mg base "is_count" 2 ["value"] spCount) (z_isinstance : mg "isinstance" = none) (z_list : mg "list" = none) (z_len : mg "len" = none) (z_all : mg "all" = none) :
    FnOk P w K mg base CX0 3 f fd ["many", "value"] spIsPoint := by
  have nd := scIsPoint.nd
  refine F.ok scIsPoint (fun vs H Q E h => ?_) (fun cdv A outer s H vs Q E hr h => ?_)
  · obtain ⟨m, v, b, rfl, _⟩ := h
    rfl
  · obtain ⟨m, v, b, rfl, hF, q⟩ := h
    have hr2 : Room 2 (A.deeper (envOfC "is_point" (defScope sIsPoint) s.heap.objs.size f cdv)) := hr
    refine ⟨_, PSs.nox (pss_one (ps_ret (pe_and (pe_callB call_isi (by rfl) z_isinstance (by decide +kernel) (pa_cons (pv 1) (pa_cons (pe_bltn (v := .ty "list") (by rfl) z_list (by decide +kernel) rfl) pa_nil))) (pe_and (pe_cmpR op_eq (pe_callB call_len (by rfl) z_len boot_len (pa_cons (pv 1) pa_nil)) (pv 0) (nomark _)) (pe_one (pe_callB (cr_all rfl) (by rfl) z_all (by decide +kernel) (pa_cons
      (pe_lc (own := [("number", 2)]) (g := gName 2) (by rfl) nd (pi_list (pv 1)) (blkOk_by (N := ["many", "value", "number"]) (sc := defScope sIsPoint) (own := [("number", 2)]) (by decide +kernel)) (fun _ _ _ _ _ => pg_name (i := 2) nd rfl (Or.inl rfl)) (fun _ _ _ _ _ => pts_nil) (fun _ _ _ _ _ => pe_callO o_is_count hr2 (by rfl) (pa_cons (pv 2) pa_nil))) pa_nil))))))), ?_⟩
    rcases hF with ⟨a, xs, rfl, hf, h100, kn, rfl⟩ | ⟨h, rfl⟩
    · refine ⟨_, rfl, _, _, _, _, true, rfl, .ty "list", .base (.lst hf), kit_ty (by decide +kernel), true, rfl, .ref a, rfl, _, xs.length, rfl, .inl ⟨_, SqL.of hf, rfl⟩, _, rfl, rfl, decide (xs.length = m), congrArg V.bl (nat_dec xs.length m), ?_⟩
      by_cases c : xs.length = m
      · rw [decide_eq_true c] at q ⊢
        refine iteT ⟨_, rfl, a, rfl, ⟨_, SqL.of hf⟩, fun D nD => lc_list (K := K) (a := a) (xs := xs) (fun k H' => Same H H' ∧ H' D = some (.lst (((xs.map cntV).take k).map V.bl))) ⟨same_new nD, upd_same⟩ (fun k H' _ p => SqL.of (p.1 _ _ hf)) ?_ ?_⟩
        · rintro k y H' hk ⟨sm, hD⟩
          have li : k < xs.length := (List.getElem?_eq_some_iff.mp hk).1
          refine ⟨rfl, ?_⟩
          refine ⟨_, rfl, y, rfl, (kn y (List.mem_of_getElem? hk)).keep sm, _, hD, ?_, fun b o e => ?_, ?_⟩
          · rw [List.length_map]
            exact small1000 (Nat.le_trans (List.length_take_le _ _) (by omega))
          · rw [upd_ne (ne_of_none (H := H) e nD)]
            exact sm _ _ e
          · rw [upd_same, List.take_add_one, List.getElem?_map, hk, List.map_append]
            rfl
        · rintro H' ⟨sm, hD⟩
          have el : (xs.map cntV).take xs.length = xs.map cntV := List.take_of_length_le (by simp)
          rw [el] at hD
          refine ⟨D, _, rfl, SqL.of hD, ?_⟩
          have e : (xs.map cntV).all id = xs.all cntV := by rw [List.all_map]; rfl
          rw [e]
          exact q H' sm
      · rw [decide_eq_false c] at q ⊢
        exact iteF (q H (Same.refl H))
    · rcases h with ⟨a, xs, rfl, h⟩ | ⟨i, rfl⟩ | rfl | ⟨z, rfl⟩ | ⟨z, rfl⟩
      · exact ⟨_, rfl, _, _, _, _, false, rfl, .ty "list", .base (.tup h), kit_ty (by decide +kernel), false, rfl, iteF (q H (Same.refl H))⟩
      · exact ⟨_, rfl, _, _, _, _, false, rfl, .ty "list", .base (.int i), kit_ty (by decide +kernel), false, rfl, iteF (q H (Same.refl H))⟩
      · exact ⟨_, rfl, _, _, _, _, false, rfl, .ty "list", .base .non, kit_ty (by decide +kernel), false, rfl, iteF (q H (Same.refl H))⟩
      · exact ⟨_, rfl, _, _, _, _, false, rfl, .ty "list", .base (.bl z), kit_ty (by decide +kernel), false, rfl, iteF (q H (Same.refl H))⟩
      · exact ⟨_, rfl, _, _, _, _, false, rfl, .ty "list", .base (.str z), kit_ty (by decide +kernel), false, rfl, iteF (q H (Same.refl H))⟩
end
end K5
set_option Elab.async false
set_option linter.all false
set_option maxRecDepth 100000
set_option maxHeartbeats 4000000
namespace K5
open PySem PySem.Spec PyProof.Rows L2 XV NP
/-! ### the class OpenText -/
def tys : List String := ["NoneType", "int", "str", "list", "tuple"]
structure TT (K : PySem.W.Frag) (mg : Str → Option Value) (C : Addr) : Prop where
  ic : C8.InsC K C
  nP : NoAttr K C "_pieces"
  nM : NoAttr K C "_many"
  g : mg "OpenText" = some (.ref C)
  kt : ∀ T ∈ tys, PySem.W.kitOne K (.type T) (.ref C) = some false
theorem TT.ty {K : PySem.W.Frag} {mg : Str → Option Value} {C : Addr} (T : TT K mg C) {H : Hp} {a dx : Addr} {fs : List (Str × V)} (e : H a = some (.ins C dx fs)) : TyX K H (.ref a) (.ref C) := .base (.ins e T.ic.cl T.ic.ha T.ic.hn T.ic.htk T.ic.hm)
theorem kpm : ¬ (("_pieces" : Str) = "_many") := by decide +kernel
theorem kmp : ¬ (("_many" : Str) = "_pieces") := by decide +kernel
def flds (l : Addr) (m : Nat) : List (Str × V) := putF "_many" (.int m) (putF "_pieces" (.ref l) [])
theorem flds_p (l : Addr) (m : Nat) : (flds l m).lookup ("_pieces" : Str) = some (.ref l) := by
  unfold flds
  rw [lookup_putF, if_neg kpm, lookup_putF, if_pos rfl]
theorem flds_m (l : Addr) (m : Nat) : (flds l m).lookup ("_many" : Str) = some (.int m) := by
  unfold flds
  rw [lookup_putF, if_pos rfl]
theorem flds_no (l : Addr) (m : Nat) {x : Str} (h1 : ¬ x = "_many") (h2 : ¬ x = "_pieces") : (flds l m).lookup x = none := by
  unfold flds
  rw [lookup_putF, if_neg h1, lookup_putF, if_neg h2]
  rfl
/-- an open text stands at x -/
def Tx (C : Addr) (H : Hp) (x : Addr) (m : Nat) (done : List Pc) : Prop := ∃ dx l, H x = some (.ins C dx (flds l m)) ∧ PL H l done
theorem Tx.keep {C : Addr} {H H' : Hp} (s : Same H H') {x : Addr} {m : Nat} {done : List Pc} (h : Tx C H x m done) : Tx C H' x m done := by
  obtain ⟨dx, l, e, r⟩ := h
  exact ⟨dx, l, s _ _ e, r.keep s⟩
theorem Pcs.updI {H : Hp} {x : Addr} {C dx : Addr} {fs : List (Str × V)} {o : HO} (hx : H x = some (.ins C dx fs)) : ∀ {xs : List V} {P : List Pc}, Pcs H xs P → Pcs (upd H x o) xs P
  | _, _, .nil => .nil
  | _, _, .cons h r => .cons (by
      obtain ⟨a, f, e, t, u⟩ := h
      refine ⟨a, f, e, ?_, ?_⟩
      · rw [upd_ne (ne_of t hx (by intro z; cases z))]
        exact t
      · rw [upd_ne (ne_of u hx (by intro z; cases z))]
        exact u) (Pcs.updI hx r)
theorem PL.updI {H : Hp} {x l : Addr} {C dx : Addr} {fs : List (Str × V)} {o : HO} {ps : List Pc} (hx : H x = some (.ins C dx fs)) (h : PL H l ps) : PL (upd H x o) l ps := by
  obtain ⟨xs, e, r⟩ := h
  refine ⟨xs, ?_, r.updI hx⟩
  rw [upd_ne (ne_of e hx (by intro z; cases z))]
  exact e
abbrev FnM (K : PySem.W.Frag) (m q : Str) (st : Stmt) (f : Addr) (fd : FuncData) : Prop := FunD K m q (defArgs st) (defBody st) (defScope st) [] [] f fd
def spInit (K : PySem.W.Frag) (C : Addr) : Sp := fun vs H Q E => ∃ (x dx : Addr) (m kb : Nat) (pl : Addr) (ps : List Pc), vs = [.ref x, .int m, .ref pl] ∧ H x = some (.ins C dx []) ∧ m ≤ 3 ∧ PL H pl ps ∧ Pq m kb ps ∧ (2000 < meas ps → Rz E H (C4 K 4) (.int (meas ps))) ∧ (meas ps ≤ 2000 →
  ∀ (H' : Hp) (done : List Pc), (∀ b o, b ≠ x → H b = some o → H' b = some o) → Tx C H' x m done → NI ps done [] → done.map pi = N5.nrmC m (ps.map pi) → done.length ≤ 2 * ps.length + 1 → Dn m (kb + 200) done → Q .non H')
def spManyT (C : Addr) : Sp := fun vs H Q _ => ∃ (x : Addr) (m : Nat) (done : List Pc), vs = [.ref x] ∧ Tx C H x m done ∧ Q (.int (m : Int)) H
def spPiecesT (C : Addr) : Sp := fun vs H Q _ => ∃ (x : Addr) (m : Nat) (done : List Pc), vs = [.ref x] ∧ Tx C H x m done ∧ ∀ (H' : Hp) (p : Addr), Same H H' → H p = none → PL H' p done → Q (.ref p) H'
abbrev sRuns : Stmt := top 64
abbrev sLetR : Stmt := top 34
abbrev sLtr : Stmt := top 65
theorem scRuns : FnScope ["pieces", "point", "word", "form"] ["pieces", "point"] (defScope sRuns) := ⟨rfl, rfl, rfl, by decide +kernel, rfl, by decide +kernel, by decide +kernel⟩
theorem scLetR : FnScope ["runs", "word", "times"] ["runs"] (defScope sLetR) := ⟨rfl, rfl, rfl, by decide +kernel, rfl, by decide +kernel, by decide +kernel⟩
theorem scLtr : FnScope ["runs", "at", "word", "times"] ["runs", "at"] (defScope sLtr) := ⟨rfl, rfl, rfl, by decide +kernel, rfl, by decide +kernel, by decide +kernel⟩
/-! ### runs: words and how often -/
abbrev Rn := Str × Int
def IsRn (H : Hp) (x : V) (r : Rn) : Prop := ∃ a, x = .ref a ∧ H a = some (.tup [.str r.1, .int r.2])
inductive Rns (H : Hp) : List V → List Rn → Prop
  | nil : Rns H [] []
  | cons {x : V} {xs : List V} {r : Rn} {R : List Rn} : IsRn H x r → Rns H xs R → Rns H (x :: xs) (r :: R)
theorem Rns.keep {H H' : Hp} (s : Same H H') : ∀ {xs : List V} {R : List Rn}, Rns H xs R → Rns H' xs R
  | _, _, .nil => .nil
  | _, _, .cons h r => .cons (by
      obtain ⟨a, e, t⟩ := h
      exact ⟨a, e, s _ _ t⟩) (Rns.keep s r)
theorem Rns.len {H : Hp} : ∀ {xs : List V} {R : List Rn}, Rns H xs R → xs.length = R.length
  | _, _, .nil => rfl
  | _, _, .cons _ r => congrArg (· + 1) (Rns.len r)
theorem Rns.get {H : Hp} : ∀ {xs : List V} {R : List Rn} {i : Nat} {x : V}, Rns H xs R → xs[i]? = some x → ∃ r, R[i]? = some r ∧ IsRn H x r
  | _, _, i, x, .nil, h => by simp at h
  | _, _, 0, x, .cons a r, h => by
    cases h
    exact ⟨_, rfl, a⟩
  | _, _, i + 1, x, .cons a r, h => by
    obtain ⟨l, e, z⟩ := Rns.get (i := i) r (by simpa using h)
    exact ⟨l, by simpa using e, z⟩
theorem Rns.snoc {H : Hp} {y : V} {m : Rn} (hy : IsRn H y m) : ∀ {xs : List V} {R : List Rn}, Rns H xs R → Rns H (xs ++ [y]) (R ++ [m])
  | _, _, .nil => .cons hy .nil
  | _, _, .cons h r => .cons h (Rns.snoc hy r)
theorem Rns.updL {H : Hp} {D : Addr} {ys : List V} {o : HO} (hD : H D = some (.lst ys)) : ∀ {xs : List V} {R : List Rn}, Rns H xs R → Rns (upd H D o) xs R
  | _, _, .nil => .nil
  | _, _, .cons h r => .cons (by
      obtain ⟨a, e, t⟩ := h
      refine ⟨a, e, ?_⟩
      rw [upd_ne (ne_of t hD (by intro z; cases z))]
      exact t) (Rns.updL hD r)
/-- the runs of pieces at a point -/
def rn (ys : List Int) (p : Pc) : Rn := (p.1, tms p ys)
def toR (R : List Rn) : List (List Nat × Nat) := R.map fun r => (cs r.1, r.2.toNat)
def lenR (R : List Rn) : Int := (R.map fun r => (r.1.length : Int) * r.2).sum
theorem wr_rn (ys : List Int) (ps : List Pc) : wr (toR (ps.map (rn ys))) = NP.V ys ps := by
  unfold wr toR NP.V
  rw [List.map_map, List.flatMap_map]
  rfl
theorem lenR_eq {R : List Rn} (h : ∀ r ∈ R, 0 ≤ r.2) : lenR R = ((lettersR (toR R) : Nat) : Int) := by
  induction R with
  | nil => rfl
  | cons r R ih =>
    have e1 : lenR (r :: R) = (r.1.length : Int) * r.2 + lenR R := by
      unfold lenR
      rw [List.map_cons, List.sum_cons]
    have e2 : lettersR (toR (r :: R)) = (cs r.1).length * r.2.toNat + lettersR (toR R) := by
      unfold lettersR toR
      rw [List.map_cons, List.map_cons, List.sum_cons]
    rw [e1, e2, ih fun q hq => h q (List.mem_cons_of_mem _ hq), Int.natCast_add, Int.natCast_mul, Int.toNat_of_nonneg (h r List.mem_cons_self), cs_len]
def spRuns : Sp := fun vs H Q _ => ∃ (m : Nat) (a b : Addr) (ps : List Pc) (ys : List Int), vs = [.ref a, .ref b] ∧ m ≤ 3 ∧ PL H a ps ∧ Dn m 800 ps ∧ ps.length ≤ 100 ∧ H b = some (.lst (ys.map V.int)) ∧ ys.length = m ∧ (∀ y ∈ ys, Sz 400 y) ∧
  ∀ (H' : Hp) (r : Addr) (xs : List V), Same H H' → H' r = some (.lst xs) → Rns H' xs (ps.map (rn ys)) → Q (.ref r) H'
def spLetR : Sp := fun vs H Q _ => ∃ (a : Addr) (xs : List V) (R : List Rn), vs = [.ref a] ∧ H a = some (.lst xs) ∧ Rns H xs R ∧ R.length ≤ 100 ∧ (∀ r ∈ R, (cs r.1).length ≤ 2000) ∧ ∀ H', Same H H' → Q (.int (lenR R)) H'
def spLtr : Sp := fun vs H Q _ => ∃ (a : Addr) (xs : List V) (R : List Rn) (i c : Nat), vs = [.ref a, .int i] ∧ H a = some (.lst xs) ∧ Rns H xs R ∧ R.length ≤ 100 ∧ (∀ r ∈ R, (cs r.1).length ≤ 2000 ∧ 0 ≤ r.2) ∧ letterR (toR R) i = some c ∧ Q (.str ⟨#[c]⟩) H
section
variable {P : Program} {w : World} {K : PySem.W.Frag} {mg : Str → Option Value} {base : Heap} {f : Addr} {fd : FuncData} {C : Addr}
theorem ok_init (F : FnM K "__init__" "OpenText.__init__" sInit f fd) (T : TT K mg C) (o_normal : OkX P w K mg base "normal" 5 ["many", "pieces"] (spNormal K)) : FnOk P w K mg base (L2.CX P w) 6 f fd ["self", "many", "pieces"] (spInit K C) := by
  refine F.ok scInit (fun vs H Q E h => ?_) (fun cdv A outer s H vs Q E hr h => ?_)
  · obtain ⟨x, dx, m, kb, pl, ps, rfl, _⟩ := h
    rfl
  · obtain ⟨x, dx, m, kb, pl, ps, rfl, hx, hm, hL, hPs, rz, q⟩ := h
    refine ⟨_, pss_cons (ps_fld (pv 0) (pe_callX (E := E) o_normal (takes_of rfl rfl rfl rfl) hr (by rfl) (pa_cons (pv 1) (pa_cons (pv 2) pa_nil))) rfl) (pss_one (ps_fld (pv 0) (pv 1) rfl)), ?_⟩
    refine ⟨_, rfl, _, rfl, m, kb, pl, ps, rfl, hm, hL, hPs, rz, fun hme H1 l done s1 nl hl ni ex ld dn => ?_⟩
    have hx1 := s1 _ _ hx
    refine ⟨_, rfl, x, C, dx, _, rfl, hx1, T.ic.cl, T.nP, (by show 0 < 1000; decide), ?_⟩
    refine ⟨_, rfl, _, rfl, x, C, dx, _, rfl, upd_same, T.ic.cl, T.nM, (by show 1 < 1000; decide), ?_⟩
    refine q hme _ done (fun b o nb e => ?_) ⟨dx, l, upd_same, PL.updI upd_same (PL.updI hx1 hl)⟩ ni ex ld dn
    rw [upd_ne nb, upd_ne nb]
    exact s1 _ _ e
theorem ok_manyT (F : FnM K "many" "OpenText.many" sManyT f fd) (T : TT K mg C) : FnOk P w K mg base CX0 1 f fd ["self"] (spManyT C) := by
  refine F.ok scManyT (fun vs H Q E h => ?_) (fun cdv A outer s H vs Q E hr h => ?_)
  · obtain ⟨x, m, done, rfl, _⟩ := h
    rfl
  · obtain ⟨x, m, done, rfl, ⟨dx, l, hx, hL⟩, q⟩ := h
    refine ⟨_, PSs.nox (pss_one (ps_ret (pe_fld (pv 0) rfl))), ?_⟩
    exact ⟨_, rfl, x, C, dx, _, _, rfl, hx, T.ic.cl, T.nM, flds_m l m, q⟩
theorem ok_piecesT (F : FnM K "pieces" "OpenText.pieces" sPiecesT f fd) (T : TT K mg C) (z_list : mg "list" = none) : FnOk P w K mg base CX0 1 f fd ["self"] (spPiecesT C) := by
  refine F.ok scPiecesT (fun vs H Q E h => ?_) (fun cdv A outer s H vs Q E hr h => ?_)
  · obtain ⟨x, m, done, rfl, _⟩ := h
    rfl
  · obtain ⟨x, m, done, rfl, ⟨dx, l, hx, xs, hl, hL⟩, q⟩ := h
    refine ⟨_, PSs.nox (pss_one (ps_ret (pe_callTy call_list_of (by rfl) z_list (by decide +kernel) (pa_cons (pe_fld (pv 0) rfl) pa_nil)))), ?_⟩
    exact ⟨_, rfl, x, C, dx, _, _, rfl, hx, T.ic.cl, T.nP, flds_p l m, l, xs, rfl, .inl (SqL.of hl), fun p np => q _ p (same_new np) np ⟨xs, upd_same, hL.keep (same_new np)⟩⟩
theorem ok_runs (F : FnP K "runs_at" sRuns f fd) (o_val : Ok P w K mg base "form_value" 1 ["form", "point"] spFormValue) : FnOk P w K mg base CX0 2 f fd ["pieces", "point"] spRuns := by
  have nd := scRuns.nd
  refine F.ok scRuns (fun vs H Q E h => ?_) (fun cdv A outer s H vs Q E hr h => ?_)
  · obtain ⟨m, a, b, ps, ys, rfl, _⟩ := h
    rfl
  · obtain ⟨m, a, b, ps, ys, rfl, hm, ⟨xs, ha, hP⟩, dn, l100, hb, ly, sy, q⟩ := h
    have lx := hP.len
    have r1 : Room 1 (A.deeper (envOfC "runs_at" (defScope sRuns) s.heap.objs.size f cdv)) := hr
    refine ⟨_, PSs.nox (pss_one (ps_ret (pe_lc (own := [("word", 2), ("form", 3)]) (g := gTup K 2 (gCons (gName 2) (gCons (gName 3) gNil))) (by rfl) nd (pi_list (pv 0)) (blkOk_by (N := ["pieces", "point", "word", "form"]) (sc := defScope sRuns) (own := [("word", 2), ("form", 3)]) (by decide +kernel))
        (fun _ _ _ _ _ => pg_tup rfl (pgs_cons (pg_name (i := 2) nd rfl (Or.inl rfl)) (pgs_cons (pg_name (i := 3) nd rfl (Or.inl rfl)) pgs_nil))) (fun _ _ _ _ _ => pts_nil)
        (fun _ _ _ _ _ => pe_tup (pa_cons (pv 2) (pa_cons (pe_callO o_val r1 (by rfl) (pa_cons (pv 3) (pa_cons (pv 1) pa_nil))) pa_nil)))))), ?_⟩
    refine ⟨_, rfl, a, rfl, ⟨_, SqL.of ha⟩, fun D nD => lc_list (K := K) (a := a) (xs := xs) (fun k H' => Same H H' ∧ ∃ acc, H' D = some (.lst acc) ∧ Rns H' acc ((ps.take k).map (rn ys))) ⟨same_new nD, [], upd_same, .nil⟩ (fun k H' _ p => SqL.of (p.1 _ _ ha)) ?_ ?_⟩
    · rintro k y H' hk ⟨sm, acc, hD, hA⟩
      obtain ⟨p, ep, ⟨t, f1, rfl, ht, hf⟩⟩ := hP.get hk
      have pz := dn.z p (List.mem_of_getElem? ep)
      have li : k < 100 := by
        have := (List.getElem?_eq_some_iff.mp ep).1
        omega
      refine ⟨t, _, rfl, SqT.of (sm _ _ ht), rfl, _, _, rfl, _, _, rfl, rfl, rfl, ?_⟩
      refine ⟨_, rfl, _, rfl, _, rfl, f1, b, p.2.1, p.2.2, ys, rfl, sm _ _ hf, sm _ _ hb, by rw [pz.l, ly], by rw [pz.l]; omega, fun x hx => Sz.le (pz.x x hx) (by decide), fun y hy => Sz.le (sy y hy) (by decide), fun H2 s2 => ⟨(by show 2 ≤ sizeLine; decide), fun u nu => ?_⟩⟩
      have su := same_new (o := .tup [.str p.1, .int (p.2.1 + K5.dot p.2.2 ys)]) nu
      have hD2 := su _ _ (s2 _ _ hD)
      have hA2 := (hA.keep s2).keep su
      have la := hA.len
      rw [List.length_map, List.length_take] at la
      refine ⟨acc, hD2, small1000 (by omega), fun b' o e => ?_, acc ++ [.ref u], upd_same, ?_⟩
      · rw [upd_ne (ne_of_none (H := H) e nD)]
        exact su _ _ (s2 _ _ (sm _ _ e))
      · rw [List.take_add_one, ep, List.map_append]
        exact Rns.updL hD2 (Rns.snoc (m := rn ys p) ⟨u, rfl, upd_same⟩ hA2)
    · rintro H' ⟨sm, acc, hD, hA⟩
      rw [lx, List.take_length] at hA
      exact q H' D acc sm hD hA
end
end K5
set_option Elab.async false
set_option linter.all false
set_option maxRecDepth 100000
set_option maxHeartbeats 4000000
namespace K5
open PySem PySem.Spec PyProof.Rows L2 XV NP
theorem toR_drop (R : List Rn) (i : Nat) : toR (R.drop i) = (toR R).drop i := by
  unfold toR
  rw [List.map_drop]
section
variable {P : Program} {w : World} {K : PySem.W.Frag} {mg : Str → Option Value} {base : Heap} {f : Addr} {fd : FuncData}
theorem ok_letR (F : FnP K "letters_of_runs" sLetR f fd) (z_sum : mg "sum" = none) (z_len : mg "len" = none) : FnOk P w K mg base CX0 1 f fd ["runs"] spLetR := by
  have nd := scLetR.nd
  refine F.ok scLetR (fun vs H Q E h => ?_) (fun cdv A outer s H vs Q E hr h => ?_)
  · obtain ⟨a, xs, R, rfl, _⟩ := h
    rfl
  · obtain ⟨a, xs, R, rfl, ha, hR, l100, hw, q⟩ := h
    have lx := hR.len
    have szl := sizeLine_eq
    refine ⟨_, PSs.nox (pss_one (ps_ret (pe_callB (cr_sum rfl) (by rfl) z_sum (by decide +kernel) (pa_cons
      (pe_lc (own := [("word", 1), ("times", 2)]) (g := gTup K 2 (gCons (gName 1) (gCons (gName 2) gNil))) (by rfl) nd (pi_list (pv 0)) (blkOk_by (N := ["runs", "word", "times"]) (sc := defScope sLetR) (own := [("word", 1), ("times", 2)]) (by decide +kernel))
        (fun _ _ _ _ _ => pg_tup rfl (pgs_cons (pg_name (i := 1) nd rfl (Or.inl rfl)) (pgs_cons (pg_name (i := 2) nd rfl (Or.inl rfl)) pgs_nil))) (fun _ _ _ _ _ => pts_nil)
        (fun _ _ _ _ _ => pe_op op_mul (pe_callB call_len_str (by rfl) z_len boot_len (pa_cons (pv 1) pa_nil)) (pv 2))) pa_nil)))), ?_⟩
    refine ⟨_, rfl, a, rfl, ⟨_, SqL.of ha⟩, fun D nD => lc_list (K := K) (a := a) (xs := xs) (fun k H' => Same H H' ∧ H' D = some (.lst (((R.take k).map fun r => (r.1.length : Int) * r.2).map V.int))) ⟨same_new nD, upd_same⟩ (fun k H' _ p => SqL.of (p.1 _ _ ha)) ?_ ?_⟩
    · rintro k y H' hk ⟨sm, hD⟩
      obtain ⟨r, er, ⟨t, rfl, ht⟩⟩ := hR.get hk
      have li : k < 100 := by
        have := (List.getElem?_eq_some_iff.mp er).1
        omega
      have lw := hw r (List.mem_of_getElem? er)
      have lz := cs_len r.1
      refine ⟨t, _, rfl, SqT.of (sm _ _ ht), rfl, _, _, rfl, _, _, rfl, rfl, rfl, ?_⟩
      refine ⟨_, rfl, r.1, rfl, by omega, _, rfl, _, _, rfl, rfl, .inl ⟨by omega, by omega⟩, _, hD, ?_, fun b o e => ?_, ?_⟩
      · rw [List.length_map, List.length_map]
        exact small1000 (Nat.le_trans (List.length_take_le _ _) (by omega))
      · rw [upd_ne (ne_of_none (H := H) e nD)]
        exact sm _ _ e
      · rw [upd_same, List.take_add_one, er, List.map_append, List.map_append]
        rfl
    · rintro H' ⟨sm, hD⟩
      rw [lx, List.take_length] at hD
      exact ⟨D, _, rfl, SqL.of hD, q H' sm⟩
theorem ok_ltr (F : FnP K "letter_of_runs" sLtr f fd) (z_len : mg "len" = none) : FnOk P w K mg base CX0 1 f fd ["runs", "at"] spLtr := by
  have nd := scLtr.nd
  refine F.ok scLtr (fun vs H Q E h => ?_) (fun cdv A outer s H vs Q E hr h => ?_)
  · obtain ⟨a, xs, R, i, c, rfl, _⟩ := h
    rfl
  · obtain ⟨a, xs, R, i0, c, rfl, ha, hR, l100, hw, hc, q⟩ := h
    have lx := hR.len
    have szl := sizeLine_eq
    refine ⟨_, PSs.nox (pss_cons (ps_for PassesOwn.never rfl (pi_list (pv 0)) (pg_tup rfl (pgs_cons (pg_name (i := 2) nd rfl (Or.inl rfl)) (pgs_cons (pg_name (i := 3) nd rfl (Or.inl rfl)) pgs_nil)))
        (pss_cons (ps_if (pt_cmpR op_lt (pv 1) (pe_op op_mul (pe_callB call_len_str (by rfl) z_len boot_len (pa_cons (pv 2) pa_nil)) (pv 3)) (nomark _)) (pss_one (ps_ret (pe_ix ix_str (pv 2) (pe_op op_mod (pv 1) (pe_callB call_len_str (by rfl) z_len boot_len (pa_cons (pv 2) pa_nil))) (fun _ _ => rfl)))) pss_nil)
        (pss_one (ps_aug (i := 1) nd rfl (Or.inl rfl) (pe_op op_mul (pe_callB call_len_str (by rfl) z_len boot_len (pa_cons (pv 2) pa_nil)) (pv 3)) ip_sub))))
      (pss_one (ps_ret pe_str))), ?_⟩
    refine ⟨_, rfl, a, rfl, ⟨_, SqL.of ha⟩, for_list (K := K) (a := a) (xs := xs) (fun i σ H' => H' = H ∧ ∃ (at_ : Nat) (x2 x3 : Option V), σ = [some (.ref a), some (.int (at_ : Int)), x2, x3] ∧ letterR ((toR R).drop i) at_ = some c) ⟨rfl, i0, _, _, rfl, hc⟩ (fun i σ H' _ p => p.1 ▸ SqL.of ha) ?_ ?_⟩
    · rintro i y σ H' hi ⟨rfl, n, x2, x3, rfl, hn⟩
      obtain ⟨r, er, ⟨t, rfl, ht⟩⟩ := hR.get hi
      obtain ⟨lw, r0⟩ := hw r (List.mem_of_getElem? er)
      have lz := cs_len r.1
      have et : (toR R)[i]? = some (cs r.1, r.2.toNat) := by
        unfold toR
        rw [List.getElem?_map, er]
        rfl
      have ed : (toR R).drop i = (cs r.1, r.2.toNat) :: (toR R).drop (i + 1) := by
        obtain ⟨lt, e⟩ := List.getElem?_eq_some_iff.mp et
        rw [List.drop_eq_getElem_cons lt, e]
      rw [ed] at hn
      have hn : (if n < (cs r.1).length * r.2.toNat then (cs r.1)[n % (cs r.1).length]? else letterR ((toR R).drop (i + 1)) (n - (cs r.1).length * r.2.toNat)) = some c := hn
      have em : ((r.1.length : Int) * r.2) = (((cs r.1).length * r.2.toNat : Nat) : Int) := by
        rw [Int.natCast_mul, Int.toNat_of_nonneg r0, lz]
      refine ⟨t, _, rfl, SqT.of ht, rfl, _, _, rfl, _, _, rfl, rfl, ?_⟩
      refine ⟨_, rfl, _, rfl, r.1, rfl, by omega, _, rfl, _, _, rfl, rfl, .inl ⟨by omega, by omega⟩, _, _, rfl, rfl, _, rfl, ite2 (fun e => ?_) (fun e => ?_)⟩
      · have e : (n : Int) < (r.1.length : Int) * r.2 := of_decide_eq_true e
        rw [em] at e
        have e : n < (cs r.1).length * r.2.toNat := by omega
        rw [if_pos e] at hn
        have lp : 0 < (cs r.1).length := by
          by_cases z : (cs r.1).length = 0
          · rw [z, Nat.zero_mul] at e
            omega
          · omega
        refine ⟨_, rfl, _, rfl, _, rfl, r.1, rfl, by omega, _, _, rfl, rfl, (by show (0 : Int) < (r.1.length : Int); omega), r.1, _, c, rfl, rfl, by omega, ?_, q⟩
        rw [lz, ← Int.natCast_emod]
        exact atI_nat hn
      · have e : ¬ (n : Int) < (r.1.length : Int) * r.2 := fun z => e (decide_eq_true z)
        rw [em] at e
        have e : ¬ n < (cs r.1).length * r.2.toNat := by omega
        rw [if_neg e] at hn
        refine ⟨_, rfl, _, rfl, r.1, rfl, by omega, _, rfl, _, _, rfl, rfl, .inl ⟨by omega, by omega⟩, _, _, rfl, rfl, rfl, n - (cs r.1).length * r.2.toNat, some (.str r.1), some (.int r.2), ?_, hn⟩
        show [some (V.ref a), some (V.int ((n : Int) - (r.1.length : Int) * r.2)), some (V.str r.1), some (V.int r.2)] = _
        rw [em, show (n : Int) - (((cs r.1).length * r.2.toNat : Nat) : Int) = ((n - (cs r.1).length * r.2.toNat : Nat) : Int) by omega]
    · rintro σ H' ⟨rfl, n, x2, x3, rfl, hn⟩
      rw [List.drop_eq_nil_of_le (by unfold toR; rw [List.length_map]; omega)] at hn
      cases hn
end
end K5
set_option Elab.async false
set_option linter.all false
set_option maxRecDepth 100000
set_option maxHeartbeats 4000000
namespace K5
open PySem PySem.Spec PyProof.Rows L2 XV NP
def NoT (K : PySem.W.Frag) (H : Hp) (v : L2.V) : Prop := ∃ T ∈ tys, TyX K H v (.type T)
/-! ### the methods -/
structure OkMt (P : Program) (w : World) (K : PySem.W.Frag) (mg : Str → Option Value) (base : Heap) (C : Addr) (m : Str) (sp : Sp) : Prop where
  ex : ∃ f fd, FnOk P w K mg base CX0 1 f fd ["self"] sp ∧ Meth K C m f ∧ Binds K fd ["self"] []
section
variable {X : Cx} {C : Addr} {e : Expr} {te : TE} {apos pos : Pos}
theorem pe_manyT {pl : Sem Bool} (o : OkMt X.prog X.w X.K X.mg X.base C "many" (spManyT C)) (T : TT X.K X.mg C) (he : PE X e te) (hr : Room 1 X.A) (ht : eval (.Call (.Attribute e "many" apos) [] [] pos) X.env = (do
      let ov ← eval e X.env
      standAt apos.atName
      let (f, first) ← holding [ov] (getMethod ov "many" pl)
      callWith pos f first (backTo pos (starEach [] X.env)) (backToKw pos (keywordEach [] X.env))) := by rfl) :
    PE X (.Call (.Attribute e "many" apos) [] [] pos) (fun σ H Q => te σ H fun x H1 => ∃ a m done, x = .ref a ∧ Tx C H1 a m done ∧ Q (.int (m : Int)) H1) := by
  obtain ⟨f, fd, F, hm, b⟩ := o.ex
  refine PE.le (pe_meth0 (pl := pl) (pe_mono he) T.ic.cl hm F hr b .nil pass0 ht) fun σ H Q h => ⟨_, h, ?_⟩
  rintro x H1 ⟨a, m, done, rfl, hg, q⟩
  obtain ⟨dx, l, hx, hL⟩ := id hg
  exact ⟨a, dx, _, rfl, hx, flds_no _ _ (by decide +kernel) (by decide +kernel), a, m, done, rfl, hg, q⟩
theorem pe_piecesT {pl : Sem Bool} (o : OkMt X.prog X.w X.K X.mg X.base C "pieces" (spPiecesT C)) (T : TT X.K X.mg C) (he : PE X e te) (hr : Room 1 X.A) (ht : eval (.Call (.Attribute e "pieces" apos) [] [] pos) X.env = (do
      let ov ← eval e X.env
      standAt apos.atName
      let (f, first) ← holding [ov] (getMethod ov "pieces" pl)
      callWith pos f first (backTo pos (starEach [] X.env)) (backToKw pos (keywordEach [] X.env))) := by rfl) :
    PE X (.Call (.Attribute e "pieces" apos) [] [] pos) (fun σ H Q => te σ H fun x H1 => ∃ a m done, x = .ref a ∧ Tx C H1 a m done ∧ ∀ (H' : Hp) (p : Addr), Same H1 H' → H1 p = none → PL H' p done → Q (.ref p) H') := by
  obtain ⟨f, fd, F, hm, b⟩ := o.ex
  refine PE.le (pe_meth0 (pl := pl) (pe_mono he) T.ic.cl hm F hr b .nil pass0 ht) fun σ H Q h => ⟨_, h, ?_⟩
  rintro x H1 ⟨a, m, done, rfl, hg, q⟩
  obtain ⟨dx, l, hx, hL⟩ := id hg
  exact ⟨a, dx, _, rfl, hx, flds_no _ _ (by decide +kernel) (by decide +kernel), a, m, done, rfl, hg, q⟩
end
abbrev sReqText : Stmt := top 58
abbrev sReqTP : Stmt := top 59
abbrev sTLetter : Stmt := top 52
theorem scReqText : FnScope ["text"] ["text"] (defScope sReqText) := ⟨rfl, rfl, rfl, by decide +kernel, rfl, by decide +kernel, by decide +kernel⟩
theorem scReqTP : FnScope ["text", "point"] ["text", "point"] (defScope sReqTP) := ⟨rfl, rfl, rfl, by decide +kernel, rfl, by decide +kernel, by decide +kernel⟩
theorem scTLetter : FnScope ["text", "point", "at", "runs"] ["text", "point", "at"] (defScope sTLetter) := ⟨rfl, rfl, rfl, by decide +kernel, rfl, by decide +kernel, by decide +kernel⟩
def spReqText (K : PySem.W.Frag) (C : Addr) : Sp := fun vs H Q E => ∃ v, vs = [v] ∧ ((∃ x m done, v = .ref x ∧ Tx C H x m done ∧ Q .non H) ∨ (NoT K H v ∧ Rz E H (C4 K 0) v))
/-- a text and a point for it, or what is not -/
def TP (K : PySem.W.Frag) (C : Addr) (H : Hp) (u v : L2.V) (E : XK) (R : Addr → Nat → List Pc → Prop) : Prop := (NoT K H u ∧ Rz E H (C4 K 0) u) ∨ ∃ x m done b, u = .ref x ∧ Tx C H x m done ∧ IsP H m v b ∧ ((b = false ∧ Rz E H (C4 K 1) v) ∨ (b = true ∧ R x m done))
def spReqTP (K : PySem.W.Frag) (C : Addr) : Sp := fun vs H Q E => ∃ u v, vs = [u, v] ∧ TP K C H u v E fun _ _ _ => ∀ H', Same H H' → Q .non H'
section
variable {P : Program} {w : World} {K : PySem.W.Frag} {mg : Str → Option Value} {base : Heap} {f : Addr} {fd : FuncData} {C : Addr}
theorem ok_reqText (F : FnP K "require_text" sReqText f fd) (T : TT K mg C) (Z : Cl4 P w K mg base) (z_isinstance : mg "isinstance" = none) : FnOk P w K mg base (L2.CX P w) 3 f fd ["text"] (spReqText K C) := by
  refine F.ok scReqText (fun vs H Q E h => ?_) (fun cdv A outer s H vs Q E hr h => ?_)
  · obtain ⟨v, rfl, _⟩ := h
    rfl
  · obtain ⟨v, rfl, h⟩ := h
    obtain ⟨fI, fdI, XT⟩ := Z.x 0 (by decide)
    have XT : XCls P w K mg base "InvalidText" "value" (C4 K 0) fI fdI := XT
    refine ⟨_, pss_one (ps_if (pt_not (pt_val (pe_callB call_isi (by rfl) z_isinstance (by decide +kernel) (pa_cons (pv 0) (pa_cons (pe_glob (v := .ref C) (by rfl) T.g rfl) pa_nil))))) (pss_one (ps_raiseX (nm := "InvalidText") rfl XT hr (takes_of rfl rfl rfl rfl) (by rfl) (pv 0))) pss_nil), ?_⟩
    rcases h with ⟨x, m, done, rfl, ⟨dx, l, hx, hL⟩, q⟩ | ⟨⟨T', hT, ty⟩, r⟩
    · exact ⟨_, rfl, _, _, _, _, true, rfl, .own C, T.ty hx, T.ic.me, true, rfl, iteF q⟩
    · exact ⟨_, rfl, _, _, _, _, false, rfl, .own C, ty, T.kt T' hT, false, rfl, iteT ⟨_, rfl, fun d nd => r H d (Same.refl _) nd⟩⟩
theorem ok_reqTP (F : FnP K "require_text_point" sReqTP f fd) (T : TT K mg C) (Z : Cl4 P w K mg base) (o_text : OkX P w K mg base "require_text" 3 ["text"] (spReqText K C)) (o_many : OkMt P w K mg base C "many" (spManyT C)) (o_point : Ok P w K mg base "is_point" 3 ["many", "value"] spIsPoint) :
    FnOk P w K mg base (L2.CX P w) 4 f fd ["text", "point"] (spReqTP K C) := by
  refine F.ok scReqTP (fun vs H Q E h => ?_) (fun cdv A outer s H vs Q E hr h => ?_)
  · obtain ⟨u, v, rfl, _⟩ := h
    rfl
  · obtain ⟨u, v, rfl, h⟩ := h
    obtain ⟨fI, fdI, XT⟩ := Z.x 1 (by decide)
    have XT : XCls P w K mg base "InvalidPoint" "value" (C4 K 1) fI fdI := XT
    refine ⟨_, pss_cons (ps_expr (pe_callX (E := E) o_text (takes_of rfl rfl rfl rfl) hr (by rfl) (pa_cons (pv 0) pa_nil)))
      (pss_one (ps_if (pt_not (pt_val (pe_callO o_point hr (by rfl) (pa_cons (pe_manyT o_many T (pv 0) (hr.mono (by decide))) (pa_cons (pv 1) pa_nil))))) (pss_one (ps_raiseX (nm := "InvalidPoint") rfl XT (hr.mono (by decide)) (takes_of rfl rfl rfl rfl) (by rfl) (pv 1))) pss_nil)), ?_⟩
    rcases h with ⟨n, r⟩ | ⟨x, m, done, b, rfl, hx, hp, h⟩
    · exact ⟨_, rfl, _, rfl, .inr ⟨n, r⟩⟩
    refine ⟨_, rfl, _, rfl, .inl ⟨x, m, done, rfl, hx, ?_⟩⟩
    refine ⟨_, rfl, x, m, done, rfl, hx, _, rfl, m, v, b, rfl, hp, fun H1 s1 => ⟨b, rfl, ?_⟩⟩
    rcases h with ⟨rfl, r⟩ | ⟨rfl, q⟩
    · exact iteT ⟨_, rfl, fun d nd => r H1 d s1 nd⟩
    · exact iteF (q H1 s1)
end
end K5
set_option Elab.async false
set_option linter.all false
set_option maxRecDepth 100000
set_option maxHeartbeats 4000000
/-! f(k = v, ..) in a try, the names in the parameters' order turned round; f may raise. -/
namespace XV
open PySem PySem.Spec PyProof.Rows L2
structure OkKX (P : Program) (w : World) (K : PySem.W.Frag) (mg : Str → Option Value) (base : Heap) (x : Str) (k : Nat) (ps : List Str) (sp : Sp) : Prop where
  ex : ∃ f fd, FnOk P w K mg base (L2.CX P w) k f fd ps sp ∧ mg x = some (.ref f) ∧ PySem.W.keepIn K (.ref f) = true ∧ KBn K fd ps 0 ps.reverse (fun _ ws => ws.reverse) (fun _ zs => zs.reverse)
theorem OkKX.mk' {P : Program} {w : World} {K : PySem.W.Frag} {mg : Str → Option Value} {base : Heap} {x : Str} {k : Nat} {ps : List Str} {sp : Sp} {body : List Stmt} {params : Arguments} {scope : Scope} {f : Addr} {fd : FuncData}
    (F : FunD K x x params body scope [] [] f fd) (g : mg x = some (.ref f)) (b : ∀ (kV doc pm : Value) (an : Option Addr) (cdv ct : Value) (ws : List Value), ws.length = ps.length → bindArgs (PySem.W.fnOf x x params body scope .none kV doc pm an cdv ct) ⟨[], ps.reverse.zip ws⟩ = pure (ps.zip ws.reverse))
    (ok : FnOk P w K mg base (L2.CX P w) k f fd ps sp) : OkKX P w K mg base x k ps sp := by
  refine ⟨f, fd, ok, g, F.kp, ⟨fun s us ws _ l1 l2 => ?_, fun _ r => vals_rev r⟩⟩
  obtain ⟨oc, od, dV, kV, doc, pm, an, cdv, ct, osl, rfl, lk, hcd, hD, hK⟩ := F.ex
  rcases hD with ⟨_, rfl⟩ | ⟨e, _⟩
  · obtain rfl := List.length_eq_zero_iff.mp l1
    exact .of_eq (b kV doc pm an cdv ct ws (by rw [l2, List.length_reverse]))
  · exact absurd rfl e
theorem OkKX.calm {P : Program} {w : World} {K : PySem.W.Frag} {mg : Str → Option Value} {base : Heap} {x : Str} {k : Nat} {ps : List Str} {sp : Sp} (o : OkKX P w K mg base x k ps sp) : OkK P w K mg base x k ps (cm sp) := by
  obtain ⟨f, fd, F, h1, h2, h3⟩ := o.ex
  exact ⟨f, fd, FnOk.calm F, h1, h2, h3⟩
section
variable {X : Cx} {CX : CXT} {k n : Nat} {f : Addr} {fd : FuncData} {ps ks : List Str} {sp : Sp} {E : L2.St → XK} {x : Str} {p pos : Pos} {kws : List Keyword} {tk : TA} {g : List Value → List Value → List Value} {gV : List V → List V → List V} {W : WX}
theorem run_fnNS {pins : List (Addr × Obj)} {σ : L2.St} {H : Hp} {s : Shared} {Q : VK} {us ws : List Value} {vs zs : List V} (F : FnOk X.prog X.w X.K X.mg X.base CX k f fd ps sp) (hr : Room k X.A) (hb : KBn X.K fd ps n ks g gV) (hx : PassesAt CX X σ (E σ))
    (I : Inv X pins σ H s) (r : Vals vs us) (rz : Vals zs ws) (l1 : vs.length = n) (l2 : zs.length = ks.length) (h : sp (gV vs zs) H Q (E σ)) : wpAny (model X.prog X.w) X.A (call (.ref f) us (ks.zip ws)) (EP X pins σ Q) X.xe s := by
  have r2 := hb.rel r rz
  refine wpAny_call (codeAny_mono (F.run X.A X.stack s H ⟨us, ks.zip ws⟩ (g us ws) (gV vs zs) Q (E σ) hr I.env0 (hb.to s us ws I.kIn (r.length.symm.trans l1) (rz.length.symm.trans l2)) r2 h) fun r s' hq => ?_)
  cases r with
  | error e => exact hx pins H s e s' I hq
  | ok fl =>
    cases fl with
    | ret u => exact I.after hq
    | next => exact False.elim hq
    | brk => exact False.elim hq
    | cont => exact False.elim hq
theorem pe_callKT (o : OkKX X.prog X.w X.K X.mg X.base x k ps sp) (tk_ : Takes X W) (hr : Room k X.A) (hg : Gl X x) (hk : PK X kws tk) (hdb : (x == ("__debug__" : Str)) = false := by decide)
    (hall : (backToKw pos (keywordEach kws X.env)).all (·.1.isSome) = true := by rfl) (hks : (backToKw pos (keywordEach kws X.env)).filterMap (·.1) = ps.reverse := by rfl)
    (hpl : ((backTo pos (starEach [] X.env)).any (·.1) || (backToKw pos (keywordEach kws X.env)).any (·.1.isNone)) = false := by rfl) :
    PE X (.Call (.Name x p) [] kws pos) (fun σ H Q => tk σ H fun zs H1 => zs.length = ps.reverse.length ∧ sp zs.reverse H1 Q (WE W σ)) := by
  obtain ⟨f, fd, F, hm, kp, B⟩ := o.ex
  refine ⟨fun pins s σ H Q I h => ?_⟩
  refine wpAny_Call_Name_kw (ld_glob I hg hm ?_ hdb)
  refine PySem.W.callWith_KW0 (h₀ := X.base) I.ok.mod.kin kp hall (thn (hk.run pos pins s σ H _ I h) fun ws s1 z => ?_) hpl
  obtain ⟨zs, H1, I1, r, l, q⟩ := z
  refine ⟨I1.kIn, ?_⟩
  rw [hks]
  exact run_fnNS (E := WE W) (us := []) (vs := []) F hr B (passAt tk_ σ) I1 .nil r rfl l q
end
end XV
set_option Elab.async false
set_option linter.all false
set_option maxRecDepth 100000
set_option maxHeartbeats 4000000
namespace K5
open PySem PySem.Spec PyProof.Rows L2 XV NP
/-! ### pieces as data, == of texts, OpenText(many, pieces) -/
theorem dp_ints {K : PySem.W.Frag} {H : Hp} : ∀ l : List Int, DpAll K H (l.map V.int) (l.map PyData.int)
  | [] => .nil
  | x :: l => .cons (.int x) (dp_ints l)
def pcD (p : Pc) : PyData := .tuple [.str p.1, .tuple ((fm p).map PyData.int)]
def psD (ps : List Pc) : PyData := .list (ps.map pcD)
theorem pc_dp {K : PySem.W.Frag} {H : Hp} {x : L2.V} {p : Pc} (h : IsPc H x p) : Dp K H x (pcD p) := by
  obtain ⟨a, f, rfl, ht, hf⟩ := h
  exact .tup (SqT.of ht) (.cons (.str _) (.cons (.tup (SqT.of hf) (dp_ints _)) .nil))
theorem pcs_dp {K : PySem.W.Frag} {H : Hp} : ∀ {xs : List L2.V} {ps : List Pc}, Pcs H xs ps → DpAll K H xs (ps.map pcD)
  | _, _, .nil => .nil
  | _, _, .cons h r => .cons (pc_dp h) (pcs_dp r)
theorem pl_dp {K : PySem.W.Frag} {H : Hp} {l : Addr} {ps : List Pc} (h : PL H l ps) : Dp K H (.ref l) (psD ps) := by
  obtain ⟨xs, e, r⟩ := h
  exact .lst (SqL.of e) (pcs_dp r)
theorem lay_ints : ∀ l : List Int, PyData.canLayAll0 (l.map PyData.int) = true
  | [] => by simp [PyData.canLayAll0]
  | x :: l => by simp [PyData.canLayAll0, PyData.canLay0, lay_ints l]
theorem depth_ints : ∀ l : List Int, PyData.depthAll (l.map PyData.int) = 0
  | [] => by simp [PyData.depthAll]
  | x :: l => by simp [PyData.depthAll, PyData.depth, depth_ints l]
theorem ab_ok {z : Str} (h : AB z) : PyData.strOk z = true := by
  unfold PyData.strOk
  rw [arr_all, List.all_eq_true]
  intro c hc
  rcases h c hc with rfl | rfl <;> decide +kernel
theorem pc_lay {p : Pc} (h : AB p.1) : (pcD p).canLay0 = true := by simp [pcD, PyData.canLay0, PyData.canLayAll0, lay_ints, ab_ok h]
theorem pc_depth (p : Pc) : (pcD p).depth = 2 := by simp [pcD, PyData.depth, PyData.depthAll, depth_ints]
theorem pcs_lay : ∀ ps : List Pc, (∀ p ∈ ps, AB p.1) → PyData.canLayAll0 (ps.map pcD) = true
  | [], _ => by simp [PyData.canLayAll0]
  | p :: ps, h => by simp [PyData.canLayAll0, pc_lay (h p List.mem_cons_self), pcs_lay ps fun q hq => h q (List.mem_cons_of_mem _ hq)]
theorem pcs_depth : ∀ ps : List Pc, PyData.depthAll (ps.map pcD) ≤ 2
  | [] => by simp [PyData.depthAll]
  | p :: ps => by
    have := pcs_depth ps
    simp only [List.map_cons, PyData.depthAll, pc_depth]
    omega
theorem ps_shaped {ps : List Pc} (h : ∀ p ∈ ps, AB p.1) : SeqAt.shaped (psD ps) = true := by
  have e : (psD ps).depth ≤ 64 := by
    have := pcs_depth ps
    simp only [psD, PyData.depth]
    omega
  unfold SeqAt.shaped
  rw [decide_eq_true e, Bool.and_true]
  simp [psD, PyData.canLay0, pcs_lay ps h]
theorem ps_eqv {ps : List Pc} (h : ∀ p ∈ ps, AB p.1) : PyData.eqv (psD ps) (psD ps) = true := SeqAt.eqv_refl _ (SeqAt.canLay_of_shaped (ps_shaped h))
theorem pi_inj : ∀ {a b : List Pc}, a.map pi = b.map pi → a = b
  | [], [], _ => rfl
  | [], _ :: _, h => by cases h
  | _ :: _, [], h => by cases h
  | p :: a, q :: b, h => by
    rw [List.map_cons, List.map_cons] at h
    injection h with h1 h2
    have e1 : cs p.1 = cs q.1 := congrArg Prod.fst h1
    have e2 : p.2 = q.2 := congrArg (fun z : N5.Pi Nat => z.2) h1
    rw [pi_inj h2, show p = q from Prod.ext (cs_ext e1) e2]
abbrev sEq : Stmt := inClass (top 47) 3
theorem scEq : FnScope ["self", "other"] ["self", "other"] (defScope sEq) := ⟨rfl, rfl, rfl, by decide +kernel, rfl, by decide +kernel, by decide +kernel⟩
def spEq (K : PySem.W.Frag) (C : Addr) : Sp := fun vs H Q _ => ∃ x y m done, vs = [.ref x, .ref y] ∧ Tx C H x m done ∧ Tx C H y m done ∧ (∀ p ∈ done, AB p.1) ∧ Q (.bl true) H
theorem TT.nC {K : PySem.W.Frag} {C : Addr} : PySem.W.notFirst K C (.ref C) = true := by
  unfold PySem.W.notFirst
  rw [beq_self_eq_true]
  rfl
section
variable {P : Program} {w : World} {K : PySem.W.Frag} {mg : Str → Option Value} {base : Heap} {f : Addr} {fd : FuncData} {C : Addr}
theorem ok_eq (F : FnM K "__eq__" "OpenText.__eq__" sEq f fd) (T : TT K mg C) (z_isinstance : mg "isinstance" = none) : FnOk P w K mg base CX0 1 f fd ["self", "other"] (spEq K C) := by
  refine F.ok scEq (fun vs H Q E h => ?_) (fun cdv A outer s H vs Q E hr h => ?_)
  · obtain ⟨x, y, m, done, rfl, _⟩ := h
    rfl
  · obtain ⟨x, y, m, done, rfl, ⟨dx, l, hx, hL⟩, ⟨dy, l2, hy, hM⟩, hab, q⟩ := h
    have hu := hr.units
    refine ⟨_, PSs.nox (pss_one (ps_ret (pe_and (pe_callB call_isi (by rfl) z_isinstance (by decide +kernel) (pa_cons (pv 1) (pa_cons (pe_glob (v := .ref C) (by rfl) T.g rfl) pa_nil))) (pe_and (pe_cmpR op_eq (pe_fld (pv 0) rfl) (pe_fld (pv 1) rfl) (nomark _)) (pe_one (pe_cmpR (op_eqD hu) (pe_fld (pv 0) rfl) (pe_fld (pv 1) rfl) (nomark _))))))), ?_⟩
    refine ⟨_, rfl, _, _, _, _, true, rfl, .own C, T.ty hy, T.ic.me, true, rfl, iteT ?_⟩
    refine ⟨_, rfl, x, C, dx, _, _, rfl, hx, T.ic.cl, T.nM, flds_m _ _, _, rfl, y, C, dy, _, _, rfl, hy, T.ic.cl, T.nM, flds_m _ _, rfl, true, congrArg V.bl (decide_eq_true rfl), iteT ?_⟩
    refine ⟨_, rfl, x, C, dx, _, _, rfl, hx, T.ic.cl, T.nP, flds_p _ _, _, rfl, y, C, dy, _, _, rfl, hy, T.ic.cl, T.nP, flds_p _ _, psD done, psD done, pl_dp hL, pl_dp hM, ps_shaped hab, ps_shaped hab, ?_⟩
    rw [ps_eqv hab]
    exact q
end
structure OkEq (P : Program) (w : World) (K : PySem.W.Frag) (mg : Str → Option Value) (base : Heap) (C : Addr) : Prop where
  ex : ∃ f fd, PySem.W.findIn K (.ref C) "__eq__" = some (some (.ref f)) ∧ PySem.W.isFn K (.ref f) = true ∧ FnOk P w K mg base CX0 1 f fd ["self", "other"] (spEq K C) ∧ Binds K fd ["self", "other"] []
/-- x == y of two texts with the same pieces -/
def rEqT (C : Addr) : R2 := fun x y H Q => ∃ a b m done, x = .ref a ∧ y = .ref b ∧ Tx C H a m done ∧ Tx C H b m done ∧ (∀ p ∈ done, AB p.1) ∧ Q (.bl true) H
section
variable {X : Cx} {C : Addr}
theorem op_eqT (o : OkEq X.prog X.w X.K X.mg X.base C) (T : TT X.K X.mg C) (hr : Room 1 X.A) : OpR X (compareOp .Eq) (rEqT C) := by
  obtain ⟨f, fd, e1, e2, F, b⟩ := o.ex
  intro pins s σ H x y v u Q I rx ry h
  obtain ⟨a, a2, m, done, rfl, rfl, hx, hy, hab, q⟩ := h
  obtain ⟨dx, l, h1, hL⟩ := id hx
  obtain ⟨dy, l2, h2, hM⟩ := id hy
  exact op_ownE e1 e2 F hr b pass0 pins s σ H _ _ v u Q I rx ry ⟨a, dx, _, .ref C, rfl, h1, T.ty h2, TT.nC, a, a2, m, done, rfl, hx, hy, hab, q⟩
end
/-- a text as it is made: its pieces are normal -/
structure Tn (C : Addr) (H : Hp) (x : Addr) (m k L : Nat) (done : List Pc) : Prop where
  t : Tx C H x m done
  n : N5.nrmC m (done.map pi) = done.map pi
  d : Dn m k done
  l : done.length ≤ L
  me : meas done ≤ 2000
theorem Tn.keep {C : Addr} {H H' : Hp} (s : Same H H') {x : Addr} {m k L : Nat} {done : List Pc} (h : Tn C H x m k L done) : Tn C H' x m k L done := ⟨h.t.keep s, h.n, h.d, h.l, h.me⟩
structure OkMkT (P : Program) (w : World) (K : PySem.W.Frag) (mg : Str → Option Value) (base : Heap) (C : Addr) : Prop where
  ex : ∃ f fd, Mk K C f ∧ FnOk P w K mg base (L2.CX P w) 6 f fd ["self", "many", "pieces"] (spInit K C) ∧ Binds K fd ["self", "many", "pieces"] [] ∧ mg "OpenText" = some (.ref C)
theorem same_two {H : Hp} {x dx : Addr} {o u : HO} (nx : H x = none) (ndx : H dx = none) (ne : dx ≠ x) : Same H (upd (upd H dx o) x u) :=
  (same_new ndx).trans (same_new (by
    rw [upd_ne (Ne.symm ne)]
    exact nx))
/-- what OpenText(m, ps) makes -/
def Md (C : Addr) (H : Hp) (m kb : Nat) (ps : List Pc) (Q : VK) : Prop := ∀ (H' : Hp) (x : Addr) (done : List Pc), Same H H' → H x = none → Tx C H' x m done → NI ps done [] → done.map pi = N5.nrmC m (ps.map pi) → done.length ≤ 2 * ps.length + 1 → Dn m (kb + 200) done → Q (.ref x) H'
section
variable {X : Cx} {C : Addr} {e1 e2 : Expr} {t1 t2 : TE} {pos p : Pos}
theorem pe_mkX {E : XK} (o : OkMkT X.prog X.w X.K X.mg X.base C) (tk : Takes X fun cls d _ H => E cls d H) (hr : Room 7 X.A) (hg : Gl X "OpenText") (h1 : PE X e1 t1) (h2 : PE X e2 t2) (hs1 : starEach [e1, e2] X.env = (false, eval e1 X.env) :: starEach [e2] X.env := by rfl) (hs2 : starEach [e2] X.env = (false, eval e2 X.env) :: starEach [] X.env := by rfl) (hpl : (backTo pos (starEach [e2] X.env)).any (·.1) = false := by rfl) :
    PE X (.Call (.Name "OpenText" p) [e1, e2] [] pos) (fun σ H Q => t1 σ H fun v1 H1 => t2 σ H1 fun v2 H2 => ∃ (m kb : Nat) (pl : Addr) (ps : List Pc), v1 = .int m ∧ v2 = .ref pl ∧ m ≤ 3 ∧ PL H2 pl ps ∧ Pq m kb ps ∧ (2000 < meas ps → Rz E H2 (C4 X.K 4) (.int (meas ps))) ∧ (meas ps ≤ 2000 → Md C H2 m kb ps Q)) := by
  obtain ⟨f, fd, M, F, b, g⟩ := o.ex
  refine PE.le (pe_make M F hr hg g b .nil (passes_call tk fun _ _ _ _ h => h) (pa_cons (pe_mono h1) (pa_cons (pe_mono h2) pa_nil hs2) hs1) (by decide) hs1 hpl) fun σ H Q h => ⟨_, h, fun v1 H1 h1' => ⟨_, h1', ?_⟩⟩
  rintro v2 H2 ⟨m, kb, pl, ps, rfl, rfl, hm, hL, hPs, r, q⟩
  intro x dx nx ndx ne
  have s := same_two (o := .own x) (u := .ins C dx []) nx ndx ne
  refine ⟨x, dx, m, kb, pl, ps, rfl, upd_same, hm, hL.keep s, hPs, fun gt => (r gt).at s, fun hme H' done bt hT ni ex ld dn => ⟨rfl, q hme H' x done (fun b' o e => ?_) nx hT ni ex ld dn⟩⟩
  exact bt _ _ (ne_of_none e nx) (s _ _ e)
/-- where nothing is raised -/
theorem pe_mkT (o : OkMkT X.prog X.w X.K X.mg X.base C) (hr : Room 7 X.A) (hg : Gl X "OpenText") (h1 : PE X e1 t1) (h2 : PE X e2 t2) (hs1 : starEach [e1, e2] X.env = (false, eval e1 X.env) :: starEach [e2] X.env := by rfl) (hs2 : starEach [e2] X.env = (false, eval e2 X.env) :: starEach [] X.env := by rfl) (hpl : (backTo pos (starEach [e2] X.env)).any (·.1) = false := by rfl) :
    PE X (.Call (.Name "OpenText" p) [e1, e2] [] pos) (fun σ H Q => t1 σ H fun v1 H1 => t2 σ H1 fun v2 H2 => ∃ (m kb : Nat) (pl : Addr) (ps : List Pc), v1 = .int m ∧ v2 = .ref pl ∧ m ≤ 3 ∧ PL H2 pl ps ∧ Pq m kb ps ∧ meas ps ≤ 2000 ∧ Md C H2 m kb ps Q) := by
  obtain ⟨f, fd, M, F, b, g⟩ := o.ex
  refine PE.le (pe_make M (FnOk.calm F) hr hg g b .nil pass0 (pa_cons (pe_mono h1) (pa_cons (pe_mono h2) pa_nil hs2) hs1) (by decide) hs1 hpl) fun σ H Q h => ⟨_, h, fun v1 H1 h1' => ⟨_, h1', ?_⟩⟩
  rintro v2 H2 ⟨m, kb, pl, ps, rfl, rfl, hm, hL, hPs, hme, q⟩
  intro x dx nx ndx ne
  have s := same_two (o := .own x) (u := .ins C dx []) nx ndx ne
  refine ⟨x, dx, m, kb, pl, ps, rfl, upd_same, hm, hL.keep s, hPs, fun gt => absurd hme (by omega), fun _ H' done bt hT ni ex ld dn => ⟨rfl, q H' x done (fun b' o e => ?_) nx hT ni ex ld dn⟩⟩
  exact bt _ _ (ne_of_none e nx) (s _ _ e)
end
end K5
set_option Elab.async false
set_option linter.all false
set_option maxRecDepth 100000
set_option maxHeartbeats 4000000
namespace K5
open PySem PySem.Spec PyProof.Rows L2 XV NP
abbrev sLength : Stmt := top 53
theorem scLength : FnScope ["text", "word", "form"] ["text"] (defScope sLength) := ⟨rfl, rfl, rfl, by decide +kernel, rfl, by decide +kernel, by decide +kernel⟩
theorem tms_nn {m k : Nat} {p : Pc} (h : Pz m k p) {ys : List Int} (hy : ∀ y ∈ ys, 0 ≤ y) : 0 ≤ tms p ys := by
  have a := h.c.1
  have b := NP.dot_nn (xs := p.2.2) (fun x hx => (h.x x hx).1) hy
  unfold tms
  omega
theorem lenR_V {m k : Nat} {done : List Pc} (h : ∀ p ∈ done, Pz m k p) {ys : List Int} (hy : ∀ y ∈ ys, 0 ≤ y) : lenR (done.map (rn ys)) = (((NP.V ys done).length : Nat) : Int) := by
  rw [lenR_eq fun r hr => ?_, ← wr_len, wr_rn]
  obtain ⟨p, hp, rfl⟩ := List.mem_map.mp hr
  exact tms_nn (h p hp) hy
/-- a text and a point: what is asked where both are right -/
structure Gd (H : Hp) (v : L2.V) (bp : Addr) (ys : List Int) (m : Nat) (done : List Pc) : Prop where
  e : v = .ref bp
  h : H bp = some (.lst (ys.map L2.V.int))
  l : ys.length = m
  m3 : m ≤ 3
  s : ∀ y ∈ ys, Sz 400 y
  d : Dn m 800 done
  n : done.length ≤ 90
def spTLetter (K : PySem.W.Frag) (C : Addr) : Sp := fun vs H Q E => ∃ u v a_, vs = [u, v, a_] ∧ TP K C H u v E fun x m done => ∃ bp ys, Gd H v bp ys m done ∧ Kn H a_ ∧
  (belV (lenR (done.map (rn ys))) a_ = true → ∀ (H' : Hp) (i c : Nat), Same H H' → a_ = .int i → (NP.V ys done)[i]? = some c → Q (.str ⟨#[c]⟩) H') ∧ (belV (lenR (done.map (rn ys))) a_ = false → Rz E H (C4 K 3) a_)
def spLength (K : PySem.W.Frag) (C : Addr) : Sp := fun vs H Q E => ∃ v, vs = [v] ∧ ((NoT K H v ∧ Rz E H (C4 K 0) v) ∨ ∃ x m done, v = .ref x ∧ Tx C H x m done ∧ m ≤ 3 ∧ Dn m 800 done ∧ done.length ≤ 90 ∧
  ∀ (H' : Hp) (r : Addr), Same H H' → H' r = some (.tup (((List.range (m + 1)).map fun j => lin tt j done).map L2.V.int)) → Q (.ref r) H')
theorem col_snoc (fs : List (Addr × List Int)) (a : Addr) (l : List Int) (j : Nat) : col (fs ++ [(a, l)]) j = col fs j + l.getD j 0 := by
  unfold col
  rw [List.map_append, List.sum_append, List.map_cons, List.map_nil, List.sum_cons, List.sum_nil, Int.add_zero]
theorem fm_getD (p : Pc) (t : Int) (j : Nat) : ((fm p).map (· * t)).getD j 0 = fj p j * t := by
  rw [getD_scale]
  cases j <;> rfl
section
variable {P : Program} {w : World} {K : PySem.W.Frag} {mg : Str → Option Value} {base : Heap} {f : Addr} {fd : FuncData} {C : Addr}
theorem ok_tletter (F : FnP K "text_letter" sTLetter f fd) (T : TT K mg C) (Z : Cl4 P w K mg base) (o_tp : OkX P w K mg base "require_text_point" 4 ["text", "point"] (spReqTP K C)) (o_pieces : OkMt P w K mg base C "pieces" (spPiecesT C)) (o_runs : Ok P w K mg base "runs_at" 2 ["pieces", "point"] spRuns)
    (o_letR : Ok P w K mg base "letters_of_runs" 1 ["runs"] spLetR) (o_ltr : Ok P w K mg base "letter_of_runs" 1 ["runs", "at"] spLtr) (o_below : Ok P w K mg base "is_count_below" 3 ["bound", "value"] spBelow) : FnOk P w K mg base (L2.CX P w) 5 f fd ["text", "point", "at"] (spTLetter K C) := by
  have nd := scTLetter.nd
  refine F.ok scTLetter (fun vs H Q E h => ?_) (fun cdv A outer s H vs Q E hr h => ?_)
  · obtain ⟨u, v, a_, rfl, _⟩ := h
    rfl
  · obtain ⟨u, v, a_, rfl, h⟩ := h
    obtain ⟨fI, fdI, XT⟩ := Z.x 3 (by decide)
    have XT : XCls P w K mg base "InvalidNumber" "value" (C4 K 3) fI fdI := XT
    have r4 : Room 4 (A.deeper (envOfC "text_letter" (defScope sTLetter) s.heap.objs.size f cdv)) := hr
    have r3 := r4.mono (by decide : 3 ≤ 4)
    have r2 := r4.mono (by decide : 2 ≤ 4)
    have r1 := r4.mono (by decide : 1 ≤ 4)
    refine ⟨_, pss_cons (ps_expr (pe_callX (E := E) o_tp (takes_of rfl rfl rfl rfl) r4 (by rfl) (pa_cons (pv 0) (pa_cons (pv 1) pa_nil))))
      (pss_cons (ps_set (i := 3) nd rfl (Or.inl rfl) (pe_callO o_runs r2 (by rfl) (pa_cons (pe_piecesT o_pieces T (pv 0) r1) (pa_cons (pv 1) pa_nil))))
      (pss_cons (ps_if (pt_not (pt_val (pe_callO o_below r3 (by rfl) (pa_cons (pe_callO o_letR r1 (by rfl) (pa_cons (pv 3) pa_nil)) (pa_cons (pv 2) pa_nil))))) (pss_one (ps_raiseX (nm := "InvalidNumber") rfl XT r2 (takes_of rfl rfl rfl rfl) (by rfl) (pv 2))) pss_nil)
      (pss_one (ps_ret (pe_callO o_ltr r1 (by rfl) (pa_cons (pv 3) (pa_cons (pv 2) pa_nil))))))), ?_⟩
    rcases h with h | ⟨x, m, done, b, rfl, hx, hp, h⟩
    · exact ⟨_, rfl, _, rfl, u, v, rfl, .inl h⟩
    rcases h with h | ⟨rfl, bp, ys, g, kn, q, r⟩
    · exact ⟨_, rfl, _, rfl, .ref x, v, rfl, .inr ⟨x, m, done, b, rfl, hx, hp, .inl h⟩⟩
    refine ⟨_, rfl, _, rfl, .ref x, v, rfl, .inr ⟨x, m, done, true, rfl, hx, hp, .inr ⟨rfl, fun H1 s1 => ?_⟩⟩⟩
    have nn : ∀ y ∈ ys, 0 ≤ y := fun y hy => (g.s y hy).1
    have eL := lenR_V g.d.z nn
    obtain rfl := g.e
    refine ⟨_, rfl, x, m, done, rfl, hx.keep s1, fun H2 l s2 nl hl => ⟨_, rfl, m, l, bp, done, ys, rfl, g.m3, hl, g.d, by have := g.n; omega, s2 _ _ (s1 _ _ g.h), g.l, g.s, fun H3 rr xs s3 hr3 hR => ?_⟩⟩
    have lR : (done.map (rn ys)).length ≤ 100 := by
      have := g.n
      rw [List.length_map]
      omega
    have wR : ∀ r ∈ done.map (rn ys), (cs r.1).length ≤ 2000 ∧ 0 ≤ r.2 := fun r hr => by
      obtain ⟨p, hp, rfl⟩ := List.mem_map.mp hr
      exact ⟨(g.d.w p hp).2, tms_nn (g.d.z p hp) nn⟩
    refine ⟨_, rfl, rr, xs, _, rfl, hr3, hR, lR, fun r hr => (wR r hr).1, fun H4 s4 => ?_⟩
    have S := ((s1.trans s2).trans s3).trans s4
    refine ⟨_, rfl, _, a_, rfl, kn.keep S, _, rfl, ?_⟩
    cases e : belV (lenR (done.map (rn ys))) a_ with
    | false => exact iteT ⟨_, rfl, fun d nd => r e H4 d S nd⟩
    | true =>
      refine iteF ?_
      cases kn with
      | int z =>
        have e2 : (decide (0 ≤ z) && decide (z < lenR (done.map (rn ys)))) = true := e
        rw [Bool.and_eq_true, decide_eq_true_eq, decide_eq_true_eq] at e2
        obtain ⟨i, rfl⟩ := Int.eq_ofNat_of_zero_le e2.1
        have li : i < (NP.V ys done).length := by
          have := e2.2
          rw [eL] at this
          omega
        have gc : (NP.V ys done)[i]? = some (NP.V ys done)[i] := List.getElem?_eq_getElem li
        refine ⟨_, rfl, _, rfl, rr, xs, _, i, _, rfl, s4 _ _ hr3, hR.keep s4, lR, wR, ?_, q e H4 i _ S rfl gc⟩
        rw [letterR_eq, wr_rn]
        exact gc
      | non => cases e
      | bl b => cases e
      | str z => cases e
      | lst h => cases e
      | tup h => cases e
theorem ok_length (F : FnP K "length" sLength f fd) (T : TT K mg C) (o_text : OkX P w K mg base "require_text" 3 ["text"] (spReqText K C)) (o_many : OkMt P w K mg base C "many" (spManyT C)) (o_pieces : OkMt P w K mg base C "pieces" (spPiecesT C)) (o_times : Ok P w K mg base "form_times" 1 ["form", "times"] spTimes)
    (o_sum : Ok P w K mg base "sum_of_forms" 1 ["many", "forms"] spSum) (z_len : mg "len" = none) : FnOk P w K mg base (L2.CX P w) 4 f fd ["text"] (spLength K C) := by
  have nd := scLength.nd
  refine F.ok scLength (fun vs H Q E h => ?_) (fun cdv A outer s H vs Q E hr h => ?_)
  · obtain ⟨v, rfl, _⟩ := h
    rfl
  · obtain ⟨v, rfl, h⟩ := h
    have szl := sizeLine_eq
    have r3 : Room 3 (A.deeper (envOfC "length" (defScope sLength) s.heap.objs.size f cdv)) := hr
    have r1 := r3.mono (by decide : 1 ≤ 3)
    refine ⟨_, pss_cons (ps_expr (pe_callX (E := E) o_text (takes_of rfl rfl rfl rfl) r3 (by rfl) (pa_cons (pv 0) pa_nil)))
      (pss_one (ps_ret (pe_callO o_sum r1 (by rfl) (pa_cons (pe_manyT o_many T (pv 0) r1) (pa_cons
        (pe_lc (own := [("word", 1), ("form", 2)]) (g := gTup K 2 (gCons (gName 1) (gCons (gName 2) gNil))) (by rfl) nd (pi_list (pe_piecesT o_pieces T (pv 0) r1)) (blkOk_by (N := ["text", "word", "form"]) (sc := defScope sLength) (own := [("word", 1), ("form", 2)]) (by decide +kernel))
          (fun _ _ _ _ _ => pg_tup rfl (pgs_cons (pg_name (i := 1) nd rfl (Or.inl rfl)) (pgs_cons (pg_name (i := 2) nd rfl (Or.inl rfl)) pgs_nil))) (fun _ _ _ _ _ => pts_nil)
          (fun _ _ _ _ _ => pe_callO o_times r1 (by rfl) (pa_cons (pv 2) (pa_cons (pe_callB call_len_str (by rfl) z_len boot_len (pa_cons (pv 1) pa_nil)) pa_nil)))) pa_nil))))), ?_⟩
    rcases h with ⟨n, r⟩ | ⟨x, m, done, rfl, hx, hm, dn, l90, q⟩
    · exact ⟨_, rfl, v, rfl, .inr ⟨n, r⟩⟩
    refine ⟨_, rfl, .ref x, rfl, .inl ⟨x, m, done, rfl, hx, ?_⟩⟩
    refine ⟨_, rfl, x, m, done, rfl, hx, _, rfl, x, m, done, rfl, hx, fun H1 l s1 nl ⟨xs, hl, hP⟩ => ⟨l, rfl, ⟨_, SqL.of hl⟩, fun D nD => ?_⟩⟩
    have lx := hP.len
    refine lc_list (K := K) (a := l) (xs := xs) (fun k H' => Same H1 H' ∧ ∃ fs : List (Addr × List Int), H' D = some (.lst (fs.map fun p => L2.V.ref p.1)) ∧ fs.length = k ∧ (∀ p ∈ fs, H' p.1 = some (.tup (p.2.map L2.V.int)) ∧ p.2.length = m + 1) ∧ ∀ j, col fs j = lin tt j (done.take k)) ⟨same_new nD, [], upd_same, rfl, fun p hp => (by cases hp), fun j => rfl⟩ (fun k H' _ p => SqL.of (p.1 _ _ hl)) ?_ ?_
    · rintro k y H' hk ⟨sm, fs, hD, lf, hf, hc⟩
      obtain ⟨p, ep, ⟨t, f1, rfl, ht, hf1⟩⟩ := hP.get hk
      have pz := dn.z p (List.mem_of_getElem? ep)
      have l4 := (dn.w p (List.mem_of_getElem? ep)).2
      have lz := cs_len p.1
      have li : k < 100 := by
        have := (List.getElem?_eq_some_iff.mp ep).1
        omega
      refine ⟨t, _, rfl, SqT.of (sm _ _ ht), rfl, _, _, rfl, _, _, rfl, rfl, rfl, ?_⟩
      refine ⟨_, rfl, _, rfl, p.1, rfl, by omega, f1, (p.1.length : Int), fm p, rfl, sm _ _ hf1, by show p.2.2.length + 1 ≤ 100; rw [pz.l]; omega, ?_, ⟨by omega, Int.lt_of_le_of_lt (b := 4000) (by omega) (by decide +kernel)⟩, fun H2 g s2 ng hg => ?_⟩
      · intro z hz
        rcases List.mem_cons.mp hz with rfl | hz
        · exact Sz.le pz.c (by decide)
        · exact Sz.le (pz.x z hz) (by decide)
      have hD2 := s2 _ _ hD
      refine ⟨_, hD2, ?_, fun b o e => ?_, fs ++ [(g, (fm p).map (· * (p.1.length : Int)))], ?_, by rw [List.length_append, lf]; rfl, fun z hz => ?_, fun j => ?_⟩
      · rw [List.length_map, lf]
        exact small1000 (by omega)
      · rw [upd_ne (ne_of_none e nD)]
        exact s2 _ _ (sm _ _ e)
      · rw [upd_same, List.map_append]
        rfl
      · rcases List.mem_append.mp hz with hz | hz
        · obtain ⟨h1, h2⟩ := hf z hz
          refine ⟨?_, h2⟩
          have h3 := s2 _ _ h1
          rw [upd_ne (ne_of h3 hD2 (by intro z; cases z))]
          exact h3
        · rcases List.mem_singleton.mp hz with rfl
          refine ⟨?_, by show ((fm p).map _).length = m + 1; rw [List.length_map]; show p.2.2.length + 1 = m + 1; rw [pz.l]⟩
          rw [upd_ne (ne_of hg hD2 (by intro z; cases z))]
          exact hg
      · rw [col_snoc, hc, List.take_add_one, ep]
        show lin tt j (done.take k) + ((fm p).map (· * (p.1.length : Int))).getD j 0 = lin tt j (done.take k ++ [p])
        rw [lin_app, lin_one, fm_getD, cn_tt, lz, Int.mul_comm]
    · rintro H' ⟨sm, fs, hD, lf, hf, hc⟩
      rw [lx, List.take_length] at hc
      refine ⟨m, D, fs, rfl, hD, by omega, by omega, hf, fun H2 r s2 nr hr2 => q H2 r ((s1.trans sm).trans s2) ?_⟩
      have e : (List.range (m + 1)).map (col fs) = (List.range (m + 1)).map fun j => lin tt j done := congrArg (fun f => (List.range (m + 1)).map f) (funext hc)
      rw [e] at hr2
      exact hr2
end
end K5
set_option Elab.async false
set_option linter.all false
set_option maxRecDepth 100000
set_option maxHeartbeats 4000000
namespace K5
open PySem PySem.Spec PyProof.Rows L2 XV NP
/-! ### what is a letter, of any value -/
abbrev sIsLetter : Stmt := top 19
abbrev sWritten : Stmt := top 51
abbrev sLettersT : Stmt := top 54
theorem scIsLetter : FnScope ["value"] ["value"] (defScope sIsLetter) := ⟨rfl, rfl, rfl, by decide +kernel, rfl, by decide +kernel, by decide +kernel⟩
abbrev nWritten : List Str := ["text", "point", "runs", "letters_there", "word", "times"]
theorem scWritten : FnScope nWritten ["text", "point"] (defScope sWritten) := ⟨rfl, rfl, rfl, by decide +kernel, rfl, by decide +kernel, by decide +kernel⟩
theorem scLettersT : FnScope ["text", "letter", "word", "form"] ["text", "letter"] (defScope sLettersT) := ⟨rfl, rfl, rfl, by decide +kernel, rfl, by decide +kernel, by decide +kernel⟩
def lowS (z : Str) : Bool := decide (z = "") || (Txt.isascii z && (Txt.isalpha z && Txt.islower z))
def lowV : L2.V → Bool
  | .str z => lowS z
  | _ => false
def letV : L2.V → Bool
  | .str z => lowS z && decide (z.length = 1)
  | _ => false
def spLow : Sp := fun vs H Q _ => ∃ v, vs = [v] ∧ Kn H v ∧ Q (.bl (lowV v)) H
def spLet : Sp := fun vs H Q _ => ∃ v, vs = [v] ∧ Kn H v ∧ (∀ z, v = .str z → z.length ≤ 1000) ∧ Q (.bl (letV v)) H
theorem let_one {v : L2.V} (h : letV v = true) : ∃ c : Nat, v = .str ⟨#[c]⟩ := by
  cases v with
  | str z =>
    have e : (lowS z && decide (z.length = 1)) = true := h
    rw [Bool.and_eq_true, decide_eq_true_eq] at e
    have l : (cs z).length = 1 := by rw [← cs_len]; exact e.2
    obtain ⟨c, hc⟩ := List.length_eq_one_iff.mp l
    exact ⟨c, by rw [cs_ext (x := z) (y := ⟨#[c]⟩) hc]⟩
  | _ => cases h
theorem count_one (z : Str) (c : Nat) : Txt.count z ⟨#[c]⟩ = cn (fun x => decide (x = c)) z := by
  have e : ∀ l : List Nat, cnt c l = ((l.countP fun x => decide (x = c) : Nat) : Int) := fun l => by
    induction l with
    | nil => rfl
    | cons n r ih =>
      rw [cnt_cons, ih, List.countP_cons]
      by_cases h : n = c
      · rw [if_pos h, if_pos (decide_eq_true h)]
        omega
      · rw [if_neg h, if_neg (by simpa using h)]
        omega
  exact (count_is z c).trans (e _)
theorem join0 (ys : List Str) : cs (Txt.join "" ys) = ys.flatMap cs := by
  have e : ∀ L : List (List Nat), TL.joinL [] L = L.flatten := fun L => by
    induction L with
    | nil => rfl
    | cons p L ih =>
      cases L with
      | nil => simp [TL.joinL]
      | cons q r =>
        show p ++ ([] ++ TL.joinL [] (q :: r)) = _
        rw [ih]
        simp
  have h := TL.tl_join "" ys
  have t : TL.tl ("" : Str) = [] := by decide +kernel
  rw [TL.join_eq]
  show TL.tl (Str.join "" ys) = _
  rw [h, t, e, ← List.flatMap_def]
theorem sum_len (ys : List Str) : (ys.map (·.length)).sum = (ys.flatMap cs).length := by
  induction ys with
  | nil => rfl
  | cons y ys ih => rw [List.map_cons, List.sum_cons, ih, List.flatMap_cons, List.length_append, cs_len]
theorem lettersR_mem {α : Type} {rs : List (List α × Nat)} {r : List α × Nat} (h : r ∈ rs) : r.1.length * r.2 ≤ lettersR rs := by
  induction rs with
  | nil => cases h
  | cons q rs ih =>
    have e : lettersR (q :: rs) = q.1.length * q.2 + lettersR rs := by
      unfold lettersR
      rw [List.map_cons, List.sum_cons]
    rw [e]
    rcases List.mem_cons.mp h with rfl | h
    · omega
    · have := ih h
      omega
def spWritten (K : PySem.W.Frag) (C : Addr) : Sp := fun vs H Q E => ∃ u v, vs = [u, v] ∧ TP K C H u v E fun x m done => ∃ bp ys, Gd H v bp ys m done ∧
  (lenR (done.map (rn ys)) ≤ 20000 → ∀ (H' : Hp) (z : Str), Same H H' → cs z = NP.V ys done → Q (.str z) H') ∧ (20000 < lenR (done.map (rn ys)) → Rz E H (C4 K 4) (.int (lenR (done.map (rn ys)))))
def spLettersT (K : PySem.W.Frag) (C : Addr) : Sp := fun vs H Q E => ∃ v u, vs = [v, u] ∧ ((NoT K H v ∧ Rz E H (C4 K 0) v) ∨ ∃ x m done, v = .ref x ∧ Tx C H x m done ∧ Kn H u ∧ (∀ z, u = .str z → z.length ≤ 1000) ∧
  ((letV u = false ∧ Rz E H (C4 K 2) u) ∨ ∃ c : Nat, letV u = true ∧ u = .str ⟨#[c]⟩ ∧ m ≤ 3 ∧ Dn m 800 done ∧ done.length ≤ 90 ∧
    ∀ (H' : Hp) (r : Addr), Same H H' → H' r = some (.tup (((List.range (m + 1)).map fun j => lin (fun x => decide (x = c)) j done).map L2.V.int)) → Q (.ref r) H'))
section
variable {P : Program} {w : World} {K : PySem.W.Frag} {mg : Str → Option Value} {base : Heap} {f : Addr} {fd : FuncData} {C : Addr}
theorem ok_low (F : FnP K "is_string_of_letters" sLetters f fd) (z_isinstance : mg "isinstance" = none) (z_str : mg "str" = none) : FnOk P w K mg base CX0 1 f fd ["value"] spLow := by
  refine F.ok scLetters (fun vs H Q E h => ?_) (fun cdv A outer s H vs Q E hr h => ?_)
  · obtain ⟨v, rfl, _⟩ := h
    rfl
  · obtain ⟨v, rfl, kv, q⟩ := h
    refine ⟨_, PSs.nox (pss_cons (ps_if (pt_not (pt_val (pe_callB call_isi (by rfl) z_isinstance (by decide +kernel) (pa_cons (pv 0) (pa_cons (pe_bltn (v := .ty "str") (by rfl) z_str (by decide +kernel) rfl) pa_nil))))) (pss_one (ps_ret pe_bl)) pss_nil)
 (pss_one (ps_ret (pe_or (pe_cmpR op_eq (pv 0) pe_str (nomark _)) (pe_one (pe_and (pe_m0 PySem.F.slot_str_isascii PySem.F.type_str_isascii mt_isascii (pv 0)) (pe_and (pe_m0 PySem.F.slot_str_isalpha PySem.F.type_str_isalpha mt_isalpha (pv 0)) (pe_one (pe_m0 PySem.F.slot_str_islower PySem.F.type_str_islower mt_islower (pv 0)))))))))), ?_⟩
    cases kv with
    | int i => exact ⟨_, rfl, _, _, _, _, false, rfl, .ty "str", .base (.int i), kit_ty (by decide +kernel), false, rfl, iteT q⟩
    | bl b => exact ⟨_, rfl, _, _, _, _, false, rfl, .ty "str", .base (.bl b), kit_ty (by decide +kernel), false, rfl, iteT q⟩
    | non => exact ⟨_, rfl, _, _, _, _, false, rfl, .ty "str", .base .non, kit_ty (by decide +kernel), false, rfl, iteT q⟩
    | lst h => exact ⟨_, rfl, _, _, _, _, false, rfl, .ty "str", .base (.lst h), kit_ty (by decide +kernel), false, rfl, iteT q⟩
    | tup h => exact ⟨_, rfl, _, _, _, _, false, rfl, .ty "str", .base (.tup h), kit_ty (by decide +kernel), false, rfl, iteT q⟩
    | str z =>
      refine ⟨_, rfl, _, _, _, _, true, rfl, .ty "str", .base (.str z), kit_ty (by decide +kernel), true, rfl, iteF ⟨_, rfl, rfl, decide (V.str z = V.str ""), rfl, ?_⟩⟩
      by_cases e : z = ""
      · subst e
        rw [decide_eq_true rfl]
        exact iteT q
      · have ne : ¬ V.str z = V.str "" := fun x => e (V.str.inj x)
        have el : lowV (.str z) = (Txt.isascii z && (Txt.isalpha z && Txt.islower z)) := by
          show (decide (z = "") || _) = _
          rw [decide_eq_false e, Bool.false_or]
        rw [el] at q
        rw [decide_eq_false ne]
        refine iteF ⟨_, rfl, ⟨_, rfl⟩, _, rfl, rfl, trivial, Txt.isascii z, rfl, ?_⟩
        cases ea : Txt.isascii z with
        | false =>
          rw [ea] at q
          exact iteF q
        | true =>
          rw [ea, Bool.true_and] at q
          refine iteT ⟨_, rfl, ⟨_, rfl⟩, _, rfl, rfl, trivial, Txt.isalpha z, rfl, ?_⟩
          cases eb : Txt.isalpha z with
          | false =>
            rw [eb] at q
            exact iteF q
          | true =>
            rw [eb, Bool.true_and] at q
            exact iteT ⟨_, rfl, ⟨_, rfl⟩, _, rfl, rfl, trivial, q⟩
theorem ok_isLetter (F : FnP K "is_letter" sIsLetter f fd) (o_low : Ok P w K mg base "is_string_of_letters" 1 ["value"] spLow) (z_len : mg "len" = none) : FnOk P w K mg base CX0 2 f fd ["value"] spLet := by
  refine F.ok scIsLetter (fun vs H Q E h => ?_) (fun cdv A outer s H vs Q E hr h => ?_)
  · obtain ⟨v, rfl, _⟩ := h
    rfl
  · obtain ⟨v, rfl, kv, hl, q⟩ := h
    refine ⟨_, PSs.nox (pss_one (ps_ret (pe_and (pe_callO o_low (hr.mono (by decide)) (by rfl) (pa_cons (pv 0) pa_nil)) (pe_one (pe_cmpR op_eq (pe_callB call_len_str (by rfl) z_len boot_len (pa_cons (pv 0) pa_nil)) pe_int (nomark _)))))), ?_⟩
    have k2 := kv
    cases kv with
    | int i => exact ⟨_, rfl, _, rfl, k2, false, rfl, iteF q⟩
    | bl b => exact ⟨_, rfl, _, rfl, k2, false, rfl, iteF q⟩
    | non => exact ⟨_, rfl, _, rfl, k2, false, rfl, iteF q⟩
    | lst h => exact ⟨_, rfl, _, rfl, k2, false, rfl, iteF q⟩
    | tup h => exact ⟨_, rfl, _, rfl, k2, false, rfl, iteF q⟩
    | str z =>
      refine ⟨_, rfl, _, rfl, k2, lowS z, rfl, ?_⟩
      have q : Q (.bl (lowS z && decide (z.length = 1))) H := q
      cases e : lowS z with
      | false =>
        rw [e] at q
        exact iteF q
      | true =>
        rw [e, Bool.true_and] at q
        have szl := sizeLine_eq
        have lz := hl z rfl
        refine iteT ⟨_, rfl, z, rfl, by omega, rfl, ?_⟩
        have en := nat_dec z.length 1
        show Q (.bl (decide (V.int (z.length : Int) = V.int ((1 : Nat) : Int)))) H
        rw [en]
        exact q
theorem ok_written (F : FnP K "written" sWritten f fd) (T : TT K mg C) (Z : Cl4 P w K mg base) (o_tp : OkX P w K mg base "require_text_point" 4 ["text", "point"] (spReqTP K C)) (o_pieces : OkMt P w K mg base C "pieces" (spPiecesT C)) (o_runs : Ok P w K mg base "runs_at" 2 ["pieces", "point"] spRuns)
    (o_letR : Ok P w K mg base "letters_of_runs" 1 ["runs"] spLetR) {tM : Tok} (h_LW : mg "LONGEST_WORD" = some (.int 20000 tM)) : FnOk P w K mg base (L2.CX P w) 5 f fd ["text", "point"] (spWritten K C) := by
  have nd := scWritten.nd
  refine F.ok scWritten (fun vs H Q E h => ?_) (fun cdv A outer s H vs Q E hr h => ?_)
  · obtain ⟨u, v, rfl, _⟩ := h
    rfl
  · obtain ⟨u, v, rfl, h⟩ := h
    obtain ⟨fI, fdI, XT⟩ := Z.x 4 (by decide)
    have XT : XCls P w K mg base "TooLong" "value" (C4 K 4) fI fdI := XT
    have r4 : Room 4 (A.deeper (envOfC "written" (defScope sWritten) s.heap.objs.size f cdv)) := hr
    have r2 := r4.mono (by decide : 2 ≤ 4)
    have r1 := r4.mono (by decide : 1 ≤ 4)
    have szl := sizeLine_eq
    refine ⟨_, pss_cons (ps_expr (pe_callX (E := E) o_tp (takes_of rfl rfl rfl rfl) r4 (by rfl) (pa_cons (pv 0) (pa_cons (pv 1) pa_nil))))
      (pss_cons (ps_set (i := 2) nd rfl (Or.inl rfl) (pe_callO o_runs r2 (by rfl) (pa_cons (pe_piecesT o_pieces T (pv 0) r1) (pa_cons (pv 1) pa_nil))))
      (pss_cons (ps_set (i := 3) nd rfl (Or.inl rfl) (pe_callO o_letR r1 (by rfl) (pa_cons (pv 2) pa_nil)))
      (pss_cons (ps_if (pt_cmpR op_gt (pv 3) (pe_glob (v := .int 20000) (by rfl) h_LW ⟨_, rfl⟩) (nomark _)) (pss_one (ps_raiseX (nm := "TooLong") rfl XT r2 (takes_of rfl rfl rfl rfl) (by rfl) (pv 3))) pss_nil)
      (pss_one (ps_ret (pe_join pe_str (pe_lc (own := [("word", 4), ("times", 5)]) (g := gTup K 2 (gCons (gName 4) (gCons (gName 5) gNil))) (by rfl) nd (pi_list (pv 2)) (blkOk_by (N := nWritten) (sc := defScope sWritten) (own := [("word", 4), ("times", 5)]) (by decide +kernel))
          (fun _ _ _ _ _ => pg_tup rfl (pgs_cons (pg_name (i := 4) nd rfl (Or.inl rfl)) (pgs_cons (pg_name (i := 5) nd rfl (Or.inl rfl)) pgs_nil))) (fun _ _ _ _ _ => pts_nil)
          (fun _ _ _ _ _ => pe_op op_mulS (pv 4) (pv 5))))))))), ?_⟩
    rcases h with h | ⟨x, m, done, b, rfl, hx, hp, h⟩
    · exact ⟨_, rfl, _, rfl, u, v, rfl, .inl h⟩
    rcases h with h | ⟨rfl, bp, ys, g, q, r⟩
    · exact ⟨_, rfl, _, rfl, .ref x, v, rfl, .inr ⟨x, m, done, b, rfl, hx, hp, .inl h⟩⟩
    refine ⟨_, rfl, _, rfl, .ref x, v, rfl, .inr ⟨x, m, done, true, rfl, hx, hp, .inr ⟨rfl, fun H1 s1 => ?_⟩⟩⟩
    have nn : ∀ y ∈ ys, 0 ≤ y := fun y hy => (g.s y hy).1
    have eL := lenR_V g.d.z nn
    obtain rfl := g.e
    refine ⟨_, rfl, x, m, done, rfl, hx.keep s1, fun H2 l s2 nl hl => ⟨_, rfl, m, l, bp, done, ys, rfl, g.m3, hl, g.d, by have := g.n; omega, s2 _ _ (s1 _ _ g.h), g.l, g.s, fun H3 rr xs s3 hr3 hR => ?_⟩⟩
    have lR : (done.map (rn ys)).length ≤ 100 := by
      have := g.n
      rw [List.length_map]
      omega
    have wR : ∀ r ∈ done.map (rn ys), (cs r.1).length ≤ 2000 ∧ 0 ≤ r.2 ∧ cs r.1 ≠ [] := fun r hr => by
      obtain ⟨p, hp, rfl⟩ := List.mem_map.mp hr
      exact ⟨(g.d.w p hp).2, tms_nn (g.d.z p hp) nn, g.d.e p hp⟩
    refine ⟨_, rfl, rr, xs, _, rfl, hr3, hR, lR, fun r hr => (wR r hr).1, fun H4 s4 => ?_⟩
    have S := ((s1.trans s2).trans s3).trans s4
    refine ⟨_, rfl, _, _, rfl, rfl, _, rfl, ite2 (fun c => ?_) (fun c => ?_)⟩
    · exact ⟨_, rfl, fun d nd => r (by have := of_decide_eq_true c; omega) H4 d S nd⟩
    · have le : lenR (done.map (rn ys)) ≤ 20000 := by
        have : ¬ (lenR (done.map (rn ys)) > 20000) := fun z => c (decide_eq_true z)
        omega
      have hr4 := s4 _ _ hr3
      have hR4 := hR.keep s4
      have lx := hR4.len
      have eR : ((lettersR (toR (done.map (rn ys))) : Nat) : Int) ≤ 20000 := by
        rw [← lenR_eq fun r hr => (wR r hr).2.1]
        exact le
      refine ⟨⟨_, rfl⟩, _, rfl, rr, rfl, ⟨_, SqL.of hr4⟩, fun D nD => lc_list (K := K) (a := rr) (xs := xs) (fun k H' => Same H4 H' ∧ ∃ zs : List Str, H' D = some (.lst (zs.map V.str)) ∧ zs.map cs = ((toR (done.map (rn ys))).take k).map fun r => pw r.1 r.2) ⟨same_new nD, [], upd_same, rfl⟩ (fun k H' _ p => SqL.of (p.1 _ _ hr4)) ?_ ?_⟩
      · rintro k y H' hk ⟨sm, zs, hD, hz⟩
        obtain ⟨r, er, ⟨t, rfl, ht⟩⟩ := hR4.get hk
        obtain ⟨w1, w2, w3⟩ := wR r (List.mem_of_getElem? er)
        have li : k < 100 := by
          have := (List.getElem?_eq_some_iff.mp er).1
          omega
        have et : (toR (done.map (rn ys)))[k]? = some (cs r.1, r.2.toNat) := by
          unfold toR
          rw [List.getElem?_map, er]
          rfl
        have lz : (cs r.1).length * r.2.toNat ≤ 20000 := by
          have := lettersR_mem (List.mem_of_getElem? et)
          have : (cs r.1).length * r.2.toNat ≤ lettersR (toR (done.map (rn ys))) := this
          omega
        have lzs : zs.length ≤ 100 := by
          have := congrArg List.length hz
          rw [List.length_map, List.length_map, List.length_take] at this
          omega
        refine ⟨t, _, rfl, SqT.of (sm _ _ ht), rfl, _, _, rfl, _, _, rfl, rfl, rfl, ?_⟩
        refine ⟨_, rfl, _, rfl, _, _, rfl, rfl, mulOk w2 w3 (by omega), _, hD, ?_, fun b o e => ?_, zs ++ [Txt.mul r.1 r.2], ?_, ?_⟩
        · rw [List.length_map]
          exact small1000 (by omega)
        · rw [upd_ne (ne_of_none (H := H4) e nD)]
          exact sm _ _ e
        · rw [upd_same, List.map_append]
          rfl
        · rw [List.map_append, hz, List.take_add_one, et, List.map_append]
          show _ ++ [cs (Txt.mul r.1 r.2)] = _ ++ [pw (cs r.1) r.2.toNat]
          rw [cs_mul _ w2]
      · rintro H' ⟨sm, zs, hD, hz⟩
        have lt : (toR (done.map (rn ys))).take xs.length = toR (done.map (rn ys)) := List.take_of_length_le (by
          unfold toR
          rw [List.length_map, lx]
          exact Nat.le_refl _)
        rw [lt] at hz
        have ez : zs.flatMap cs = NP.V ys done := by
          rw [List.flatMap_def, hz, ← List.flatMap_def, ← wr_rn]
          rfl
        refine ⟨_, D, zs, rfl, rfl, .inl (SqL.of hD), ?_, q le H' _ (S.trans sm) ((join0 zs).trans ez)⟩
        rw [sum_len, ez, show ("" : Str).length = 0 by decide +kernel, Nat.mul_zero]
        omega
theorem ok_lettersT (F : FnP K "letters" sLettersT f fd) (T : TT K mg C) (Z : Cl4 P w K mg base) (o_text : OkX P w K mg base "require_text" 3 ["text"] (spReqText K C)) (o_letter : Ok P w K mg base "is_letter" 2 ["value"] spLet) (o_many : OkMt P w K mg base C "many" (spManyT C)) (o_pieces : OkMt P w K mg base C "pieces" (spPiecesT C)) (o_times : Ok P w K mg base "form_times" 1 ["form", "times"] spTimes)
    (o_sum : Ok P w K mg base "sum_of_forms" 1 ["many", "forms"] spSum) : FnOk P w K mg base (L2.CX P w) 4 f fd ["text", "letter"] (spLettersT K C) := by
  have nd := scLettersT.nd
  refine F.ok scLettersT (fun vs H Q E h => ?_) (fun cdv A outer s H vs Q E hr h => ?_)
  · obtain ⟨v, u, rfl, _⟩ := h
    rfl
  · obtain ⟨v, u, rfl, h⟩ := h
    obtain ⟨fI, fdI, XT⟩ := Z.x 2 (by decide)
    have XT : XCls P w K mg base "InvalidWord" "value" (C4 K 2) fI fdI := XT
    have szl := sizeLine_eq
    have r3 : Room 3 (A.deeper (envOfC "letters" (defScope sLettersT) s.heap.objs.size f cdv)) := hr
    have r2 := r3.mono (by decide : 2 ≤ 3)
    have r1 := r3.mono (by decide : 1 ≤ 3)
    refine ⟨_, pss_cons (ps_expr (pe_callX (E := E) o_text (takes_of rfl rfl rfl rfl) r3 (by rfl) (pa_cons (pv 0) pa_nil)))
      (pss_cons (ps_if (pt_not (pt_val (pe_callO o_letter r2 (by rfl) (pa_cons (pv 1) pa_nil)))) (pss_one (ps_raiseX (nm := "InvalidWord") rfl XT r2 (takes_of rfl rfl rfl rfl) (by rfl) (pv 1))) pss_nil)
      (pss_one (ps_ret (pe_callO o_sum r1 (by rfl) (pa_cons (pe_manyT o_many T (pv 0) r1) (pa_cons
        (pe_lc (own := [("word", 2), ("form", 3)]) (g := gTup K 2 (gCons (gName 2) (gCons (gName 3) gNil))) (by rfl) nd (pi_list (pe_piecesT o_pieces T (pv 0) r1)) (blkOk_by (N := ["text", "letter", "word", "form"]) (sc := defScope sLettersT) (own := [("word", 2), ("form", 3)]) (by decide +kernel))
          (fun _ _ _ _ _ => pg_tup rfl (pgs_cons (pg_name (i := 2) nd rfl (Or.inl rfl)) (pgs_cons (pg_name (i := 3) nd rfl (Or.inl rfl)) pgs_nil))) (fun _ _ _ _ _ => pts_nil)
          (fun _ _ _ _ _ => pe_callO o_times r1 (by rfl) (pa_cons (pv 3) (pa_cons (pe_m1 PySem.F.slot_str_count PySem.F.type_str_count mt_count (pv 2) (pv 1)) pa_nil)))) pa_nil)))))), ?_⟩
    rcases h with ⟨n, r⟩ | ⟨x, m, done, rfl, hx, kn, hl, h⟩
    · exact ⟨_, rfl, v, rfl, .inr ⟨n, r⟩⟩
    refine ⟨_, rfl, .ref x, rfl, .inl ⟨x, m, done, rfl, hx, ?_⟩⟩
    rcases h with ⟨e, r⟩ | ⟨c, e, rfl, hm, dn, l90, q⟩
    · exact ⟨_, rfl, u, rfl, kn, hl, false, congrArg V.bl e, iteT ⟨_, rfl, fun d nd => r H d (Same.refl _) nd⟩⟩
    refine ⟨_, rfl, _, rfl, kn, hl, true, congrArg V.bl e, iteF ?_⟩
    refine ⟨_, rfl, x, m, done, rfl, hx, _, rfl, x, m, done, rfl, hx, fun H1 l s1 nl ⟨xs, hl, hP⟩ => ⟨l, rfl, ⟨_, SqL.of hl⟩, fun D nD => ?_⟩⟩
    have lx := hP.len
    refine lc_list (K := K) (a := l) (xs := xs) (fun k H' => Same H1 H' ∧ ∃ fs : List (Addr × List Int), H' D = some (.lst (fs.map fun p => L2.V.ref p.1)) ∧ fs.length = k ∧ (∀ p ∈ fs, H' p.1 = some (.tup (p.2.map L2.V.int)) ∧ p.2.length = m + 1) ∧ ∀ j, col fs j = lin (fun x => decide (x = c)) j (done.take k)) ⟨same_new nD, [], upd_same, rfl, fun p hp => (by cases hp), fun j => rfl⟩ (fun k H' _ p => SqL.of (p.1 _ _ hl)) ?_ ?_
    · rintro k y H' hk ⟨sm, fs, hD, lf, hf, hc⟩
      obtain ⟨p, ep, ⟨t, f1, rfl, ht, hf1⟩⟩ := hP.get hk
      have pz := dn.z p (List.mem_of_getElem? ep)
      have l4 := (dn.w p (List.mem_of_getElem? ep)).2
      have lcn : 0 ≤ Txt.count p.1 ⟨#[c]⟩ ∧ Txt.count p.1 ⟨#[c]⟩ ≤ 2000 := by
        rw [count_one]
        unfold cn
        have := List.countP_le_length (p := fun x => decide (x = c)) (l := cs p.1)
        omega
      have li : k < 100 := by
        have := (List.getElem?_eq_some_iff.mp ep).1
        omega
      refine ⟨t, _, rfl, SqT.of (sm _ _ ht), rfl, _, _, rfl, _, _, rfl, rfl, rfl, ?_⟩
      refine ⟨_, rfl, _, rfl, ⟨_, rfl⟩, _, rfl, p.1, _, rfl, rfl, f1, Txt.count p.1 ⟨#[c]⟩, fm p, rfl, sm _ _ hf1, by show p.2.2.length + 1 ≤ 100; rw [pz.l]; omega, ?_, ⟨lcn.1, Int.lt_of_le_of_lt (b := 2000) lcn.2 (by decide +kernel)⟩, fun H2 g s2 ng hg => ?_⟩
      · intro z hz
        rcases List.mem_cons.mp hz with rfl | hz
        · exact Sz.le pz.c (by decide)
        · exact Sz.le (pz.x z hz) (by decide)
      have hD2 := s2 _ _ hD
      refine ⟨_, hD2, ?_, fun b o e => ?_, fs ++ [(g, (fm p).map (· * Txt.count p.1 ⟨#[c]⟩))], ?_, by rw [List.length_append, lf]; rfl, fun z hz => ?_, fun j => ?_⟩
      · rw [List.length_map, lf]
        exact small1000 (by omega)
      · rw [upd_ne (ne_of_none e nD)]
        exact s2 _ _ (sm _ _ e)
      · rw [upd_same, List.map_append]
        rfl
      · rcases List.mem_append.mp hz with hz | hz
        · obtain ⟨h1, h2⟩ := hf z hz
          refine ⟨?_, h2⟩
          have h3 := s2 _ _ h1
          rw [upd_ne (ne_of h3 hD2 (by intro z; cases z))]
          exact h3
        · rcases List.mem_singleton.mp hz with rfl
          refine ⟨?_, by show ((fm p).map _).length = m + 1; rw [List.length_map]; show p.2.2.length + 1 = m + 1; rw [pz.l]⟩
          rw [upd_ne (ne_of hg hD2 (by intro z; cases z))]
          exact hg
      · rw [col_snoc, hc, List.take_add_one, ep]
        show lin _ j (done.take k) + ((fm p).map (· * Txt.count p.1 ⟨#[c]⟩)).getD j 0 = lin _ j (done.take k ++ [p])
        rw [lin_app, lin_one, fm_getD, count_one, Int.mul_comm]
    · rintro H' ⟨sm, fs, hD, lf, hf, hc⟩
      rw [lx, List.take_length] at hc
      refine ⟨m, D, fs, rfl, hD, by omega, by omega, hf, fun H2 r s2 nr hr2 => q H2 r ((s1.trans sm).trans s2) ?_⟩
      have e : (List.range (m + 1)).map (col fs) = (List.range (m + 1)).map fun j => lin (fun x => decide (x = c)) j done := congrArg (fun f => (List.range (m + 1)).map f) (funext hc)
      rw [e] at hr2
      exact hr2
end
end K5
set_option Elab.async false
set_option linter.all false
set_option maxRecDepth 100000
set_option maxHeartbeats 4000000
/-! size -/
namespace K5
open PySem PySem.Spec PyProof.Rows L2 XV NP
abbrev sSize : Stmt := top 48
theorem scSize : FnScope ["text", "word", "_"] ["text"] (defScope sSize) := ⟨rfl, rfl, rfl, by decide +kernel, rfl, by decide +kernel, by decide +kernel⟩
def sizeP (ps : List Pc) : Int := (ps.map fun p => ((cs p.1).length : Int)).sum
def spSize (K : PySem.W.Frag) (C : Addr) : Sp := fun vs H Q E => ∃ v, vs = [v] ∧ ((NoT K H v ∧ Rz E H (C4 K 0) v) ∨ ∃ x m done, v = .ref x ∧ Tx C H x m done ∧ Dn m 800 done ∧ done.length ≤ 90 ∧
  ∀ H' : Hp, Same H H' → Q (.int (sizeP done)) H')
section
variable {P : Program} {w : World} {K : PySem.W.Frag} {mg : Str → Option Value} {base : Heap} {f : Addr} {fd : FuncData} {C : Addr}
theorem ok_size (F : FnP K "size" sSize f fd) (T : TT K mg C) (o_text : OkX P w K mg base "require_text" 3 ["text"] (spReqText K C)) (o_pieces : OkMt P w K mg base C "pieces" (spPiecesT C)) (z_sum : mg "sum" = none) (z_len : mg "len" = none) : FnOk P w K mg base (L2.CX P w) 4 f fd ["text"] (spSize K C) := by
  have nd := scSize.nd
  refine F.ok scSize (fun vs H Q E h => ?_) (fun cdv A outer s H vs Q E hr h => ?_)
  · obtain ⟨v, rfl, _⟩ := h
    rfl
  · obtain ⟨v, rfl, h⟩ := h
    have szl := sizeLine_eq
    have r3 : Room 3 (A.deeper (envOfC "size" (defScope sSize) s.heap.objs.size f cdv)) := hr
    have r1 := r3.mono (by decide : 1 ≤ 3)
    refine ⟨_, pss_cons (ps_expr (pe_callX (E := E) o_text (takes_of rfl rfl rfl rfl) r3 (by rfl) (pa_cons (pv 0) pa_nil)))
      (pss_one (ps_ret (pe_callB (cr_sum rfl) (by rfl) z_sum (by decide +kernel) (pa_cons
        (pe_lc (own := [("word", 1), ("_", 2)]) (g := gTup K 2 (gCons (gName 1) (gCons (gName 2) gNil))) (by rfl) nd (pi_list (pe_piecesT o_pieces T (pv 0) r1)) (blkOk_by (N := ["text", "word", "_"]) (sc := defScope sSize) (own := [("word", 1), ("_", 2)]) (by decide +kernel))
          (fun _ _ _ _ _ => pg_tup rfl (pgs_cons (pg_name (i := 1) nd rfl (Or.inl rfl)) (pgs_cons (pg_name (i := 2) nd rfl (Or.inl rfl)) pgs_nil))) (fun _ _ _ _ _ => pts_nil)
          (fun _ _ _ _ _ => pe_callB call_len_str (by rfl) z_len boot_len (pa_cons (pv 1) pa_nil))) pa_nil)))), ?_⟩
    rcases h with ⟨n, r⟩ | ⟨x, m, done, rfl, hx, dn, l90, q⟩
    · exact ⟨_, rfl, v, rfl, .inr ⟨n, r⟩⟩
    refine ⟨_, rfl, .ref x, rfl, .inl ⟨x, m, done, rfl, hx, ?_⟩⟩
    refine ⟨_, rfl, x, m, done, rfl, hx, fun H1 l s1 nl ⟨xs, hl, hP⟩ => ⟨l, rfl, ⟨_, SqL.of hl⟩, fun D nD => ?_⟩⟩
    have lx := hP.len
    refine lc_list (K := K) (a := l) (xs := xs) (fun k H' => Same H1 H' ∧ H' D = some (.lst (((done.take k).map fun p => ((cs p.1).length : Int)).map V.int))) ⟨same_new nD, upd_same⟩ (fun k H' _ p => SqL.of (p.1 _ _ hl)) ?_ ?_
    · rintro k y H' hk ⟨sm, hD⟩
      obtain ⟨p, ep, ⟨t, f1, rfl, ht, hf1⟩⟩ := hP.get hk
      have l4 := (dn.w p (List.mem_of_getElem? ep)).2
      have lz := cs_len p.1
      have li : k < 100 := by
        have := (List.getElem?_eq_some_iff.mp ep).1
        omega
      refine ⟨t, _, rfl, SqT.of (sm _ _ ht), rfl, _, _, rfl, _, _, rfl, rfl, rfl, ?_⟩
      refine ⟨_, rfl, p.1, rfl, by omega, _, hD, ?_, fun b o e => ?_, ?_⟩
      · rw [List.length_map, List.length_map]
        exact small1000 (Nat.le_trans (List.length_take_le _ _) (by omega))
      · rw [upd_ne (ne_of_none e nD)]
        exact sm _ _ e
      · rw [upd_same, List.take_add_one, ep, List.map_append, List.map_append, lz]
        rfl
    · rintro H' ⟨sm, hD⟩
      rw [lx, List.take_length] at hD
      exact ⟨D, _, rfl, SqL.of hD, q H' (s1.trans sm)⟩
end
end K5
set_option Elab.async false
set_option linter.all false
set_option maxRecDepth 100000
set_option maxHeartbeats 4000000
/-! powers -/
namespace K5
open PySem PySem.Spec PyProof.Rows L2 XV NP
abbrev sPowers : Stmt := top 61
theorem scPowers : FnScope ["text", "word", "form"] ["text"] (defScope sPowers) := ⟨rfl, rfl, rfl, by decide +kernel, rfl, by decide +kernel, by decide +kernel⟩
def powP (ps : List Pc) : List Pc := ps.filter fun p => !decide (∀ x ∈ p.2.2, x = 0)
theorem powP_snoc (ps : List Pc) (p : Pc) : powP (ps ++ [p]) = if (∀ x ∈ p.2.2, x = 0) then powP ps else powP ps ++ [p] := by
  unfold powP
  rw [List.filter_append]
  by_cases c : ∀ x ∈ p.2.2, x = 0
  · rw [if_pos c, List.filter_cons, decide_eq_true c]
    exact List.append_nil _
  · rw [if_neg c, List.filter_cons, decide_eq_false c]
    rfl
def spPowers (C : Addr) : Sp := fun vs H Q _ => ∃ x m done, vs = [.ref x] ∧ Tx C H x m done ∧ m ≤ 3 ∧ Dn m 800 done ∧ done.length ≤ 90 ∧
  ∀ (H' : Hp) (r : Addr), Same H H' → H r = none → PL H' r (powP done) → Q (.ref r) H'
section
variable {P : Program} {w : World} {K : PySem.W.Frag} {mg : Str → Option Value} {base : Heap} {f : Addr} {fd : FuncData} {C : Addr}
theorem ok_powers (F : FnP K "powers" sPowers f fd) (T : TT K mg C) (o_pieces : OkMt P w K mg base C "pieces" (spPiecesT C)) (o_plain : Ok P w K mg base "is_plain" 1 ["form"] spPlainQ) : FnOk P w K mg base (L2.CX P w) 2 f fd ["text"] (spPowers C) := by
  have nd := scPowers.nd
  refine F.ok scPowers (fun vs H Q E h => ?_) (fun cdv A outer s H vs Q E hr h => ?_)
  · obtain ⟨x, m, done, rfl, _⟩ := h
    rfl
  · obtain ⟨x, m, done, rfl, hx, hm, dn, l90, q⟩ := h
    have szl := sizeLine_eq
    have r1 : Room 1 (A.deeper (envOfC "powers" (defScope sPowers) s.heap.objs.size f cdv)) := hr
    refine ⟨_, PSs.nox (pss_one (ps_ret
        (pe_lc (own := [("word", 1), ("form", 2)]) (g := gTup K 2 (gCons (gName 1) (gCons (gName 2) gNil))) (by rfl) nd (pi_list (pe_piecesT o_pieces T (pv 0) r1)) (blkOk_by (N := ["text", "word", "form"]) (sc := defScope sPowers) (own := [("word", 1), ("form", 2)]) (by decide +kernel))
          (fun _ _ _ _ _ => pg_tup rfl (pgs_cons (pg_name (i := 1) nd rfl (Or.inl rfl)) (pgs_cons (pg_name (i := 2) nd rfl (Or.inl rfl)) pgs_nil)))
          (fun _ _ _ _ _ => pts_one (pt_not (pt_val (pe_callO o_plain r1 (by rfl) (pa_cons (pv 2) pa_nil)))))
          (fun _ _ _ _ _ => pe_tup (pa_cons (pv 1) (pa_cons (pv 2) pa_nil)))))), ?_⟩
    refine ⟨_, rfl, x, m, done, rfl, hx, fun H1 l s1 nl ⟨xs, hl, hP⟩ => ⟨l, rfl, ⟨_, SqL.of hl⟩, fun D nD => ?_⟩⟩
    have lx := hP.len
    refine lc_list (K := K) (a := l) (xs := xs) (fun k H' => Same H1 H' ∧ ∃ acc, H' D = some (.lst acc) ∧ acc.length ≤ k ∧ Pcs H' acc (powP (done.take k))) ⟨same_new nD, [], upd_same, Nat.le_refl _, .nil⟩ (fun k H' _ p => SqL.of (p.1 _ _ hl)) ?_ ?_
    · rintro k y H' hk ⟨sm, acc, hD, lacc, hA⟩
      obtain ⟨p, ep, ⟨t, f1, rfl, ht, hf1⟩⟩ := hP.get hk
      have pz := dn.z p (List.mem_of_getElem? ep)
      have li : k < 100 := by
        have := (List.getElem?_eq_some_iff.mp ep).1
        omega
      have etk : done.take (k + 1) = done.take k ++ [p] := by rw [List.take_add_one, ep]; rfl
      refine ⟨t, _, rfl, SqT.of (sm _ _ ht), rfl, _, _, rfl, _, _, rfl, rfl, rfl, ?_⟩
      refine ⟨_, rfl, f1, p.2.1, p.2.2, rfl, sm _ _ hf1, by rw [pz.l]; omega, fun H2 s2 => ⟨_, rfl, ?_⟩⟩
      rw [etk, powP_snoc]
      have hD2 := s2 _ _ hD
      by_cases c : ∀ x ∈ p.2.2, x = 0
      · rw [decide_eq_true c, if_pos c]
        exact iteF ⟨sm.trans s2, acc, hD2, by omega, hA.keep s2⟩
      · rw [decide_eq_false c, if_neg c]
        refine iteT ⟨_, rfl, _, rfl, (by show 2 ≤ sizeLine; decide), fun u nu => ?_⟩
        have su := same_new (o := .tup [.str p.1, .ref f1]) nu
        have hD3 := su _ _ hD2
        refine ⟨acc, hD3, small1000 (by omega), fun b o e => ?_, acc ++ [.ref u], upd_same, by rw [List.length_append, List.length_singleton]; omega, Pcs.updL hD3 (Pcs.snoc (m := p) ⟨u, f1, rfl, upd_same, su _ _ (s2 _ _ (sm _ _ hf1))⟩ ((hA.keep s2).keep su))⟩
        rw [upd_ne (ne_of_none (H := H1) e nD)]
        exact su _ _ (s2 _ _ (sm _ _ e))
    · rintro H' ⟨sm, acc, hD, lacc, hA⟩
      rw [lx, List.take_length] at hA
      refine q H' D (s1.trans sm) ?_ ⟨acc, hD, hA⟩
      cases e : H D with
      | none => rfl
      | some o =>
        rw [s1 _ _ e] at nD
        cases nD
end
end K5
set_option Elab.async false
set_option linter.all false
set_option maxRecDepth 100000
set_option maxHeartbeats 4000000
namespace K5
open PySem PySem.Spec PyProof.Rows L2 XV NP
/-! ### the law's own: a value, a letter, a word -/
abbrev sLWord : Stmt := top 70
abbrev sLValue : Stmt := top 73
theorem scLValue : FnScope ["_law_form", "_law_point", "_law_at"] ["_law_form", "_law_point"] (defScope sLValue) := ⟨rfl, rfl, rfl, by decide +kernel, rfl, by decide +kernel, by decide +kernel⟩
theorem scLWord : FnScope ["_law_generator_here", "_law_most", "_law_turn"] ["_law_generator_here", "_law_most"] (defScope sLWord) := ⟨rfl, rfl, rfl, by decide +kernel, rfl, by decide +kernel, by decide +kernel⟩
theorem dot_range {xs ys : List Int} (h : xs.length = ys.length) : ((List.range ys.length).map fun j => xs.getD j 0 * ys.getD j 0) = List.zipWith (· * ·) xs ys := by
  apply List.ext_getElem?
  intro i
  rw [List.getElem?_map, List.getElem?_zipWith]
  by_cases c : i < ys.length
  · rw [List.getElem?_range c, List.getElem?_eq_getElem (show i < xs.length by omega), List.getElem?_eq_getElem c]
    simp [List.getD_eq_getElem?_getD, List.getElem?_eq_getElem (show i < xs.length by omega), List.getElem?_eq_getElem c]
  · rw [List.getElem?_eq_none (by rw [List.length_range]; omega), List.getElem?_eq_none (by omega)]
    rfl
theorem at_ints {l : List Int} {j : Nat} (h : j < l.length) : atI (l.map L2.V.int) (j : Int) = some (.int (l.getD j 0)) := by
  refine atI_nat ?_
  rw [List.getElem?_map, List.getD_eq_getElem?_getD, List.getElem?_eq_getElem h]
  rfl
theorem Sz.zero (k : Nat) : Sz k 0 := ⟨Int.le_refl 0, Int.pow_pos (by decide)⟩
theorem sz_dotK {k l : Nat} : ∀ (xs ys : List Int), (∀ x ∈ xs, Sz k x) → (∀ y ∈ ys, Sz l y) → Sz (k + l + xs.length) (K5.dot xs ys)
  | [], ys, _, _ => Sz.zero _
  | x :: xs, [], _, _ => by
    unfold K5.dot
    rw [List.zipWith_nil_right]
    exact Sz.zero _
  | x :: xs, y :: ys, hx, hy => by
    have e : K5.dot (x :: xs) (y :: ys) = x * y + K5.dot xs ys := rfl
    rw [e]
    have a := Sz.le ((hx x List.mem_cons_self).mul (hy y List.mem_cons_self)) (Nat.le_add_right (k + l) xs.length)
    have b := sz_dotK xs ys (fun z hz => hx z (List.mem_cons_of_mem _ hz)) fun z hz => hy z (List.mem_cons_of_mem _ hz)
    exact Sz.add a b
def spLWord : Sp := fun vs H Q _ => ∃ (g : Addr) (n k : Nat), vs = [.ref g, .int k] ∧ Dr H g n ∧ n ≤ 900000 ∧ k ≤ 10 ∧ ∀ (H' : Hp) (z : Str), AB z → (cs z).length ≤ k → But H H' g → Dr H' g (n + 300) → Q (.str z) H'
section
variable {P : Program} {w : World} {K : PySem.W.Frag} {mg : Str → Option Value} {base : Heap} {f : Addr} {fd : FuncData}
theorem ok_lvalue (F : FnP K "_law_value" sLValue f fd) (z_sum : mg "sum" = none) (z_range : mg "range" = none) (z_len : mg "len" = none) : FnOk P w K mg base CX0 1 f fd ["_law_form", "_law_point"] spFormValue := by
  have nd := scLValue.nd
  refine F.ok scLValue (fun vs H Q E h => ?_) (fun cdv A outer s H vs Q E hr h => ?_)
  · obtain ⟨fa, pa, c, xs, ys, rfl, _⟩ := h
    rfl
  · obtain ⟨fa, pa, c, xs, ys, rfl, hf, hp, hl, h100, hx, hy, q⟩ := h
    refine ⟨_, PSs.nox (pss_one (ps_ret (pe_op op_add (pe_ix ix_tup (pv 0) pe_int (fun _ _ => rfl)) (pe_callB (cr_sum rfl) (by rfl) z_sum (by decide +kernel) (pa_cons
      (pe_lc (own := [("_law_at", 2)]) (g := gName 2) (by rfl) nd (pi_range1 (by rfl) z_range (pa_cons (pe_callB call_len (by rfl) z_len boot_len (pa_cons (pv 1) pa_nil)) pa_nil)) (blkOk_by (N := ["_law_form", "_law_point", "_law_at"]) (sc := defScope sLValue) (own := [("_law_at", 2)]) (by decide +kernel))
        (fun _ _ _ _ _ => pg_name (i := 2) nd rfl (Or.inl rfl)) (fun _ _ _ _ _ => pts_nil)
        (fun _ _ _ _ _ => pe_op op_mulW (pe_ix (ix_tupK (K := K) rfl) (pv 0) (pe_op op_add (pv 2) pe_int) (fun _ _ => rfl)) (pe_ix (ix_listK (K := K) rfl) (pv 1) (pv 2) (fun _ _ => rfl)))) pa_nil))))), ?_⟩
    refine ⟨_, rfl, fa, _, _, _, rfl, rfl, SqT.of hf, (show atI ((c :: xs).map V.int) ((0 : Nat) : Int) = some (V.int c) from atI_nat rfl), _, rfl, _, (ys.map V.int).length, rfl, .inl ⟨_, SqL.of hp, rfl⟩, _, rfl, by rw [List.length_map]; omega, by rw [List.length_map]; omega, fun D nD => ?_⟩
    have eN : (((ys.map V.int).length : Nat) : Int).toNat = ys.length := by rw [List.length_map]; omega
    rw [eN]
    refine lc_range (lo := 0) (n := ys.length) (fun k H' => Same H H' ∧ H' D = some (.lst (((List.range k).map fun j => xs.getD j 0 * ys.getD j 0).map V.int))) ⟨same_new nD, upd_same⟩ ?_ ?_
    · rintro j H' hj ⟨sm, hD⟩
      rw [Int.zero_add]
      have gx := at_ints (l := c :: xs) (j := j + 1) (by show j + 1 < xs.length + 1; omega)
      have gy := at_ints (l := ys) (j := j) hj
      have ex : (c :: xs).getD (j + 1) 0 = xs.getD j 0 := by simp [List.getD_eq_getElem?_getD]
      rw [ex] at gx
      have sx : Sz 1000 (xs.getD j 0) := by
        rw [List.getD_eq_getElem?_getD, List.getElem?_eq_getElem (show j < xs.length by omega)]
        exact hx _ (List.getElem_mem _)
      have sy : Sz 1000 (ys.getD j 0) := by
        rw [List.getD_eq_getElem?_getD, List.getElem?_eq_getElem hj]
        exact hy _ (List.getElem_mem _)
      refine ⟨rfl, ?_⟩
      refine ⟨_, rfl, _, rfl, _, _, rfl, rfl, fa, _, _, _, rfl, rfl, SqT.of (sm _ _ hf), gx, _, rfl, _, rfl, pa, _, _, _, rfl, rfl, SqL.of (sm _ _ hp), gy, _, _, rfl, rfl, sx.mulW sy (by decide), _, hD, ?_, fun b o e => ?_, ?_⟩
      · rw [List.length_map, List.length_map, List.length_range]
        exact small1000 (by omega)
      · rw [upd_ne (ne_of_none (H := H) e nD)]
        exact sm _ _ e
      · rw [upd_same, List.range_succ, List.map_append, List.map_append]
        rfl
    · rintro H' ⟨sm, hD⟩
      rw [dot_range hl] at hD
      exact ⟨D, _, rfl, SqL.of hD, _, _, rfl, rfl, q H' sm⟩
theorem ok_lword (F : FnP K "_law_word" sLWord f fd) (o_rand : Ok P w K mg base "_law_random" 2 ["_law_generator_here", "_law_bound"] spRand) (z_range : mg "range" = none) : FnOk P w K mg base CX0 3 f fd ["_law_generator_here", "_law_most"] spLWord := by
  have nd := scLWord.nd
  refine F.ok scLWord (fun vs H Q E h => ?_) (fun cdv A outer s H vs Q E hr h => ?_)
  · obtain ⟨g, n, k, rfl, _⟩ := h
    rfl
  · obtain ⟨g, n, k, rfl, hd, hn, hk, q⟩ := h
    have szl := sizeLine_eq
    have r2 : Room 2 (A.deeper (envOfC "_law_word" (defScope sLWord) s.heap.objs.size f cdv)) := hr
    refine ⟨_, PSs.nox (pss_one (ps_ret (pe_join pe_str (pe_lc (own := [("_law_turn", 2)]) (g := gName 2) (by rfl) nd (pi_range1 (by rfl) z_range (pa_cons (pe_callO o_rand r2 (by rfl) (pa_cons (pv 0) (pa_cons (pe_op op_add (pv 1) pe_int) pa_nil))) pa_nil)) (blkOk_by (N := ["_law_generator_here", "_law_most", "_law_turn"]) (sc := defScope sLWord) (own := [("_law_turn", 2)]) (by decide +kernel))
        (fun _ _ _ _ _ => pg_name (i := 2) nd rfl (Or.inl rfl)) (fun _ _ _ _ _ => pts_nil)
        (fun _ _ _ _ _ => pe_ix ix_str pe_str (pe_callO o_rand r2 (by rfl) (pa_cons (pv 0) (pa_cons pe_int pa_nil))) (fun _ _ => rfl)))))), ?_⟩
    refine ⟨⟨_, rfl⟩, _, rfl, _, rfl, _, _, rfl, rfl, g, n, (k : Int) + 1, rfl, hd, by omega, by omega, Int.lt_of_le_of_lt (b := 11) (by omega) (by decide +kernel), fun H1 r r0 rk b1 d1 => ⟨r, rfl, by omega, by omega, fun D nD => ?_⟩⟩
    have gD : g ≠ D := by
      obtain ⟨a, b, c, e, _⟩ := d1
      exact ne_of_none e nD
    refine lc_range (lo := 0) (n := r.toNat) (fun i H' => But H1 H' g ∧ ∃ zs : List Str, H' D = some (.lst (zs.map V.str)) ∧ zs.length = i ∧ (∀ z ∈ zs, AB z ∧ (cs z).length = 1) ∧ Dr H' g (n + 20 + 20 * i)) ⟨Same.but (same_new nD), [], upd_same, rfl, fun z hz => (by cases hz), (by
      obtain ⟨a, b, c, e, r⟩ := d1
      exact ⟨a, b, c, by rw [upd_ne gD]; exact e, r⟩)⟩ ?_ ?_
    · rintro i H' hi ⟨bt, zs, hD, lz, hz, hd2⟩
      refine ⟨rfl, ?_⟩
      refine ⟨_, rfl, g, n + 20 + 20 * i, 2, rfl, hd2, by omega, by decide, by decide +kernel, fun H2 x x0 x2 b2 d2 => ?_⟩
      obtain ⟨c, ec, hc⟩ : ∃ c : Nat, atI (cs ("ab" : Str)) x = some c ∧ (c = 97 ∨ c = 98) := by
        have e : x = 0 ∨ x = 1 := by omega
        rcases e with rfl | rfl
        · exact ⟨97, by decide +kernel, .inl rfl⟩
        · exact ⟨98, by decide +kernel, .inr rfl⟩
      have hD2 := b2 _ _ (Ne.symm gD) hD
      refine ⟨("ab" : Str), x, c, rfl, rfl, (by show (2 : Nat) ≤ sizeLine; omega), ec, _, hD2, ?_, fun b o nb e => ?_, zs ++ [⟨#[c]⟩], ?_, ?_, fun z hz2 => ?_, ?_⟩
      · rw [List.length_map]
        exact small1000 (by omega)
      · rw [upd_ne (ne_of_none (H := H1) e nD)]
        exact b2 _ _ nb (bt _ _ nb e)
      · rw [upd_same, List.map_append]
        rfl
      · rw [List.length_append, lz]
        rfl
      · rcases List.mem_append.mp hz2 with h | h
        · exact hz z h
        · rw [List.mem_singleton.mp h]
          refine ⟨fun c' hc' => ?_, rfl⟩
          have : c' = c := by simpa using hc'
          rw [this]
          exact hc
      · obtain ⟨a, b, c, e, r⟩ := d2
        exact ⟨a, b, c, by rw [upd_ne gD]; exact e, by have := r; omega⟩
    · rintro H' ⟨bt, zs, hD, lz, hz, hd2⟩
      have lf : (zs.flatMap cs).length = zs.length := by
        clear hD lz hd2 bt
        induction zs with
        | nil => rfl
        | cons z zs ih =>
          rw [List.flatMap_cons, List.length_append, (hz z List.mem_cons_self).2, ih fun y hy => hz y (List.mem_cons_of_mem _ hy), List.length_cons, Nat.add_comm]
      refine ⟨_, D, zs, rfl, rfl, .inl (SqL.of hD), ?_, q H' _ (fun c hc => ?_) ?_ (b1.trans bt) (hd2.mono (by omega))⟩
      · rw [sum_len, lf, show ("" : Str).length = 0 by decide +kernel, Nat.mul_zero]
        omega
      · rw [join0] at hc
        obtain ⟨z, h1, h2⟩ := List.mem_flatMap.mp hc
        exact (hz z h1).1 c h2
      · rw [join0, lf]
        omega
end
end K5
set_option Elab.async false
set_option linter.all false
set_option maxRecDepth 100000
set_option maxHeartbeats 4000000
namespace K5
open PySem PySem.Spec PyProof.Rows L2 XV NP
/-! ### pieces compared; joined, repeated -/
theorem eqv_I : ∀ L M : List Int, PyData.eqvAll (L.map PyData.int) (M.map PyData.int) = decide (L = M)
  | [], [] => by simp [PyData.eqvAll]
  | [], m :: M => by simp [PyData.eqvAll]
  | l :: L, [] => by simp [PyData.eqvAll]
  | l :: L, m :: M => by
    have ih := eqv_I L M
    simp only [List.map_cons, PyData.eqvAll, ih, PyData.eqv, List.cons.injEq]
    by_cases h1 : l = m <;> by_cases h2 : L = M <;> simp [h1, h2]
theorem eqv_P (p q : Pc) : PyData.eqv (pcD p) (pcD q) = decide (p = q) := by
  obtain ⟨a, c, xs⟩ := p
  obtain ⟨b, d, ys⟩ := q
  have e : PyData.eqv (pcD (a, c, xs)) (pcD (b, d, ys)) = (a == b && decide (c :: xs = d :: ys)) := by
    show PyData.eqv (.tuple [.str a, .tuple ((c :: xs).map PyData.int)]) (.tuple [.str b, .tuple ((d :: ys).map PyData.int)]) = _
    simp only [PyData.eqv, PyData.eqvAll, eqv_I, Bool.and_true]
  rw [e]
  simp only [Prod.mk.injEq, List.cons.injEq]
  by_cases h1 : a = b <;> by_cases h2 : c = d <;> by_cases h3 : xs = ys <;> simp [h1, h2, h3]
theorem eqv_Ps : ∀ L M : List Pc, PyData.eqvAll (L.map pcD) (M.map pcD) = decide (L = M)
  | [], [] => by simp [PyData.eqvAll]
  | [], m :: M => by simp [PyData.eqvAll]
  | l :: L, [] => by simp [PyData.eqvAll]
  | l :: L, m :: M => by
    have ih := eqv_Ps L M
    simp only [List.map_cons, PyData.eqvAll, ih, eqv_P, List.cons.injEq]
    by_cases h1 : l = m <;> by_cases h2 : L = M <;> simp [h1, h2]
theorem eqv_D (L M : List Pc) : PyData.eqv (psD L) (psD M) = decide (L = M) := by
  show PyData.eqv (.list _) (.list _) = _
  simp only [PyData.eqv]
  exact eqv_Ps L M
theorem Same.none {H H' : Hp} (s : Same H H') {a : Addr} (h : H' a = Option.none) : H a = Option.none := by
  cases e : H a with
  | none => rfl
  | some o =>
    rw [s _ _ e] at h
    cases h
theorem Md.keep {C : Addr} {H H' : Hp} (s : Same H H') {m kb : Nat} {ps : List Pc} {Q : VK} (h : Md C H m kb ps Q) : Md C H' m kb ps Q := fun H2 x done s2 nx => h H2 x done (s.trans s2) (Same.none s nx)
theorem PL.app {H : Hp} {xs ys : List L2.V} {a b : List Pc} (h : Pcs H xs a) (g : Pcs H ys b) : Pcs H (xs ++ ys) (a ++ b) := by
  induction h with
  | nil => exact g
  | cons i _ ih => exact .cons i ih
def rep (n : Nat) (ps : List Pc) : List Pc := (List.replicate n ps).flatten
theorem Pcs.rep {H : Hp} {xs : List L2.V} {a : List Pc} (h : Pcs H xs a) : ∀ n : Nat, Pcs H (List.replicate n xs).flatten (K5.rep n a)
  | 0 => .nil
  | n + 1 => PL.app h (Pcs.rep h n)
theorem meas_app (a b : List Pc) : meas (a ++ b) = meas a + meas b := by
  unfold meas
  rw [List.map_append, List.sum_append]
theorem meas_rep (a : List Pc) : ∀ n : Nat, meas (rep n a) = meas a * (n : Int)
  | 0 => by simp [rep, meas]
  | n + 1 => by
    have e : rep (n + 1) a = a ++ rep n a := rfl
    rw [e, meas_app, meas_rep a n, Int.natCast_add, Int.mul_add, Int.natCast_one, Int.mul_one, Int.add_comm]
theorem Sz.one (k : Nat) : Sz (k + 1) 1 := ⟨by decide, by
    have h : (0 : Int) < 2 ^ k := Int.pow_pos (by decide)
    rw [Int.pow_succ]
    omega⟩
theorem Pz.me {m k : Nat} {p : Pc} (h : Pz m k p) (l : (cs p.1).length ≤ 2000) : Sz (k + 14) (me1 p) := by
  have lz := cs_len p.1
  have a : Sz (k + 1 + 1) (p.2.1 + if (∀ x ∈ p.2.2, x = 0) then 0 else 1) := Sz.add (Sz.le h.c (by omega)) (by
    split
    · exact Sz.zero _
    · exact Sz.one k)
  have b : Sz 12 ((p.1.length : Nat) : Int) := ⟨by omega, Int.lt_of_le_of_lt (b := 2000) (by omega) (by decide)⟩
  exact Sz.le (b.mul a) (by omega)
theorem sz_meas {m k : Nat} : ∀ {ps : List Pc}, (∀ p ∈ ps, Pz m k p) → (∀ p ∈ ps, AB p.1 ∧ (cs p.1).length ≤ 2000) → Sz (k + 15 + ps.length) (meas ps)
  | [], _, _ => Sz.zero _
  | p :: ps, h, w => by
    have a := Sz.le ((h p List.mem_cons_self).me (w p List.mem_cons_self).2) (show k + 14 ≤ k + 15 + ps.length by omega)
    have b := sz_meas (fun q hq => h q (List.mem_cons_of_mem _ hq)) fun q hq => w q (List.mem_cons_of_mem _ hq)
    have e : meas (p :: ps) = me1 p + meas ps := by
      unfold meas
      rw [List.map_cons, List.sum_cons]
    rw [e]
    exact Sz.add a b
abbrev sLike : Stmt := top 60
abbrev sJoined : Stmt := top 55
abbrev sRepeated : Stmt := top 56
theorem scLike : FnScope ["one", "other"] ["one", "other"] (defScope sLike) := ⟨rfl, rfl, rfl, by decide +kernel, rfl, by decide +kernel, by decide +kernel⟩
theorem scJoined : FnScope ["one", "other"] ["one", "other"] (defScope sJoined) := ⟨rfl, rfl, rfl, by decide +kernel, rfl, by decide +kernel, by decide +kernel⟩
theorem scRepeated : FnScope ["text", "times", "pieces"] ["text", "times"] (defScope sRepeated) := ⟨rfl, rfl, rfl, by decide +kernel, rfl, by decide +kernel, by decide +kernel⟩
/-- two texts for as many unknowns, or what is not -/
def Two (K : PySem.W.Frag) (C : Addr) (H : Hp) (u v : L2.V) (E : XK) (R : Addr → Addr → Nat → List Pc → List Pc → Prop) : Prop :=
  (NoT K H u ∧ Rz E H (C4 K 0) u) ∨ ∃ x m d, u = .ref x ∧ Tx C H x m d ∧ ((NoT K H v ∧ Rz E H (C4 K 0) v) ∨ ∃ y m2 d2, v = .ref y ∧ Tx C H y m2 d2 ∧ ((m ≠ m2 ∧ Rz E H (C4 K 5) v) ∨ (m = m2 ∧ R x y m d d2)))
def spLike (K : PySem.W.Frag) (C : Addr) : Sp := fun vs H Q E => ∃ u v, vs = [u, v] ∧ Two K C H u v E fun _ _ _ _ _ => Q .non H
/-- what OpenText(m, ps) makes or raises -/
def Mk2 (K : PySem.W.Frag) (C : Addr) (E : XK) (H : Hp) (m kb : Nat) (ps : List Pc) (Q : VK) : Prop := Pq m kb ps ∧ (2000 < meas ps → Rz E H (C4 K 4) (.int (meas ps))) ∧ (meas ps ≤ 2000 → Md C H m kb ps Q)
def spJoined (K : PySem.W.Frag) (C : Addr) : Sp := fun vs H Q E => ∃ u v, vs = [u, v] ∧ Two K C H u v E fun _ _ m d d2 => m ≤ 3 ∧ ∃ kb, Mk2 K C E H m kb (d ++ d2) Q
def spRepeated (K : PySem.W.Frag) (C : Addr) : Sp := fun vs H Q E => ∃ u v, vs = [u, v] ∧ ((NoT K H u ∧ Rz E H (C4 K 0) u) ∨ ∃ x m d, u = .ref x ∧ Tx C H x m d ∧ Kn H v ∧ ((cntV v = false ∧ Rz E H (C4 K 3) v) ∨ ∃ (n : Int) (kb : Nat), v = .int n ∧ Sz 1000 n ∧ m ≤ 3 ∧ Pq m kb d ∧
  (d = [] → ∀ H', Same H H' → Q (.ref x) H') ∧ (d ≠ [] → 2000 < meas d * n → Rz E H (C4 K 4) (.int (meas d * n))) ∧ (d ≠ [] → meas d * n ≤ 2000 → Pq m kb (rep n.toNat d) ∧ Md C H m kb (rep n.toNat d) Q)))
section
variable {P : Program} {w : World} {K : PySem.W.Frag} {mg : Str → Option Value} {base : Heap} {f : Addr} {fd : FuncData} {C : Addr}
theorem ok_like (F : FnP K "require_like_texts" sLike f fd) (T : TT K mg C) (Z : Cl4 P w K mg base) (o_text : OkX P w K mg base "require_text" 3 ["text"] (spReqText K C)) (o_many : OkMt P w K mg base C "many" (spManyT C)) : FnOk P w K mg base (L2.CX P w) 4 f fd ["one", "other"] (spLike K C) := by
  refine F.ok scLike (fun vs H Q E h => ?_) (fun cdv A outer s H vs Q E hr h => ?_)
  · obtain ⟨u, v, rfl, _⟩ := h
    rfl
  · obtain ⟨u, v, rfl, h⟩ := h
    obtain ⟨fI, fdI, XT⟩ := Z.x 5 (by decide)
    have XT : XCls P w K mg base "Unlike" "value" (C4 K 5) fI fdI := XT
    refine ⟨_, pss_cons (ps_expr (pe_callX (E := E) o_text (takes_of rfl rfl rfl rfl) hr (by rfl) (pa_cons (pv 0) pa_nil)))
      (pss_cons (ps_expr (pe_callX (E := E) o_text (takes_of rfl rfl rfl rfl) hr (by rfl) (pa_cons (pv 1) pa_nil)))
      (pss_one (ps_if (pt_cmpR op_ne (pe_manyT o_many T (pv 0) (hr.mono (by decide))) (pe_manyT o_many T (pv 1) (hr.mono (by decide))) (nomark _)) (pss_one (ps_raiseX (nm := "Unlike") rfl XT (hr.mono (by decide)) (takes_of rfl rfl rfl rfl) (by rfl) (pv 1))) pss_nil))), ?_⟩
    rcases h with ⟨n, r⟩ | ⟨x, m, d, rfl, hx, h⟩
    · exact ⟨_, rfl, _, rfl, .inr ⟨n, r⟩⟩
    refine ⟨_, rfl, _, rfl, .inl ⟨x, m, d, rfl, hx, ?_⟩⟩
    rcases h with ⟨n, r⟩ | ⟨y, m2, d2, rfl, hy, h⟩
    · exact ⟨_, rfl, _, rfl, .inr ⟨n, r⟩⟩
    refine ⟨_, rfl, _, rfl, .inl ⟨y, m2, d2, rfl, hy, ?_⟩⟩
    refine ⟨_, rfl, x, m, d, rfl, hx, _, rfl, y, m2, d2, rfl, hy, rfl, _, rfl, ?_⟩
    rcases h with ⟨ne, r⟩ | ⟨rfl, q⟩
    · rw [decide_eq_false (show ¬ V.int (m : Int) = V.int (m2 : Int) from fun z => ne (by have := V.int.inj z; omega))]
      exact iteT ⟨_, rfl, fun e nd => r H e (Same.refl _) nd⟩
    · rw [decide_eq_true rfl]
      exact iteF q
theorem ok_joined (F : FnP K "joined" sJoined f fd) (T : TT K mg C) (o_mk : OkMkT P w K mg base C) (o_like : OkX P w K mg base "require_like_texts" 4 ["one", "other"] (spLike K C)) (o_many : OkMt P w K mg base C "many" (spManyT C)) (o_pieces : OkMt P w K mg base C "pieces" (spPiecesT C)) :
    FnOk P w K mg base (L2.CX P w) 8 f fd ["one", "other"] (spJoined K C) := by
  refine F.ok scJoined (fun vs H Q E h => ?_) (fun cdv A outer s H vs Q E hr h => ?_)
  · obtain ⟨u, v, rfl, _⟩ := h
    rfl
  · obtain ⟨u, v, rfl, h⟩ := h
    have szl := sizeLine_eq
    have r7 : Room 7 (A.deeper (envOfC "joined" (defScope sJoined) s.heap.objs.size f cdv)) := hr
    have r4 := r7.mono (by decide : 4 ≤ 7)
    have r1 := r7.mono (by decide : 1 ≤ 7)
    refine ⟨_, pss_cons (ps_expr (pe_callX (E := E) o_like (takes_of rfl rfl rfl rfl) r4 (by rfl) (pa_cons (pv 0) (pa_cons (pv 1) pa_nil))))
      (pss_one (ps_ret (pe_mkX (E := E) o_mk (takes_of rfl rfl rfl rfl) r7 (by rfl) (pe_manyT o_many T (pv 0) r1) (pe_op op_cat (pe_piecesT o_pieces T (pv 0) r1) (pe_piecesT o_pieces T (pv 1) r1))))), ?_⟩
    refine ⟨_, rfl, _, rfl, u, v, rfl, ?_⟩
    rcases h with h | ⟨x, m, d, rfl, hx, h⟩
    · exact .inl h
    refine .inr ⟨x, m, d, rfl, hx, ?_⟩
    rcases h with h | ⟨y, m2, d2, rfl, hy, h⟩
    · exact .inl h
    refine .inr ⟨y, m2, d2, rfl, hy, ?_⟩
    rcases h with h | ⟨rfl, hm, kb, hq, r, q⟩
    · exact .inl h
    refine .inr ⟨rfl, ?_⟩
    refine ⟨_, rfl, x, m, d, rfl, hx, _, rfl, x, m, d, rfl, hx, fun H1 p1 s1 np1 hp1 => ⟨_, rfl, y, m, d2, rfl, hy.keep s1, fun H2 p2 s2 np2 hp2 => ?_⟩⟩
    obtain ⟨xs, e1, P1⟩ := hp1.keep s2
    obtain ⟨ys, e2, P2⟩ := hp2
    have l1 := P1.len
    have l2 := P2.len
    have l90 := hq.l
    rw [List.length_append] at l90
    refine ⟨p1, p2, xs, ys, rfl, rfl, e1, e2, by omega, fun p np => ?_⟩
    have S := (s1.trans s2).trans (same_new (o := .lst (xs ++ ys)) np)
    exact ⟨m, kb, p, d ++ d2, rfl, rfl, hm, ⟨_, upd_same, PL.app (P1.keep (same_new np)) (P2.keep (same_new np))⟩, hq, fun gt => (r gt).at S, fun le => (q le).keep S⟩
theorem ok_repeated (F : FnP K "repeated" sRepeated f fd) (T : TT K mg C) (Z : Cl4 P w K mg base) (o_mk : OkMkT P w K mg base C) (o_text : OkX P w K mg base "require_text" 3 ["text"] (spReqText K C)) (o_many : OkMt P w K mg base C "many" (spManyT C)) (o_pieces : OkMt P w K mg base C "pieces" (spPiecesT C))
    (o_count : Ok P w K mg base "is_count" 2 ["value"] spCount) (o_measure : Ok P w K mg base "measure" 2 ["pieces"] spMeasure) (o_reqM : OkX P w K mg base "require_measure" 3 ["number"] (spReqMeas K)) : FnOk P w K mg base (L2.CX P w) 8 f fd ["text", "times"] (spRepeated K C) := by
  have nd := scRepeated.nd
  refine F.ok scRepeated (fun vs H Q E h => ?_) (fun cdv A outer s H vs Q E hr h => ?_)
  · obtain ⟨u, v, rfl, _⟩ := h
    rfl
  · obtain ⟨u, v, rfl, h⟩ := h
    have szl := sizeLine_eq
    have hu := hr.units
    have r7 : Room 7 (A.deeper (envOfC "repeated" (defScope sRepeated) s.heap.objs.size f cdv)) := hr
    have r3 := r7.mono (by decide : 3 ≤ 7)
    have r2 := r7.mono (by decide : 2 ≤ 7)
    have r1 := r7.mono (by decide : 1 ≤ 7)
    obtain ⟨fI, fdI, XT⟩ := Z.x 3 (by decide)
    have XT : XCls P w K mg base "InvalidNumber" "value" (C4 K 3) fI fdI := XT
    refine ⟨_, pss_cons (ps_expr (pe_callX (E := E) o_text (takes_of rfl rfl rfl rfl) r3 (by rfl) (pa_cons (pv 0) pa_nil)))
      (pss_cons (ps_if (pt_not (pt_val (pe_callO o_count r2 (by rfl) (pa_cons (pv 1) pa_nil)))) (pss_one (ps_raiseX (nm := "InvalidNumber") rfl XT r2 (takes_of rfl rfl rfl rfl) (by rfl) (pv 1))) pss_nil)
      (pss_cons (ps_set (i := 2) nd rfl (Or.inl rfl) (pe_piecesT o_pieces T (pv 0) r1))
      (pss_cons (ps_if (pt_cmpR (op_eqD hu) (pv 2) (pe_lst pa_nil) (nomark _)) (pss_one (ps_ret (pv 0))) pss_nil)
      (pss_cons (ps_expr (pe_callX (E := E) o_reqM (takes_of rfl rfl rfl rfl) r3 (by rfl) (pa_cons (pe_op op_mulW (pe_callO o_measure r2 (by rfl) (pa_cons (pv 2) pa_nil)) (pv 1)) pa_nil)))
      (pss_one (ps_ret (pe_mkX (E := E) o_mk (takes_of rfl rfl rfl rfl) r7 (by rfl) (pe_manyT o_many T (pv 0) r1) (pe_op op_rep (pv 2) (pv 1))))))))), ?_⟩
    rcases h with ⟨n, r⟩ | ⟨x, m, d, rfl, hx, kn, h⟩
    · exact ⟨_, rfl, _, rfl, .inr ⟨n, r⟩⟩
    refine ⟨_, rfl, _, rfl, .inl ⟨x, m, d, rfl, hx, ?_⟩⟩
    refine ⟨_, rfl, v, rfl, kn, ?_⟩
    rcases h with ⟨e, r⟩ | ⟨n, kb, rfl, sn, hm, hq, q0, r, q⟩
    · exact ⟨false, congrArg V.bl e, iteT ⟨_, rfl, fun d nd => r H d (Same.refl _) nd⟩⟩
    have ec : cntV (.int n) = true := decide_eq_true sn.1
    refine ⟨true, congrArg V.bl ec, iteF ?_⟩
    refine ⟨_, rfl, x, m, d, rfl, hx, fun H1 p1 s1 np1 hp1 => ?_⟩
    have ab : ∀ p ∈ d, AB p.1 := fun p hp => (hq.w p hp).1
    refine ⟨_, rfl, (by show 0 ≤ sizeLine; omega), fun l nl => ?_⟩
    have s2 := same_new (o := .lst []) nl
    have S := s1.trans s2
    have hp2 := hp1.keep s2
    refine ⟨psD d, psD [], pl_dp hp2, .lst (SqL.of upd_same) .nil, ps_shaped ab, ps_shaped (fun p hp => by cases hp), ?_⟩
    rw [eqv_D]
    generalize upd H1 l (.lst []) = H2 at *
    by_cases ed : d = []
    · rw [decide_eq_true ed]
      exact ⟨true, rfl, iteT ⟨_, rfl, q0 ed H2 S⟩⟩
    rw [decide_eq_false ed]
    refine ⟨false, rfl, iteF ?_⟩
    refine ⟨_, rfl, m, kb, p1, d, rfl, hm, hp2, hq, fun H3 s3 => ⟨_, rfl, _, _, rfl, rfl, ?_, ?_⟩⟩
    · have := hq.kk
      have := hq.l
      exact (sz_meas hq.z hq.w).mulW sn (by omega)
    have S3 := S.trans s3
    refine ⟨meas d * n, rfl, fun le => ?_, fun gt => (r ed gt).at S3⟩
    obtain ⟨pq, md⟩ := q ed le
    have en : ((n.toNat : Nat) : Int) = n := Int.toNat_of_nonneg sn.1
    have em : meas (rep n.toNat d) = meas d * n := by rw [meas_rep, en]
    obtain ⟨xs, e1, P1⟩ := hp2.keep s3
    have lx := P1.len
    have ln : xs.length * n.toNat ≤ 90 := by
      have l90 := pq.l
      have e : (rep n.toNat d).length = n.toNat * d.length := by
        show (List.replicate n.toNat d).flatten.length = _
        rw [List.length_flatten, List.map_replicate, List.sum_replicate_nat]
      rw [lx, Nat.mul_comm, ← e]
      exact l90
    have d1 : 1 ≤ d.length := List.length_pos_iff.mpr ed
    have n90 : n.toNat ≤ 90 := by
      have := Nat.mul_le_mul_right n.toNat (show 1 ≤ xs.length by omega)
      omega
    refine ⟨_, rfl, x, m, d, rfl, hx.keep S3, _, rfl, _, rfl, p1, n, xs, rfl, rfl, e1, by omega, by omega, by omega, fun p np => ?_⟩
    have s4 := same_new (o := .lst (List.replicate n.toNat xs).flatten) np
    exact ⟨m, kb, p, rep n.toNat d, rfl, rfl, hm, ⟨_, upd_same, (P1.keep s4).rep _⟩, pq, fun gt => absurd gt (by omega), fun _ => md.keep (S3.trans s4)⟩
end
end K5
set_option Elab.async false
set_option linter.all false
set_option maxRecDepth 100000
set_option maxHeartbeats 4000000
namespace K5
open PySem PySem.Spec PyProof.Rows L2 XV
abbrev sWith : Stmt := top 25
theorem scWith : FnScope ["form", "many", "forms", "parts", "number", "part"] ["form", "many", "forms"] (defScope sWith) := ⟨rfl, rfl, rfl, by decide +kernel, rfl, by decide +kernel, by decide +kernel⟩
/-- the part at place j -/
def withV (c : Int) (xs : List Int) (ns : List (List Int)) (j : Nat) : Int := (if j = 0 then c else 0) + (List.zipWith (fun x n => n.getD j 0 * x) xs ns).sum
theorem getD_times (n : List Int) (x : Int) (j : Nat) : (n.map (· * x)).getD j 0 = n.getD j 0 * x := by
  rw [List.getD_eq_getElem?_getD, List.getD_eq_getElem?_getD, List.getElem?_map]
  cases n[j]? with
  | none => simp
  | some y => rfl
theorem getD_plain (c : Int) (m j : Nat) : (c :: List.replicate m (0 : Int)).getD j 0 = if j = 0 then c else 0 := by
  cases j with
  | zero => rfl
  | succ j =>
    rw [List.getD_cons_succ, if_neg (Nat.succ_ne_zero j), List.getD_eq_getElem?_getD]
    by_cases h : j < m
    · rw [List.getElem?_replicate, if_pos h]
      rfl
    · rw [List.getElem?_replicate, if_neg h]
      rfl
def ns (xs : List Int) (ps : List (Addr × List Int)) : List (List Int) := List.zipWith (fun x p => p.2.map (· * x)) xs ps
theorem col_with (u : Addr) (c : Int) (m : Nat) (as : List Addr) (xs : List Int) (ps : List (Addr × List Int)) (h : as.length = (ns xs ps).length) (j : Nat) :
    col ((u, c :: List.replicate m 0) :: as.zip (ns xs ps)) j = withV c xs (ps.map fun p => p.2) j := by
  unfold col withV
  rw [List.map_cons, List.sum_cons, getD_plain]
  have e1 : (as.zip (ns xs ps)).map (fun p => p.2.getD j 0) = (ns xs ps).map fun n => n.getD j 0 := by
    have e : ((as.zip (ns xs ps)).map Prod.snd).map (fun n : List Int => n.getD j 0) = (as.zip (ns xs ps)).map fun p => p.2.getD j 0 := List.map_map
    rw [← e, List.map_snd_zip (by omega)]
  rw [e1]
  unfold ns
  rw [List.map_zipWith, List.zipWith_map_right]
  simp only [getD_times]
def spWith : Sp := fun vs H Q _ => ∃ (fa la : Addr) (m : Nat) (c : Int) (xs : List Int) (ps : List (Addr × List Int)), vs = [.ref fa, .int m, .ref la] ∧ H fa = some (.tup ((c :: xs).map V.int)) ∧ H la = some (.lst (ps.map fun p => V.ref p.1)) ∧ xs.length = ps.length ∧
  xs.length ≤ 90 ∧ m ≤ 90 ∧ (∀ x ∈ xs, Sz 1000 x) ∧ (∀ p ∈ ps, H p.1 = some (.tup (p.2.map V.int)) ∧ p.2.length = m + 1 ∧ ∀ x ∈ p.2, Sz 1000 x) ∧
  ∀ (H' : Hp) (r : Addr), Same H H' → H r = none → H' r = some (.tup (((List.range (m + 1)).map (withV c xs (ps.map fun p => p.2))).map V.int)) → Q (.ref r) H'
theorem far2' {H : Hp} {t D : Addr} {o u : HO} (n : H t = some u) (h : H D = some o) (x : u ≠ o) : t ≠ D := fun e => by
  rw [e, h] at n
  exact x (Option.some.inj n).symm
section
variable {P : Program} {w : World} {K : PySem.W.Frag} {mg : Str → Option Value} {base : Heap} {f : Addr} {fd : FuncData}
theorem ok_with (F : FnP K "form_with" sWith f fd) (o_times : Ok P w K mg base "form_times" 1 ["form", "times"] spTimes) (o_plain : Ok P w K mg base "plain_form" 1 ["many", "constant"] spPlain) (o_sum : Ok P w K mg base "sum_of_forms" 1 ["many", "forms"] spSum)
    (z_zip : mg "zip" = none) : FnOk P w K mg base CX0 2 f fd ["form", "many", "forms"] spWith := by
  have nd := scWith.nd
  refine F.ok scWith (fun vs H Q E h => ?_) (fun cdv A outer s H vs Q E hr h => ?_)
  · obtain ⟨fa, la, m, c, xs, ps, rfl, _⟩ := h
    rfl
  · obtain ⟨fa, la, m, c, xs, ps, rfl, hf, hl, hn, h90, hm, bx, hp, q⟩ := h
    have hr1 : Room 1 (A.deeper (envOfC "form_with" (defScope sWith) s.heap.objs.size f cdv)) := hr
    refine ⟨_, PSs.nox (pss_cons (
      (ps_setLc (i := 3) (own := [("number", 4), ("part", 5)]) (g := gTup K 2 (gCons (gName 4) (gCons (gName 5) gNil))) (by rfl) nd rfl rfl (sw_true rfl rfl rfl (by decide +kernel)) (pi_zipM (by rfl) z_zip (pa_cons (pe_slice sl_tup (pv 0) (po_some pe_int) po_none) (pa_cons (pv 2) pa_nil))) (blkOk_by (N := ["form", "many", "forms", "parts", "number", "part"]) (sc := defScope sWith) (own := [("number", 4), ("part", 5)]) (by decide +kernel))
        (fun _ _ _ _ _ => pg_tup rfl (pgs_cons (pg_name (i := 4) nd rfl (Or.inl rfl)) (pgs_cons (pg_name (i := 5) nd rfl (Or.inl rfl)) pgs_nil))) (fun _ _ _ _ _ => pts_nil)
        (fun _ _ _ _ _ => pe_callO o_times hr1 (by rfl) (pa_cons (pv 5) (pa_cons (pv 4) pa_nil)))))
      (pss_one (ps_ret (pe_callO o_sum hr1 (by rfl) (pa_cons (pv 1) (pa_cons (pe_op op_cat (pe_lst (pa_cons (pe_callO o_plain hr1 (by rfl) (pa_cons (pv 1) (pa_cons (pe_ix ix_tup (pv 0) pe_int (fun _ _ => rfl)) pa_nil))) pa_nil)) (pv 3)) pa_nil)))))), ?_⟩
    refine ⟨_, rfl, _, rfl, fa, _, rfl, SqT.of hf, (fun z => absurd z.1 (by
      rw [show HT.sIx ((c :: xs).map V.int).length 0 (some 1) = min 1 ((c :: xs).map V.int).length from HT.sIx_nat _ _ 1, List.map_cons, List.length_cons]
      omega)), fun sl nsl => ⟨_, rfl, sl, la, _, _, rfl, ⟨SqT.of upd_same, SqL.of (same_new nsl _ _ hl)⟩, fun D nD => ?_⟩⟩
    rw [cut_rest] at nD ⊢
    have s0 := same_new (o := .tup (xs.map V.int)) nsl
    refine lc_zipM (K := K) (a := sl) (b := la) (xs := xs.map V.int) (ys := ps.map fun p => V.ref p.1) (by simp [hn]) (fun k H' => Same (upd H sl (.tup (xs.map V.int))) H' ∧ ∃ as : List Addr, as.length = k ∧ H' D = some (.lst (as.map V.ref)) ∧
      ∀ (i : Nat) (a : Addr) (x : Int) (p : Addr × List Int), as[i]? = some a → xs[i]? = some x → ps[i]? = some p → H' a = some (.tup ((p.2.map (· * x)).map V.int))) ⟨same_new nD, [], rfl, upd_same, fun i a x p z => by simp at z⟩ (fun i H' p => ⟨SqT.of (p.1 _ _ upd_same), SqL.of (p.1 _ _ (s0 _ _ hl))⟩) ?_ ?_
    · rintro i x y T H' hx hy ⟨sm, as, la_, hD, ha⟩ nT
      rw [List.getElem?_map] at hx hy
      obtain ⟨x0, ex, rfl⟩ := Option.map_eq_some_iff.mp hx
      obtain ⟨p0, ep, rfl⟩ := Option.map_eq_some_iff.mp hy
      obtain ⟨h1, h2, h3⟩ := hp p0 (List.mem_of_getElem? ep)
      have sT := same_new (o := .tup [.int x0, .ref p0.1]) nT
      have li : i < xs.length := (List.getElem?_eq_some_iff.mp ex).1
      refine ⟨T, _, rfl, SqT.of upd_same, rfl, _, _, rfl, _, _, rfl, rfl, rfl, ?_⟩
      refine ⟨_, rfl, _, rfl, p0.1, x0, p0.2, rfl, sT _ _ (sm _ _ (s0 _ _ h1)), by omega, h3, bx _ (List.mem_of_getElem? ex), fun H2 r s2 nr hr2 => ?_⟩
      have hD2 := s2 _ _ (sT _ _ hD)
      refine ⟨_, hD2, ?_, fun b o e => ?_, as ++ [r], by simp [la_], ?_, ?_⟩
      · rw [List.length_map, la_]
        exact small1000 (by omega)
      · rw [upd_ne (ne_of_none e nD)]
        exact s2 _ _ (sT _ _ (sm _ _ e))
      · rw [upd_same, List.map_append]
        rfl
      · intro i' a x p e1 e2 e3
        by_cases c1 : i' < as.length
        · rw [List.getElem?_append_left c1] at e1
          have z := s2 _ _ (sT _ _ (ha i' a x p e1 e2 e3))
          rw [upd_ne (far2' z hD2 (by intro w; cases w))]
          exact z
        · rw [List.getElem?_append_right (by omega)] at e1
          have i0 : i' - as.length = 0 := by
            have := (List.getElem?_eq_some_iff.mp e1).1
            simp at this
            exact this
          have e1' : a = r := by
            rw [i0] at e1
            exact (Option.some.inj e1).symm
          have ei : i' = i := by omega
          subst ei e1'
          have ex2 : x = x0 := Option.some.inj (e2.symm.trans ex)
          have ep2 : p = p0 := Option.some.inj (e3.symm.trans ep)
          subst ex2 ep2
          rw [upd_ne (far2' hr2 hD2 (by intro w; cases w))]
          exact hr2
    · rintro H' ⟨sm, as, la_, hD, ha⟩
      rw [List.length_map] at la_
      have s1 := s0.trans sm
      have ln : as.length = (ns xs ps).length := by
        unfold ns
        rw [List.length_zipWith, la_, hn]
        omega
      refine ⟨_, rfl, _, rfl, _, rfl, fa, _, _, _, rfl, rfl, SqT.of (s1 _ _ hf), (show atI ((c :: xs).map V.int) ((0 : Nat) : Int) = some (V.int c) from atI_nat rfl), m, c, rfl, by omega, fun H2 u s2 nu hu => ⟨(by show 1 ≤ sizeLine; decide), fun l nl => ?_⟩⟩
      have sl2 := same_new (o := .lst [.ref u]) nl
      refine ⟨_, rfl, l, D, [.ref u], as.map V.ref, rfl, rfl, upd_same, sl2 _ _ (s2 _ _ hD), (by rw [List.length_map]; exact Nat.le_of_lt (small1000 (by show 1 + as.length ≤ 1000; omega))), fun t nt => ?_⟩
      have st := same_new (o := .lst ([.ref u] ++ as.map V.ref)) nt
      have s5 := (s1.trans s2).trans (sl2.trans st)
      have s25 := s2.trans (sl2.trans st)
      have e0 : ([.ref u] ++ as.map V.ref : List V) = (((u, c :: List.replicate m (0 : Int)) :: as.zip (ns xs ps)).map fun p => V.ref p.1) := by
        have e : ((as.zip (ns xs ps)).map Prod.fst).map V.ref = (as.zip (ns xs ps)).map fun p => V.ref p.1 := List.map_map
        rw [List.map_cons, ← e, List.map_fst_zip (by omega)]
        rfl
      refine ⟨m, t, (u, c :: List.replicate m (0 : Int)) :: as.zip (ns xs ps), rfl, ?_, by omega, ?_, ?_, fun H3 r s3 nr hr3 => ?_⟩
      · rw [upd_same, e0]
      · rw [List.length_cons, List.length_zip]
        omega
      · intro p hp'
        rcases List.mem_cons.mp hp' with rfl | hp'
        · exact ⟨(sl2.trans st) _ _ hu, by simp⟩
        · obtain ⟨i, hi⟩ := List.mem_iff_getElem?.mp hp'
          obtain ⟨e1, e2⟩ := List.getElem?_zip_eq_some.mp hi
          obtain ⟨x, p0, ex, ep, en⟩ := List.getElem?_zipWith_eq_some.mp e2
          obtain ⟨_, h2, _⟩ := hp p0 (List.mem_of_getElem? ep)
          have z := s25 _ _ (ha i p.1 x p0 e1 ex ep)
          rw [← en]
          exact ⟨z, by rw [List.length_map]; exact h2⟩
      · refine q H3 r (s5.trans s3) (was_new s5 nr) ?_
        rw [hr3]
        have ef : (fun j => col ((u, c :: List.replicate m (0 : Int)) :: as.zip (ns xs ps)) j) = withV c xs (ps.map fun p => p.2) := funext fun j => col_with u c m as xs ps ln j
        rw [← ef]
end
end K5
set_option Elab.async false
set_option linter.all false
set_option maxRecDepth 100000
set_option maxHeartbeats 4000000
namespace K5
open PySem PySem.Spec PyProof.Rows L2 XV
/-! require_forms, at arguments that it takes -/
abbrev sReqForms : Stmt := top 23
theorem scReqForms : FnScope ["forms", "many", "how_many", "form"] ["forms", "many", "how_many"] (defScope sReqForms) := ⟨rfl, rfl, rfl, by decide +kernel, rfl, by decide +kernel, by decide +kernel⟩
/-- a tuple of counts, one to four -/
def Fm (H : Hp) (a : Addr) (xs : List Int) : Prop := H a = some (.tup (xs.map V.int)) ∧ (∀ x ∈ xs, 0 ≤ x) ∧ 1 ≤ xs.length ∧ xs.length ≤ 4
theorem all_cnt {xs : List Int} (h : ∀ x ∈ xs, 0 ≤ x) : (xs.map V.int).all cntV = true := by
  rw [List.all_map, List.all_eq_true]
  intro x hx
  exact decide_eq_true (h x hx)
theorem fm_is {H : Hp} {a : Addr} {xs : List Int} (h : Fm H a xs) (m : Nat) : IsF H m (.ref a) (decide (xs.length = m + 1)) := by
  obtain ⟨h1, h2, h3, h4⟩ := h
  refine .inl ⟨a, _, rfl, h1, by rw [List.length_map]; omega, fun x hx => ?_, ?_⟩
  · obtain ⟨i, _, rfl⟩ := List.mem_map.mp hx
    exact .int i
  · rw [all_cnt h2, List.length_map, Bool.and_true]
section
variable {P : Program} {w : World} {K : PySem.W.Frag} {mg : Str → Option Value} {base : Heap} {f : Addr} {fd : FuncData}
/-- a list of forms for m unknowns, a's and their numbers -/
def Fs (H : Hp) (la : Addr) (m : Nat) (ps : List (Addr × List Int)) : Prop := H la = some (.lst (ps.map fun p => V.ref p.1)) ∧ ∀ p ∈ ps, H p.1 = some (.tup (p.2.map V.int)) ∧ p.2.length = m + 1 ∧ ∀ x ∈ p.2, Sz 1000 x
theorem Fs.keep {H H' : Hp} (s : Same H H') {la : Addr} {m : Nat} {ps : List (Addr × List Int)} (h : Fs H la m ps) : Fs H' la m ps := ⟨s _ _ h.1, fun p hp => ⟨s _ _ (h.2 p hp).1, (h.2 p hp).2⟩⟩
def spReqForms : Sp := fun vs H Q _ => ∃ (la : Addr) (m : Nat) (ps : List (Addr × List Int)), vs = [.ref la, .int m, .int ps.length] ∧ m ≤ 3 ∧ ps.length ≤ 3 ∧ Fs H la m ps ∧ ∀ H', Same H H' → Q .non H'
theorem ok_reqForms (F : FnP K "require_forms" sReqForms f fd) (o_form : Ok P w K mg base "has_form" 3 ["many", "item"] spHasForm) (z_isinstance : mg "isinstance" = none) (z_list : mg "list" = none) (z_len : mg "len" = none) (z_all : mg "all" = none) :
    FnOk P w K mg base CX0 4 f fd ["forms", "many", "how_many"] spReqForms := by
  have nd := scReqForms.nd
  refine F.ok scReqForms (fun vs H Q E h => ?_) (fun cdv A outer s H vs Q E hr h => ?_)
  · obtain ⟨la, m, ps, rfl, _⟩ := h
    rfl
  · obtain ⟨la, m, ps, rfl, hm, hn, hF, q⟩ := h
    have r3 : Room 3 (A.deeper (envOfC "require_forms" (defScope sReqForms) s.heap.objs.size f cdv)) := hr
    refine ⟨_, PSs.nox (pss_cons (ps_if (PW.pt (pw_or (pt_not (pt_val (pe_callB call_isi (by rfl) z_isinstance (by decide +kernel) (pa_cons (pv 0) (pa_cons (pe_bltn (v := .ty "list") (by rfl) z_list (by decide +kernel) rfl) pa_nil))))) (pw_or1 (pt_cmpR op_ne (pe_callB call_len (by rfl) z_len boot_len (pa_cons (pv 0) pa_nil)) (pv 2) (nomark _))))) (pss_one (ps_never)) pss_nil)
      (pss_one (ps_if (pt_not (pt_val (pe_callB (cr_all rfl) (by rfl) z_all (by decide +kernel) (pa_cons
        (pe_lc (own := [("form", 3)]) (g := gName 3) (by rfl) nd (pi_list (pv 0)) (blkOk_by (N := ["forms", "many", "how_many", "form"]) (sc := defScope sReqForms) (own := [("form", 3)]) (by decide +kernel)) (fun _ _ _ _ _ => pg_name (i := 3) nd rfl (Or.inl rfl)) (fun _ _ _ _ _ => pts_nil)
          (fun _ _ _ _ _ => pe_callO o_form r3 (by rfl) (pa_cons (pv 1) (pa_cons (pv 3) pa_nil)))) pa_nil)))) (pss_one (ps_never)) pss_nil))), ?_⟩
    have en : (!decide (V.int ((ps.map fun p => V.ref p.1).length : Int) = V.int (ps.length : Int))) = false := by
      rw [List.length_map, decide_eq_true rfl]
      rfl
    refine ⟨_, rfl, _, _, _, _, true, rfl, .ty "list", .base (.lst hF.1), kit_ty (by decide +kernel), _, rfl, iteF ⟨_, rfl, _, _, rfl, .inl ⟨_, SqL.of hF.1, rfl⟩, _, rfl, rfl, false, congrArg V.bl en, iteF ?_⟩⟩
    refine ⟨_, rfl, la, rfl, ⟨_, SqL.of hF.1⟩, fun D nD => lc_list (K := K) (a := la) (xs := ps.map fun p => V.ref p.1) (fun k H' => Same H H' ∧ H' D = some (.lst (((List.replicate k true)).map V.bl))) ⟨same_new nD, upd_same⟩ (fun k H' _ p => SqL.of (p.1 _ _ hF.1)) ?_ ?_⟩
    · rintro j y H' hj ⟨sm, hD⟩
      rw [List.getElem?_map] at hj
      obtain ⟨p, ep, rfl⟩ := Option.map_eq_some_iff.mp hj
      have lj : j < ps.length := (List.getElem?_eq_some_iff.mp ep).1
      obtain ⟨h1, h2, h3⟩ := hF.2 p (List.mem_of_getElem? ep)
      refine ⟨rfl, ?_⟩
      refine ⟨_, rfl, _, rfl, m, .ref p.1, true, rfl, .inl ⟨p.1, _, rfl, sm _ _ h1, by rw [List.length_map]; omega, fun x hx => ?_, ?_⟩, fun H2 s2 => ⟨_, s2 _ _ hD, ?_, fun b o e => ?_, ?_⟩⟩
      · obtain ⟨i, _, rfl⟩ := List.mem_map.mp hx
        exact .int i
      · rw [all_cnt (fun x hx => (h3 x hx).1), List.length_map, decide_eq_true h2]
        rfl
      · rw [List.length_map, List.length_replicate]
        exact small1000 (by omega)
      · rw [upd_ne (ne_of_none (H := H) e nD)]
        exact s2 _ _ (sm _ _ e)
      · rw [upd_same, List.replicate_succ', List.map_append]
        rfl
    · rintro H' ⟨sm, hD⟩
      refine ⟨D, _, rfl, SqL.of hD, true, ?_, iteF (q H' sm)⟩
      exact congrArg V.bl (by rw [List.all_replicate]; simp)
end
end K5
set_option Elab.async false
set_option linter.all false
set_option maxRecDepth 100000
set_option maxHeartbeats 4000000
/-! {k: v for .. in ..} with tuples of numbers and texts as keys. -/
namespace XV
open PySem PySem.Spec PyProof.Rows L2
section
variable {X : Cx}
theorem dsetT {pins : List (Addr × Obj)} {τ : L2.St} {Ha Hb : Hp} {st : Shared} {Er : Value → Shared → Prop} {D : Addr} {y v : V} {u r : Value} {Q : Unit → Shared → Prop} (hu : X.A.units < cLine) (I : Inv X pins τ Ha st) (g : DPut Ha D y v Hb) (ry : RelV y u) (rv : RelV v r) (go : ∀ st2, Inv X pins τ Hb st2 → Q () st2) :
    wpAny (model X.prog X.w) X.A (dictSet D u r) Q Er st := by
  rcases g with ⟨es, k, e, rfl, l, rfl⟩ | ⟨es, k, b, e, rfl, eb, l, rfl⟩
  · exact d_dictSet I e l ry rv go
  · cases (show u = Value.ref b from ry)
    obtain ⟨z, nd, xs, rl, dict⟩ := dt_of I.hok e
    have lz : xs.length ≤ sizeLine := Nat.le_trans (Nat.le_of_eq (Paired.length rl).symm) z
    have lp : (putK es k v).length ≤ sizeLine := Nat.le_trans (length_putK es k v) l
    refine wpAny_dictSet_heap (hsz := lz) hu (key_of I.hok eb) dict fun h2 d2 sb => go _ ?_
    obtain ⟨q, fs, ep, hq, c2, c3, c4, _, c5⟩ := d2
    refine d_write I (by rw [e]; exact True.intro) sb ⟨q, hq⟩ ⟨lp, nd, _, (rl.put k eb rv).keeps fun c ys ec => ?_, q, fs, ep, hq, c2, c3, c4, c5⟩
    rw [upd_ne (ne_of ec e (fun z => nomatch z))]
    exact ec
/-- the comprehension's reading: D the new dict, its keys tuples -/
def tDcT (wi : TI) (g : TG) (tt : TT) (tk tv : TE) (vs : List Nat) : TE := fun σ H Q => wi σ H fun J Ha => ∀ D, Ha D = none → ∃ W : Nat → Nat → Hp → Prop, (∃ m, W 0 m (upd Ha D (.dT []))) ∧
  ∀ i m Hc, W i m Hc → (J.stop i Hc ∧ Q (.ref D) Hc) ∨ (J.go i Hc ∧ ∃ Nx : Hp → Prop, (∀ Hd, Nx Hd → ∃ m', m' < m ∧ W (i + 1) m' Hd) ∧
    ∀ x Hd, J.yld i Hc x Hd → g x (wipe σ vs) Hd fun σ2 He => wipe σ2 vs = wipe σ vs ∧ tt σ2 He fun b Hf => if b = true then tk σ2 Hf fun y Hg => tv σ2 Hg fun z Hh => ∃ Hi, DPut Hh D y z Hi ∧ Nx Hi else Nx Hf)
theorem pe_dcT {kx vx tg src : Expr} {conds : List Expr} {sc : Scope} {own : List (Str × Nat)} {ps0 : Pos} {wi : TI} {g : TG} {tt : TT} {tk tv : TE} (hu : X.A.units < cLine) (calm : X.calm = true) (nd : X.N.Nodup) (hi : PI X tg src wi) (bk : BlkOk X.N X.env.scope sc own)
    (hg : ∀ st Ha C cl fp, PG (X.blk st Ha sc (compEnvC sc cl C X.env) fp) tg g) (ht : ∀ st Ha C cl fp, PTs (X.blk st Ha sc (compEnvC sc cl C X.env) fp) conds tt)
    (hk : ∀ st Ha C cl fp, PE (X.blk st Ha sc (compEnvC sc cl C X.env) fp) kx tk) (hv : ∀ st Ha C cl fp, PE (X.blk st Ha sc (compEnvC sc cl C X.env) fp) vx tv)
    (hs : ∀ x, foldedSetIterable src X.env x = pure x := by intro _; rfl) : PE X (.DictComp kx vx [⟨tg, src, conds, 0⟩] sc ps0) (tDcT wi g tt tk tv (own.map (·.2))) := by
  refine ⟨fun pins st τ Ha Q I h => ?_⟩
  rw [arm_eval_DictComp]
  have free : ∀ y ∈ sc.names, y.2 = .free → ∃ c, X.env.cells.lookup y.1 = some c := fun y hy e => (bk.free y hy e).elim (fun k => I.ok.has _ (.inl k)) fun k => I.ok.has _ (.inr k)
  refine wpAny_comprehension_free (use := none) rfl hs (closure_ok free) bk.kind (fun y hy e => by rw [bk.uniq y hy, e]) (thn (hi.run pins st τ Ha _ I h) fun xv st1 hx => thn hx fun itv st2 h2 => ?_)
  obtain ⟨it, fp, tn, J, H2, rfl, I2, T, on2, fp2, q⟩ := h2
  refine wpAny_newObj_type (newEnv_comp ?_)
  obtain ⟨D, hD⟩ : ∃ D, st2.heap.objs.size = D := ⟨_, rfl⟩
  rw [hD]
  have fresh : H2 D = none := I2.hok.fresh (Nat.le_of_eq hD)
  obtain ⟨W, ⟨m0, w0⟩, turn⟩ := q D fresh
  obtain ⟨st3, e3⟩ : ∃ st3 : Shared, ({ st2 with heap := st2.heap.push { cls := .type "dict", data := .dict #[] } } : Shared) = st3 := ⟨_, rfl⟩
  have I3 : Inv X pins τ (upd H2 D (.dT [])) st3 := e3 ▸ I2.laid (t' := st2.toks) (fun b o e => Heap.get?_push_of_some _ e) (Nat.le_of_eq hD) (hD ▸ dt_empty st2.heap I2.big)
  have hp3 : st3.heap = st2.heap.push { cls := .type "dict", data := .dict #[] } := by rw [← e3]
  have low : ∀ b ∈ fp, b < st2.heap.objs.size := fun b hb => let ⟨o, e, _⟩ := T.obj _ _ on2 b hb; Heap.lt_size e
  have fp3 : ∀ b ∈ fp, FpOk X pins (upd H2 D (.dT [])) b ∧ b < st3.heap.objs.size := fun b hb => by
    have lt := low b hb
    refine ⟨⟨?_, (fp2 b hb).2⟩, by rw [hp3, Heap.size_push]; exact Nat.lt_succ_of_lt lt⟩
    rw [upd_ne (hD ▸ Nat.ne_of_lt lt)]
    exact (fp2 b hb).1
  have on3 : tn 0 st3.heap := T.keep _ _ _ on2 fun b _ o e => hp3 ▸ Heap.get?_push_of_some _ e
  have I4 := block_start I3 bk nd fp3
  obtain ⟨cl, ecl⟩ : ∃ cl, cellsFrom (st3.heap.objs.size + 1) sc.names (cloFrom X.env.cells sc.names []) = cl := ⟨_, rfl⟩
  have pG := hg st3 (upd H2 D (.dT [])) st3.heap.objs.size cl fp
  have pT := ht st3 (upd H2 D (.dT [])) st3.heap.objs.size cl fp
  have pK := hk st3 (upd H2 D (.dT [])) st3.heap.objs.size cl fp
  have pV := hv st3 (upd H2 D (.dT [])) st3.heap.objs.size cl fp
  rw [ecl] at I4
  have none3 : ∀ b ∈ fp, (upd H2 D (.dT [])) b = none := fun b hb => (fp3 b hb).1.1
  obtain ⟨ce, ece⟩ : ∃ ce, compEnvC sc cl st3.heap.objs.size X.env = ce := ⟨_, rfl⟩
  have locs : ce.locals = st3.heap.objs.size := by rw [← ece]; rfl
  obtain ⟨st4, e4⟩ : ∃ st4 : Shared, ({ st3 with heap := pushCells (st3.heap.push { cls := .type "dict", data := .dict #[] }) sc.names } : Shared) = st4 := ⟨_, rfl⟩
  rw [ece] at I4 pG pT pK pV
  show codeAny _ _ (.compStart (.DictComp kx vx [⟨tg, src, conds, 0⟩] sc ps0) 0 (.ref it) (.ref D) (compEnvC sc (cellsFrom (({ st2 with heap := st2.heap.push { cls := .type "dict", data := .dict #[] } } : Shared).heap.objs.size + 1) sc.names (cloFrom X.env.cells sc.names [])) ({ st2 with heap := st2.heap.push { cls := .type "dict", data := .dict #[] } } : Shared).heap.objs.size X.env)) _ { ({ st2 with heap := st2.heap.push { cls := .type "dict", data := .dict #[] } } : Shared) with heap := pushCells (({ st2 with heap := st2.heap.push { cls := .type "dict", data := .dict #[] } } : Shared).heap.push { cls := .type "dict", data := .dict #[] }) sc.names }
  rw [e3, e4, ecl, ece]
  rw [e4] at I4
  generalize eH3 : upd H2 D (.dT []) = H3 at *
  have on4 : tn 0 st4.heap := T.keep _ _ _ on3 fun b _ o e => e4 ▸ pushCells_keeps _ _ _ _ (Heap.get?_push_of_some _ e)
  have fixed : ∀ {τ2 : L2.St} {Hn : Hp} {sn : Shared}, Inv (X.blk st3 H3 sc ce fp) [] τ2 Hn sn → (∀ b ∈ fp, Hn b = none) → ∀ b ∈ fp, FpOk (X.blk st3 H3 sc ce fp) [] Hn b := fun {τ2 Hn sn} In nn b hb =>
    ⟨nn b hb, (In.ok.exf b hb).1, In.ok.exfs b hb, .inl hb, fun x c e => (In.ok.exf b hb).2 x c e, fun p hp => absurd (show p ∈ ([] : List (Addr × Obj)) ++ [] from hp) (by simp)⟩
  refine codeAny_compStart_dict ?_ (T.self X.A 0 _ _ _ on4 ?_)
  all_goals
    refine compLoop_anyD (fun n sn => ∃ i Hn, Inv (X.blk st3 H3 sc ce fp) [] (wipe τ (own.map (·.2))) Hn sn ∧ tn i sn.heap ∧ (∀ b ∈ fp, Hn b = none) ∧ W i n Hn) ?_ m0 ⟨0, H3, I4, on4, none3, w0⟩
    rintro n st5 ⟨i, H5, I5, on5, none5, w5⟩
    rcases turn i n H5 w5 with ⟨stop, fin⟩ | ⟨go, Nx, hNx, step⟩
    · refine thnF (T.done (X.blk st3 H3 sc ce fp) rfl rfl rfl calm i [] st5 _ H5 (fun _ _ => False) I5 (fixed I5 none5) on5 stop) fun r st6 ⟨hr, I6⟩ => ?_
      subst hr
      have I7 : Inv X pins τ H5 st6 := I3.call' (ch := fp) I6.os I6.base I6.hok I6.bare fun b hb => ⟨(fp3 b hb).1.2.2.2.1, (fp3 b hb).1.2.1, (fp3 b hb).1.2.2.2.2.1, (fp3 b hb).1.2.2.2.2.2⟩
      have noC : H5 st3.heap.objs.size = none := locs ▸ (show H5 ce.locals = none from I6.free)
      obtain ⟨m, hn, _⟩ := I6.loc
      have hn : st6.heap.Ns st3.heap.objs.size m := locs ▸ (show st6.heap.Ns ce.locals m from hn)
      obtain ⟨f0, f1, f2, f3, f4, f5⟩ := I3.fpOk (Nat.le_refl _) noC
      refine ⟨m, hn, fun hh sb => ?_⟩
      exact ⟨.ref D, H5, I7.turned (t' := st6.toks) (fun b o hb e => (sb.2 b hb).trans e) noC f1 f3 f4 f5, rfl, fin⟩
    · refine thnF (T.item (X.blk st3 H3 sc ce fp) rfl rfl rfl calm i [] st5 _ H5 (fun _ _ => False) I5 (fixed I5 none5) on5 go) fun r st6 ⟨u, hr, h6⟩ => ?_
      subst hr
      refine thnF h6 fun _ st7 ⟨x, H7, I7, r7, y7, on7, none7⟩ => ?_
      have I7p := I7.pinned (fixed I7 none7) (T.obj _ _ on7)
      refine thnF (pG.run _ st7 _ H7 x u _ I7p r7 (step x H7 y7)) fun _ st8 ⟨τ8, H8, I8, w8, q8⟩ => ?_
      refine thnF (pT.run _ st8 τ8 H8 _ I8 q8) fun b st9 ⟨H9, I9, q9⟩ => ?_
      have next : ∀ {sn : Shared} {Hn : Hp}, Inv (X.blk st3 H3 sc ce fp) ([] ++ pinsAt fp st7.heap) τ8 Hn sn → Nx Hn → ∃ m, m < n ∧ ∃ i Hn, Inv (X.blk st3 H3 sc ce fp) [] (wipe τ (own.map (·.2))) Hn sn ∧ tn i sn.heap ∧ (∀ b ∈ fp, Hn b = none) ∧ W i m Hn := fun {sn Hn} In nx => by
        obtain ⟨m2, hm, w2⟩ := hNx Hn nx
        have pin : ∀ b ∈ fp, ∀ o, st7.heap.get? b = some o → sn.heap.get? b = some o ∧ Hn b = none := fun b hb o e =>
          have z := In.pin (b, o) (List.mem_append_right _ (List.mem_append_right _ (mem_pinsAt hb e)))
          ⟨z.1, z.2.1⟩
        have len : (wipe τ (own.map (·.2))).length = τ8.length := by rw [← w8, wipe_length]
        refine ⟨m2, hm, i + 1, Hn, (In.unpinned (pins := [])).weak len (fun j v e => ?_), T.keep _ _ _ on7 fun b hb o e => (pin b hb o e).1, fun b hb => ?_, w2⟩
        · exact (wipe_some (w8 ▸ e)).1
        · obtain ⟨o, e, _⟩ := T.obj _ _ on7 b hb
          exact (pin b hb o e).2
      cases b with
      | false =>
        rw [if_neg (by decide)] at q9
        rw [if_neg (by decide)]
        exact next I9 q9
      | true =>
        rw [if_pos rfl] at q9
        rw [if_pos rfl]
        refine thnF (pK.run _ st9 τ8 H9 _ I9 q9) fun z st10 ⟨yk, H10, I10, r10, q10⟩ => ?_
        refine thnF (pV.run _ st10 τ8 H10 _ I10 q10) fun z2 st11 ⟨yv, H11, I11, r11, H12, put, nx⟩ => ?_
        exact dsetT (X := X.blk st3 H3 sc ce fp) hu I11 put r10 r11 fun st12 I12 => next I12 nx
/-- over a list that stays -/
theorem dcT_list {K : PySem.W.Frag} {a D : Addr} {xs : List L2.V} {g : TG} {tt : TT} {tk tv : TE} {vs : List Nat} {σ : L2.St} {Ha : Hp} {Qd : Hp → Prop} (Pv : Nat → Hp → Prop) (start : Pv 0 (upd Ha D (.dT []))) (stays : ∀ i Hc, Pv i Hc → SqL K Hc a xs)
    (turn : ∀ i x Hd, xs[i]? = some x → Pv i Hd → g x (wipe σ vs) Hd fun σ2 He => wipe σ2 vs = wipe σ vs ∧ tt σ2 He fun b Hf => if b = true then tk σ2 Hf fun y Hg => tv σ2 Hg fun z Hh => ∃ Hi, DPut Hh D y z Hi ∧ Pv (i + 1) Hi else Pv (i + 1) Hf)
    (after : ∀ Hc, Pv xs.length Hc → Qd Hc) : ∃ W : Nat → Nat → Hp → Prop, (∃ m, W 0 m (upd Ha D (.dT []))) ∧
      ∀ i m Hc, W i m Hc → ((Itl K a).stop i Hc ∧ Qd Hc) ∨ ((Itl K a).go i Hc ∧ ∃ Nx : Hp → Prop, (∀ Hd, Nx Hd → ∃ m', m' < m ∧ W (i + 1) m' Hd) ∧
        ∀ x Hd, (Itl K a).yld i Hc x Hd → g x (wipe σ vs) Hd fun σ2 He => wipe σ2 vs = wipe σ vs ∧ tt σ2 He fun b Hf => if b = true then tk σ2 Hf fun y Hg => tv σ2 Hg fun z Hh => ∃ Hi, DPut Hh D y z Hi ∧ Nx Hi else Nx Hf) := by
  refine ⟨fun i m Hc => m + i = xs.length ∧ Pv i Hc, ⟨xs.length, rfl, start⟩, fun i m Hc ⟨e, p⟩ => ?_⟩
  have q := stays i Hc p
  match m, e with
  | 0, e =>
    have e : i = xs.length := by omega
    subst e
    exact .inl ⟨⟨xs, q, Nat.le_refl _⟩, after Hc p⟩
  | m + 1, e =>
    have lt : i < xs.length := by omega
    refine .inr ⟨⟨xs, xs[i], q, List.getElem?_eq_getElem lt⟩, Pv (i + 1), fun Hd p2 => ⟨m, Nat.lt_succ_self m, by omega, p2⟩, fun x Hd y => ?_⟩
    obtain ⟨rfl, y⟩ := y
    exact turn i x _ (y xs q) p
/-- over the keys of a dict that is locked -/
theorem dcT_keys {a D : Addr} {od : Obj} {kvs : List (List L2.Key × L2.V)} {g : TG} {tt : TT} {tk tv : TE} {vs : List Nat} {σ : L2.St} {Ha : Hp} {Qd : Hp → Prop} (Pv : Nat → Hp → Prop) (start : Pv 0 (upd Ha D (.dT []))) (stays : ∀ i Hc, Pv i Hc → Hc a = some (.frz od (.dT kvs)))
    (turn : ∀ (i : Nat) (k : List L2.Key) (v : L2.V) (q : Addr) Hd, kvs[i]? = some (k, v) → Hd q = some (.tup (k.map kV)) → Pv i Hd → g (.ref q) (wipe σ vs) Hd fun σ2 He => wipe σ2 vs = wipe σ vs ∧ tt σ2 He fun b Hf => if b = true then tk σ2 Hf fun y Hg => tv σ2 Hg fun z Hh => ∃ Hi, DPut Hh D y z Hi ∧ Pv (i + 1) Hi else Pv (i + 1) Hf)
    (after : ∀ Hc, Pv kvs.length Hc → Qd Hc) : ∃ W : Nat → Nat → Hp → Prop, (∃ m, W 0 m (upd Ha D (.dT []))) ∧
      ∀ i m Hc, W i m Hc → ((Itkt a od kvs).stop i Hc ∧ Qd Hc) ∨ ((Itkt a od kvs).go i Hc ∧ ∃ Nx : Hp → Prop, (∀ Hd, Nx Hd → ∃ m', m' < m ∧ W (i + 1) m' Hd) ∧
        ∀ x Hd, (Itkt a od kvs).yld i Hc x Hd → g x (wipe σ vs) Hd fun σ2 He => wipe σ2 vs = wipe σ vs ∧ tt σ2 He fun b Hf => if b = true then tk σ2 Hf fun y Hg => tv σ2 Hg fun z Hh => ∃ Hi, DPut Hh D y z Hi ∧ Nx Hi else Nx Hf) := by
  refine ⟨fun i m Hc => m + i = kvs.length ∧ Pv i Hc, ⟨kvs.length, rfl, start⟩, fun i m Hc ⟨e, p⟩ => ?_⟩
  have q := stays i Hc p
  match m, e with
  | 0, e =>
    have e : i = kvs.length := by omega
    subst e
    exact .inl ⟨⟨q, Nat.le_refl _⟩, after Hc p⟩
  | m + 1, e =>
    have lt : i < kvs.length := by omega
    refine .inr ⟨⟨q, lt⟩, Pv (i + 1), fun Hd p2 => ⟨m, Nat.lt_succ_self m, by omega, p2⟩, fun x Hd y => ?_⟩
    obtain ⟨rfl, k, v, b, ek, rfl, hb⟩ := y
    exact turn i k v b _ ek hb p
end
end XV
set_option Elab.async false
set_option linter.all false
set_option maxRecDepth 100000
set_option maxHeartbeats 4000000
namespace K5
open PySem PySem.Spec PyProof.Rows L2 XV NP
/-! ### pieces led by forms -/
theorem range_cons (m : Nat) (f : Nat → Int) : (List.range (m + 1)).map f = f 0 :: (List.range m).map fun j => f (j + 1) := by
  rw [List.range_succ_eq_map, List.map_cons, List.map_map]
  rfl
def led (m : Nat) (fl : List (List Int)) (p : Pc) : Pc := (p.1, withV p.2.1 p.2.2 fl 0, (List.range m).map fun j => withV p.2.1 p.2.2 fl (j + 1))
theorem fm_led (m : Nat) (fl : List (List Int)) (p : Pc) : fm (led m fl p) = (List.range (m + 1)).map (withV p.2.1 p.2.2 fl) := (range_cons m (withV p.2.1 p.2.2 fl)).symm
def fls (fs : List (Addr × List Int)) : List (List Int) := fs.map (·.2)
/-- the key of a piece's form -/
def fk (p : Pc) : List L2.Key := (fm p).map Sum.inl
theorem fk_map (p : Pc) : (fk p).map kV = (fm p).map L2.V.int := by
  unfold fk
  rw [List.map_map]
  rfl
theorem inl_inj : ∀ {a b : List Int}, a.map (Sum.inl : Int → L2.Key) = b.map Sum.inl → a = b
  | [], [], _ => rfl
  | [], _ :: _, h => by cases h
  | _ :: _, [], h => by cases h
  | x :: a, y :: b, h => by
    rw [List.map_cons, List.map_cons] at h
    injection h with h1 h2
    rw [Sum.inl.inj h1, inl_inj h2]
theorem fk_inj {p q : Pc} (h : fk p = fk q) : p.2 = q.2 := by
  have e : p.2.1 :: p.2.2 = q.2.1 :: q.2.2 := inl_inj h
  injection e with e1 e2
  exact Prod.ext e1 e2
theorem mem_put {κ : Type} [DecidableEq κ] {kvs : List (κ × L2.V)} {k : κ} {v : L2.V} {e : κ × L2.V} (h : e ∈ putK kvs k v) : e.1 = k ∨ ∃ e2 ∈ kvs, e2.1 = e.1 := by
  unfold putK at h
  split at h
  · obtain ⟨a, ha, rfl⟩ := List.mem_map.mp h
    right
    refine ⟨a, ha, ?_⟩
    split <;> rfl
  · rcases List.mem_append.mp h with h | h
    · exact .inr ⟨e, h, rfl⟩
    · rw [List.mem_singleton.mp h]
      exact .inl rfl
abbrev sPW : Stmt := top 63
abbrev nPW : List Str := ["pieces", "many", "forms", "made", "_", "form", "word"]
theorem scPW : FnScope nPW ["pieces", "many", "forms"] (defScope sPW) := ⟨rfl, rfl, rfl, by decide +kernel, rfl, by decide +kernel, by decide +kernel⟩
def spPW : Sp := fun vs H Q _ => ∃ (m m0 kb : Nat) (pl la : Addr) (ps : List Pc) (fs : List (Addr × List Int)), vs = [.ref pl, .int m, .ref la] ∧ m ≤ 3 ∧ m0 ≤ 3 ∧ PL H pl ps ∧ Pq m0 kb ps ∧ Fs H la m fs ∧ fs.length = m0 ∧
  ∀ (H' : Hp) (l : Addr), Same H H' → H l = none → PL H' l (ps.map (led m (fls fs))) → Q (.ref l) H'
section
variable {P : Program} {w : World} {K : PySem.W.Frag} {mg : Str → Option Value} {base : Heap} {f : Addr} {fd : FuncData} {C : Addr}
theorem ok_pw (F : FnP K "pieces_with" sPW f fd) (o_with : Ok P w K mg base "form_with" 2 ["form", "many", "forms"] spWith) : FnOk P w K mg base CX0 3 f fd ["pieces", "many", "forms"] spPW := by
  have nd := scPW.nd
  refine F.ok scPW (fun vs H Q E h => ?_) (fun cdv A outer s H vs Q E hr h => ?_)
  · obtain ⟨m, m0, kb, pl, la, ps, fs, rfl, _⟩ := h
    rfl
  · obtain ⟨m, m0, kb, pl, la, ps, fs, rfl, hm, hm0, ⟨xs, hp, hP⟩, hq, hF, lf, q⟩ := h
    have szl := sizeLine_eq
    have hu := hr.units
    have hu1 : (A.deeper (envOfC "pieces_with" (defScope sPW) s.heap.objs.size f cdv)).units + 1 < cLine := by omega
    have hu0 : (A.deeper (envOfC "pieces_with" (defScope sPW) s.heap.objs.size f cdv)).units < cLine := by omega
    have r2 : Room 2 (A.deeper (envOfC "pieces_with" (defScope sPW) s.heap.objs.size f cdv)) := hr
    have lx := hP.len
    have l90 := hq.l
    have hkk := hq.kk
    refine ⟨_, PSs.nox (pss_cons (ps_set (i := 3) nd rfl (Or.inr rfl)
        (pe_dcT (own := [("_", 4), ("form", 5)]) (g := gTup K 2 (gCons (gName 4) (gCons (gName 5) gNil))) hu0 (by rfl) nd (pi_list (pv 0)) (blkOk_by (N := nPW) (sc := defScope sPW) (own := [("_", 4), ("form", 5)]) (by decide +kernel))
          (fun _ _ _ _ _ => pg_tup rfl (pgs_cons (pg_name (i := 4) nd rfl (Or.inl rfl)) (pgs_cons (pg_name (i := 5) nd rfl (Or.inl rfl)) pgs_nil))) (fun _ _ _ _ _ => pts_nil) (fun _ _ _ _ _ => pv 5) (fun _ _ _ _ _ => pe_bl)))
      (pss_cons (ps_set (i := 3) nd rfl (Or.inr rfl) (pe_lock
        (pe_dcT (own := [("form", 5)]) (g := gName 5) hu0 (by rfl) nd (pi_keys (pv 3)) (blkOk_by (N := nPW) (sc := defScope sPW) (own := [("form", 5)]) (by decide +kernel))
          (fun _ _ _ _ _ => pg_name (i := 5) nd rfl (Or.inl rfl)) (fun _ _ _ _ _ => pts_nil) (fun _ _ _ _ _ => pv 5) (fun _ _ _ _ _ => pe_callO o_with r2 (by rfl) (pa_cons (pv 5) (pa_cons (pv 1) (pa_cons (pv 2) pa_nil)))))))
      (pss_one (ps_ret (pe_lc (own := [("word", 6), ("form", 5)]) (g := gTup K 2 (gCons (gName 6) (gCons (gName 5) gNil))) (by rfl) nd (pi_list (pv 0)) (blkOk_by (N := nPW) (sc := defScope sPW) (own := [("word", 6), ("form", 5)]) (by decide +kernel))
          (fun _ _ _ _ _ => pg_tup rfl (pgs_cons (pg_name (i := 6) nd rfl (Or.inl rfl)) (pgs_cons (pg_name (i := 5) nd rfl (Or.inl rfl)) pgs_nil))) (fun _ _ _ _ _ => pts_nil)
          (fun _ _ _ _ _ => pe_tup (pa_cons (pv 6) (pa_cons (pe_dget hu1 (pv 3) (pv 5) (fun _ _ => rfl)) pa_nil)))))))), ?_⟩
    -- the forms, each once
    refine ⟨_, rfl, pl, rfl, ⟨_, SqL.of hp⟩, fun D nD => dcT_list (K := K) (a := pl) (xs := xs) (fun k H' => Same H H' ∧ ∃ kvs : List (List L2.Key × L2.V), H' D = some (.dT kvs) ∧ kvs.length ≤ k ∧ (∀ p ∈ ps.take k, (valV kvs (fk p)).isSome = true) ∧ ∀ e ∈ kvs, ∃ p ∈ ps, e.1 = fk p)
      ⟨same_new nD, [], upd_same, Nat.le_refl _, fun p hp => (by simp at hp), fun e he => (by cases he)⟩ (fun k H' p => SqL.of (p.1 _ _ hp)) ?_ ?_⟩
    · rintro k y H' hk ⟨sm, kvs, hD, lk, hin, hout⟩
      obtain ⟨p, ep, ⟨t, f1, rfl, ht, hf1⟩⟩ := hP.get hk
      have li : k < 100 := by
        have := (List.getElem?_eq_some_iff.mp ep).1
        omega
      have hf2 : H' f1 = some (.tup ((fk p).map kV)) := by
        rw [fk_map]
        exact sm _ _ hf1
      refine ⟨t, _, rfl, SqT.of (sm _ _ ht), rfl, _, _, rfl, _, _, rfl, rfl, rfl, ?_⟩
      refine ⟨_, rfl, _, DPut.t hD hf2 (by omega), fun b o e => ?_, _, upd_same, Nat.le_trans (length_putK _ _ _) (by omega), fun p2 hp2 => ?_, fun e he => ?_⟩
      · rw [upd_ne (ne_of_none (H := H) e nD)]
        exact sm _ _ e
      · rw [valV_put]
        by_cases c : fk p2 = fk p
        · rw [if_pos c]
          rfl
        · rw [if_neg c]
          rw [List.take_add_one, ep] at hp2
          rcases List.mem_append.mp hp2 with h | h
          · exact hin p2 h
          · have : p2 = p := by simpa using h
            rw [this] at c
            exact absurd rfl c
      · rcases mem_put he with h | ⟨e2, h2, h3⟩
        · exact ⟨p, List.mem_of_getElem? ep, h⟩
        · rw [← h3]
          exact hout e2 h2
    rintro H1 ⟨s1, kvs, hD, lk, hin, hout⟩
    rw [lx, List.take_length] at hin
    -- each form led
    refine ⟨D, .dT kvs, hD, trivial, fun od => ?_⟩
    have s1f : Same H (upd H1 D (.frz od (.dT kvs))) := fun b o e => by
      rw [upd_ne (ne_of_none (H := H) e nD)]
      exact s1 _ _ e
    have h1f : (upd H1 D (.frz od (.dT kvs))) D = some (.frz od (.dT kvs)) := upd_same
    have back : ∀ {H' : Hp}, Same (upd H1 D (.frz od (.dT kvs))) H' → Same H (upd H' D (.dT kvs)) := fun {H'} sm b o e => by
      rw [upd_ne (ne_of_none (H := H) e nD)]
      exact sm _ _ (s1f _ _ e)
    generalize upd H1 D (.frz od (.dT kvs)) = H2 at *
    refine ⟨_, rfl, D, od, rfl, .inr ⟨kvs, h1f, fun D2 nD2 => dcT_keys (a := D) (od := od) (kvs := kvs) (fun k H' => Same H2 H' ∧ ∃ kv2 : List (List L2.Key × L2.V), H' D2 = some (.dT kv2) ∧ kv2.length ≤ k ∧ ∀ e ∈ kvs.take k, ∃ b, valV kv2 e.1 = some (.ref b) ∧ ∀ p, fk p = e.1 → H' b = some (.tup ((fm (led m (fls fs) p)).map L2.V.int)))
      ⟨same_new nD2, [], upd_same, Nat.le_refl _, fun e he => (by simp at he)⟩ (fun k H' p => p.1 _ _ h1f) ?_ ?_⟩⟩
    · rintro k key v qa H' hk hqa ⟨sm, kv2, hD2, lk2, h2⟩
      obtain ⟨p, hp1, ek⟩ := hout _ (List.mem_of_getElem? hk)
      have ek : key = fk p := ek
      subst ek
      have li : k < 100 := by
        have := (List.getElem?_eq_some_iff.mp hk).1
        omega
      have pz := hq.z p hp1
      have hqa2 : H' qa = some (.tup ((p.2.1 :: p.2.2).map L2.V.int)) := by
        rw [hqa, fk_map]
        rfl
      have hF2 := (hF.keep s1f).keep sm
      refine ⟨rfl, ?_⟩
      refine ⟨_, rfl, _, rfl, _, rfl, _, rfl, qa, la, m, p.2.1, p.2.2, fs, rfl, hqa2, hF2.1, by rw [pz.l, lf], by rw [pz.l]; omega, by omega, fun x hx => Sz.le (pz.x x hx) (by omega), fun z hz => hF2.2 z hz, fun H3 r s3 nr hr3 => ?_⟩
      refine ⟨_, DPut.t (s3 _ _ hD2) (s3 _ _ hqa) (by omega), fun b o e => ?_, _, upd_same, Nat.le_trans (length_putK _ _ _) (by omega), fun e he => ?_⟩
      · rw [upd_ne (ne_of_none (H := H2) e nD2)]
        exact s3 _ _ (sm _ _ e)
      · rw [valV_put]
        have keepb : ∀ {b : Addr} {ys : List L2.V} {o : HO}, H3 b = some (.tup ys) → (upd H3 D2 o) b = some (.tup ys) := fun {b ys o} hb => by
          rw [upd_ne (ne_of hb (s3 _ _ hD2) (by intro z; cases z))]
          exact hb
        by_cases c : e.1 = fk p
        · rw [if_pos c]
          refine ⟨r, rfl, fun p2 hp2 => keepb ?_⟩
          have e2 := fk_inj (hp2.trans c)
          exact hr3.trans (by rw [fm_led, e2]; rfl)
        · rw [if_neg c]
          rw [List.take_add_one, hk] at he
          rcases List.mem_append.mp he with h | h
          · obtain ⟨b, e1, e2⟩ := h2 e h
            exact ⟨b, e1, fun p2 hp2 => keepb (s3 _ _ (e2 p2 hp2))⟩
          · have : e = (fk p, v) := by simpa using h
            rw [this] at c
            exact absurd rfl c
    rintro H3 ⟨s3, kv2, hD2, lk2, h2⟩
    rw [List.take_length] at h2
    refine ⟨s3 _ _ h1f, ?_⟩
    have S := back s3
    have hD3 : (upd H3 D (.dT kvs)) D2 = some (.dT kv2) := by
      have ne : D2 ≠ D := fun z => by
        rw [z] at nD2
        rw [nD2] at h1f
        cases h1f
      rw [upd_ne ne]
      exact hD2
    have look : ∀ p ∈ ps, ∃ b, valV kv2 (fk p) = some (.ref b) ∧ (upd H3 D (.dT kvs)) b = some (.tup ((fm (led m (fls fs) p)).map L2.V.int)) := fun p hp1 => by
      obtain ⟨v, hv⟩ := Option.isSome_iff_exists.mp (hin p hp1)
      obtain ⟨e, he, ee⟩ := List.mem_map.mp (valV_in hv)
      obtain ⟨b, e1, e2⟩ := h2 e he
      refine ⟨b, by rw [← ee]; exact e1, ?_⟩
      have hb := e2 p ee.symm
      rw [upd_ne (ne_of hb (s3 _ _ h1f) (by intro z; cases z))]
      exact hb
    generalize upd H3 D (.dT kvs) = H4 at *
    have hp4 := S _ _ hp
    have hP4 := hP.keep S
    -- the pieces
    refine ⟨_, rfl, pl, rfl, ⟨_, SqL.of hp4⟩, fun L nL => lc_list (K := K) (a := pl) (xs := xs) (fun k H' => Same H4 H' ∧ ∃ acc, H' L = some (.lst acc) ∧ Pcs H' acc ((ps.take k).map (led m (fls fs)))) ⟨same_new nL, [], upd_same, .nil⟩ (fun k H' _ p => SqL.of (p.1 _ _ hp4)) ?_ ?_⟩
    · rintro k y H' hk ⟨sm, acc, hL, hA⟩
      obtain ⟨p, ep, ⟨t, f1, rfl, ht, hf1⟩⟩ := hP4.get hk
      have li : k < 100 := by
        have := (List.getElem?_eq_some_iff.mp ep).1
        omega
      have la := hA.len
      rw [List.length_map, List.length_take] at la
      obtain ⟨b, ev, hb⟩ := look p (List.mem_of_getElem? ep)
      have hf2 : H' f1 = some (.tup ((fk p).map kV)) := by
        rw [fk_map]
        exact sm _ _ hf1
      refine ⟨t, _, rfl, SqT.of (sm _ _ ht), rfl, _, _, rfl, _, _, rfl, rfl, rfl, ?_⟩
      refine ⟨_, rfl, _, rfl, _, rfl, D2, .ref b, rfl, (by rw [← ev]; exact DGet.t (sm _ _ hD3) hf2), (by show 2 ≤ sizeLine; decide), fun u nu => ?_⟩
      have su := same_new (o := .tup [.str p.1, .ref b]) nu
      have hL3 := su _ _ hL
      refine ⟨acc, hL3, small1000 (by omega), fun b' o e => ?_, acc ++ [.ref u], upd_same, ?_⟩
      · rw [upd_ne (ne_of_none (H := H4) e nL)]
        exact su _ _ (sm _ _ e)
      · rw [List.take_add_one, ep, List.map_append]
        exact Pcs.updL hL3 (Pcs.snoc (m := led m (fls fs) p) ⟨u, b, rfl, upd_same, su _ _ (sm _ _ hb)⟩ (hA.keep su))
    · rintro H' ⟨sm, acc, hL, hA⟩
      rw [lx, List.take_length] at hA
      exact q H' L (S.trans sm) (Same.none S nL) ⟨acc, hL, hA⟩
end
end K5
set_option Elab.async false
set_option linter.all false
set_option maxRecDepth 100000
set_option maxHeartbeats 4000000
namespace K5
open PySem PySem.Spec PyProof.Rows L2 XV NP
/-! ### require_forms, whatever is handed in; text_with, replaced -/
/-- whether a value is a list of n forms for m unknowns -/
def IsFs (H : Hp) (m n : Nat) (v : L2.V) (b : Bool) : Prop := (∃ (a : Addr) (xs : List L2.V) (bs : List Bool), v = .ref a ∧ H a = some (.lst xs) ∧ xs.length ≤ 10 ∧ bs.length = xs.length ∧ (∀ (i : Nat) x c, xs[i]? = some x → bs[i]? = some c → IsF H m x c) ∧ b = (decide (xs.length = n) && bs.all id)) ∨
  (((∃ a xs, v = .ref a ∧ H a = some (.tup xs)) ∨ (∃ i, v = .int i) ∨ v = .non ∨ (∃ z, v = .bl z) ∨ ∃ z, v = .str z) ∧ b = false)
def spReqFs (K : PySem.W.Frag) : Sp := fun vs H Q E => ∃ (v : L2.V) (m n : Nat) (b : Bool), vs = [v, .int m, .int n] ∧ IsFs H m n v b ∧ (b = true → ∀ H', Same H H' → Q .non H') ∧ (b = false → Rz E H (C4 K 6) v)
section
variable {P : Program} {w : World} {K : PySem.W.Frag} {mg : Str → Option Value} {base : Heap} {f : Addr} {fd : FuncData} {C : Addr}
theorem ok_reqFs (F : FnP K "require_forms" sReqForms f fd) (Z : Cl4 P w K mg base) (o_form : Ok P w K mg base "has_form" 3 ["many", "item"] spHasForm) (z_isinstance : mg "isinstance" = none) (z_list : mg "list" = none) (z_len : mg "len" = none) (z_all : mg "all" = none) :
    FnOk P w K mg base (L2.CX P w) 4 f fd ["forms", "many", "how_many"] (spReqFs K) := by
  have nd := scReqForms.nd
  refine F.ok scReqForms (fun vs H Q E h => ?_) (fun cdv A outer s H vs Q E hr h => ?_)
  · obtain ⟨v, m, n, b, rfl, _⟩ := h
    rfl
  · obtain ⟨v, m, n, b, rfl, hF, q, r⟩ := h
    have r3 : Room 3 (A.deeper (envOfC "require_forms" (defScope sReqForms) s.heap.objs.size f cdv)) := hr
    have r2 := r3.mono (by decide : 2 ≤ 3)
    obtain ⟨fI, fdI, XT⟩ := Z.x 6 (by decide)
    have XT : XCls P w K mg base "InvalidList" "value" (C4 K 6) fI fdI := XT
    refine ⟨_, pss_cons (ps_if (PW.pt (pw_or (pt_not (pt_val (pe_callB call_isi (by rfl) z_isinstance (by decide +kernel) (pa_cons (pv 0) (pa_cons (pe_bltn (v := .ty "list") (by rfl) z_list (by decide +kernel) rfl) pa_nil))))) (pw_or1 (pt_cmpR op_ne (pe_callB call_len (by rfl) z_len boot_len (pa_cons (pv 0) pa_nil)) (pv 2) (nomark _))))) (pss_one (ps_raiseX (nm := "InvalidList") rfl XT r2 (takes_of rfl rfl rfl rfl) (by rfl) (pv 0))) pss_nil)
      (pss_one (ps_if (pt_not (pt_val (pe_callB (cr_all rfl) (by rfl) z_all (by decide +kernel) (pa_cons
        (pe_lc (own := [("form", 3)]) (g := gName 3) (by rfl) nd (pi_list (pv 0)) (blkOk_by (N := ["forms", "many", "how_many", "form"]) (sc := defScope sReqForms) (own := [("form", 3)]) (by decide +kernel)) (fun _ _ _ _ _ => pg_name (i := 3) nd rfl (Or.inl rfl)) (fun _ _ _ _ _ => pts_nil)
          (fun _ _ _ _ _ => pe_callO o_form r3 (by rfl) (pa_cons (pv 1) (pa_cons (pv 3) pa_nil)))) pa_nil)))) (pss_one (ps_raiseX (nm := "InvalidList") rfl XT r2 (takes_of rfl rfl rfl rfl) (by rfl) (pv 0))) pss_nil)), ?_⟩
    rcases hF with ⟨a, xs, bs, rfl, hl, l10, lb, hx, rfl⟩ | ⟨h, rfl⟩
    · have en : (!decide (V.int (xs.length : Int) = V.int (n : Int))) = !decide (xs.length = n) := congrArg (!·) (nat_dec xs.length n)
      refine ⟨_, rfl, _, _, _, _, true, rfl, .ty "list", .base (.lst hl), kit_ty (by decide +kernel), _, rfl, iteF ⟨_, rfl, _, _, rfl, .inl ⟨_, SqL.of hl, rfl⟩, _, rfl, rfl, !decide (xs.length = n), congrArg V.bl en, ?_⟩⟩
      by_cases e : xs.length = n
      · rw [decide_eq_true e, Bool.true_and] at q r
        rw [decide_eq_true e]
        refine iteF ?_
        refine ⟨_, rfl, a, rfl, ⟨_, SqL.of hl⟩, fun D nD => lc_list (K := K) (a := a) (xs := xs) (fun k H' => Same H H' ∧ H' D = some (.lst ((bs.take k).map V.bl))) ⟨same_new nD, upd_same⟩ (fun k H' _ p => SqL.of (p.1 _ _ hl)) ?_ ?_⟩
        · rintro j y H' hj ⟨sm, hD⟩
          have lj : j < xs.length := (List.getElem?_eq_some_iff.mp hj).1
          have ec : bs[j]? = some bs[j] := List.getElem?_eq_getElem (by omega)
          refine ⟨rfl, ?_⟩
          refine ⟨_, rfl, _, rfl, m, y, bs[j], rfl, (hx j y _ hj ec).keep sm, fun H2 s2 => ⟨_, s2 _ _ hD, ?_, fun b o e => ?_, ?_⟩⟩
          · rw [List.length_map]
            exact small1000 (Nat.le_trans (List.length_take_le _ _) (by omega))
          · rw [upd_ne (ne_of_none (H := H) e nD)]
            exact s2 _ _ (sm _ _ e)
          · rw [upd_same, List.take_add_one, ec, List.map_append]
            rfl
        · rintro H' ⟨sm, hD⟩
          rw [List.take_of_length_le (by omega)] at hD
          refine ⟨D, _, rfl, SqL.of hD, bs.all id, rfl, ?_⟩
          cases e2 : bs.all id with
          | true => exact iteF (q e2 H' sm)
          | false => exact iteT ⟨_, rfl, fun d nd => r e2 H' d sm nd⟩
      · rw [decide_eq_false e, Bool.false_and] at r
        rw [decide_eq_false e]
        exact iteT ⟨_, rfl, fun d nd => r rfl H d (Same.refl _) nd⟩
    · have fin := r rfl
      rcases h with ⟨a, xs, rfl, h⟩ | ⟨i, rfl⟩ | rfl | ⟨z, rfl⟩ | ⟨z, rfl⟩
      · exact ⟨_, rfl, _, _, _, _, false, rfl, .ty "list", .base (.tup h), kit_ty (by decide +kernel), false, rfl, iteT ⟨_, rfl, fun d nd => fin H d (Same.refl _) nd⟩⟩
      · exact ⟨_, rfl, _, _, _, _, false, rfl, .ty "list", .base (.int i), kit_ty (by decide +kernel), false, rfl, iteT ⟨_, rfl, fun d nd => fin H d (Same.refl _) nd⟩⟩
      · exact ⟨_, rfl, _, _, _, _, false, rfl, .ty "list", .base .non, kit_ty (by decide +kernel), false, rfl, iteT ⟨_, rfl, fun d nd => fin H d (Same.refl _) nd⟩⟩
      · exact ⟨_, rfl, _, _, _, _, false, rfl, .ty "list", .base (.bl z), kit_ty (by decide +kernel), false, rfl, iteT ⟨_, rfl, fun d nd => fin H d (Same.refl _) nd⟩⟩
      · exact ⟨_, rfl, _, _, _, _, false, rfl, .ty "list", .base (.str z), kit_ty (by decide +kernel), false, rfl, iteT ⟨_, rfl, fun d nd => fin H d (Same.refl _) nd⟩⟩
end
theorem Fs.is {H : Hp} {la : Addr} {m : Nat} {fs : List (Addr × List Int)} (h : Fs H la m fs) (hm : m ≤ 3) (h3 : fs.length ≤ 3) : IsFs H m fs.length (.ref la) true := by
  refine .inl ⟨la, _, List.replicate fs.length true, rfl, h.1, by rw [List.length_map]; omega, by rw [List.length_replicate, List.length_map], fun i x c hi hc => ?_, ?_⟩
  · rw [List.getElem?_map] at hi
    obtain ⟨p, ep, rfl⟩ := Option.map_eq_some_iff.mp hi
    obtain ⟨h1, h2, h4⟩ := h.2 p (List.mem_of_getElem? ep)
    have : c = true := (List.mem_replicate.mp (List.mem_of_getElem? hc)).2
    subst this
    refine .inl ⟨p.1, _, rfl, h1, by rw [List.length_map]; omega, fun x hx => ?_, ?_⟩
    · obtain ⟨i, _, rfl⟩ := List.mem_map.mp hx
      exact .int i
    · rw [all_cnt (fun x hx => (h4 x hx).1), List.length_map, decide_eq_true h2]
      rfl
  · rw [List.length_map, decide_eq_true rfl, List.all_replicate]
    simp
abbrev sTW : Stmt := top 62
abbrev sReplaced : Stmt := top 57
theorem scTW : FnScope ["text", "many", "forms", "pieces", "led"] ["text", "many", "forms"] (defScope sTW) := ⟨rfl, rfl, rfl, by decide +kernel, rfl, by decide +kernel, by decide +kernel⟩
theorem scReplaced : FnScope ["text", "many", "forms"] ["text", "many", "forms"] (defScope sReplaced) := ⟨rfl, rfl, rfl, by decide +kernel, rfl, by decide +kernel, by decide +kernel⟩
/-- the text itself, or a new one -/
def RP (K : PySem.W.Frag) (C : Addr) (E : XK) (H : Hp) (x : Addr) (m m0 kb : Nat) (d : List Pc) (fl : List (List Int)) (Q : VK) : Prop :=
  (m = m0 → d.map (led m fl) = d → ∀ H', Same H H' → Q (.ref x) H') ∧ (¬ (m = m0 ∧ d.map (led m fl) = d) → Mk2 K C E H m kb (d.map (led m fl)) Q)
def spTW (K : PySem.W.Frag) (C : Addr) : Sp := fun vs H Q E => ∃ (x la : Addr) (m m0 kb kb2 : Nat) (d : List Pc) (fs : List (Addr × List Int)), vs = [.ref x, .int m, .ref la] ∧ Tx C H x m0 d ∧ m ≤ 3 ∧ m0 ≤ 3 ∧ Pq m0 kb d ∧ Fs H la m fs ∧ fs.length = m0 ∧ RP K C E H x m m0 kb2 d (fls fs) Q
def spReplaced (K : PySem.W.Frag) (C : Addr) : Sp := fun vs H Q E => ∃ u v t, vs = [u, v, t] ∧ ((NoT K H u ∧ Rz E H (C4 K 0) u) ∨ ∃ x m0 d, u = .ref x ∧ Tx C H x m0 d ∧ Kn H v ∧ ((belV 4 v = false ∧ Rz E H (C4 K 3) v) ∨ ∃ m : Nat, v = .int m ∧ m ≤ 3 ∧
  ((IsFs H m m0 t false ∧ Rz E H (C4 K 6) t) ∨ ∃ (la : Addr) (kb kb2 : Nat) (fs : List (Addr × List Int)), t = .ref la ∧ m0 ≤ 3 ∧ Pq m0 kb d ∧ Fs H la m fs ∧ fs.length = m0 ∧ RP K C E H x m m0 kb2 d (fls fs) Q)))
section
variable {P : Program} {w : World} {K : PySem.W.Frag} {mg : Str → Option Value} {base : Heap} {f : Addr} {fd : FuncData} {C : Addr}
theorem ok_tw (F : FnP K "text_with" sTW f fd) (T : TT K mg C) (o_mk : OkMkT P w K mg base C) (o_many : OkMt P w K mg base C "many" (spManyT C)) (o_pieces : OkMt P w K mg base C "pieces" (spPiecesT C)) (o_pw : Ok P w K mg base "pieces_with" 3 ["pieces", "many", "forms"] spPW) : FnOk P w K mg base (L2.CX P w) 8 f fd ["text", "many", "forms"] (spTW K C) := by
  have nd := scTW.nd
  refine F.ok scTW (fun vs H Q E h => ?_) (fun cdv A outer s H vs Q E hr h => ?_)
  · obtain ⟨x, la, m, m0, kb, kb2, d, fs, rfl, _⟩ := h
    rfl
  · obtain ⟨x, la, m, m0, kb, kb2, d, fs, rfl, hx, hm, hm0, hq, hF, lf, q1, q2⟩ := h
    have hu := hr.units
    have r7 : Room 7 (A.deeper (envOfC "text_with" (defScope sTW) s.heap.objs.size f cdv)) := hr
    have r3 := r7.mono (by decide : 3 ≤ 7)
    have r1 := r7.mono (by decide : 1 ≤ 7)
    refine ⟨_, pss_cons (ps_set (i := 3) nd rfl (Or.inl rfl) (pe_piecesT o_pieces T (pv 0) r1))
      (pss_cons (ps_set (i := 4) nd rfl (Or.inl rfl) (pe_callO o_pw r3 (by rfl) (pa_cons (pv 3) (pa_cons (pv 1) (pa_cons (pv 2) pa_nil)))))
      (pss_cons (ps_if (PW.pt (pw_and (pt_cmpR op_eq (pv 1) (pe_manyT o_many T (pv 0) r1) (nomark _)) (pw_and1 (pt_cmpR (op_eqD hu) (pv 4) (pv 3) (nomark _))))) (pss_one (ps_ret (pv 0))) pss_nil)
      (pss_one (ps_ret (pe_mkX (E := E) o_mk (takes_of rfl rfl rfl rfl) r7 (by rfl) (pv 1) (pv 4)))))), ?_⟩
    refine ⟨_, rfl, x, m0, d, rfl, hx, fun H1 p1 s1 np1 hp1 => ?_⟩
    refine ⟨_, rfl, _, rfl, _, rfl, m, m0, kb, p1, la, d, fs, rfl, hm, hm0, hp1, hq, hF.keep s1, lf, fun H2 l s2 nl hl => ?_⟩
    have S := s1.trans s2
    have hp2 := hp1.keep s2
    have hx2 := hx.keep S
    have ab : ∀ p ∈ d, AB p.1 := fun p hp => (hq.w p hp).1
    have abl : ∀ p ∈ d.map (led m (fls fs)), AB p.1 := fun p hp => by
      obtain ⟨p0, h0, rfl⟩ := List.mem_map.mp hp
      exact ab p0 h0
    refine ⟨_, rfl, _, rfl, x, m0, d, rfl, hx2, rfl, _, congrArg V.bl (nat_dec m m0), ?_⟩
    by_cases em : m = m0
    · rw [decide_eq_true em]
      refine iteT ⟨_, rfl, _, rfl, psD (d.map (led m (fls fs))), psD d, pl_dp hl, pl_dp hp2, ps_shaped abl, ps_shaped ab, ?_⟩
      rw [eqv_D]
      by_cases ed : d.map (led m (fls fs)) = d
      · rw [decide_eq_true ed]
        exact ⟨true, rfl, iteT ⟨_, rfl, q1 em ed H2 S⟩⟩
      · rw [decide_eq_false ed]
        obtain ⟨pq, rz, md⟩ := q2 fun z => ed z.2
        exact ⟨false, rfl, iteF ⟨_, rfl, _, rfl, m, kb2, l, _, rfl, rfl, hm, hl, pq, fun gt => (rz gt).at S, fun le => (md le).keep S⟩⟩
    · rw [decide_eq_false em]
      obtain ⟨pq, rz, md⟩ := q2 fun z => em z.1
      exact iteF ⟨_, rfl, _, rfl, m, kb2, l, _, rfl, rfl, hm, hl, pq, fun gt => (rz gt).at S, fun le => (md le).keep S⟩
theorem ok_replaced (F : FnP K "replaced" sReplaced f fd) (T : TT K mg C) (o_text : OkX P w K mg base "require_text" 3 ["text"] (spReqText K C)) (o_rmany : OkX P w K mg base "require_many" 4 ["many"] (spReqMany K)) (o_rfs : OkX P w K mg base "require_forms" 4 ["forms", "many", "how_many"] (spReqFs K)) (o_many : OkMt P w K mg base C "many" (spManyT C))
    (o_tw : OkX P w K mg base "text_with" 8 ["text", "many", "forms"] (spTW K C)) : FnOk P w K mg base (L2.CX P w) 9 f fd ["text", "many", "forms"] (spReplaced K C) := by
  refine F.ok scReplaced (fun vs H Q E h => ?_) (fun cdv A outer s H vs Q E hr h => ?_)
  · obtain ⟨u, v, t, rfl, _⟩ := h
    rfl
  · obtain ⟨u, v, t, rfl, h⟩ := h
    have r8 : Room 8 (A.deeper (envOfC "replaced" (defScope sReplaced) s.heap.objs.size f cdv)) := hr
    have r4 := r8.mono (by decide : 4 ≤ 8)
    have r3 := r8.mono (by decide : 3 ≤ 8)
    have r1 := r8.mono (by decide : 1 ≤ 8)
    refine ⟨_, pss_cons (ps_expr (pe_callX (E := E) o_text (takes_of rfl rfl rfl rfl) r3 (by rfl) (pa_cons (pv 0) pa_nil)))
      (pss_cons (ps_expr (pe_callX (E := E) o_rmany (takes_of rfl rfl rfl rfl) r4 (by rfl) (pa_cons (pv 1) pa_nil)))
      (pss_cons (ps_expr (pe_callX (E := E) o_rfs (takes_of rfl rfl rfl rfl) r4 (by rfl) (pa_cons (pv 2) (pa_cons (pv 1) (pa_cons (pe_manyT o_many T (pv 0) r1) pa_nil)))))
      (pss_one (ps_ret (pe_callX (E := E) o_tw (takes_of rfl rfl rfl rfl) r8 (by rfl) (pa_cons (pv 0) (pa_cons (pv 1) (pa_cons (pv 2) pa_nil)))))))), ?_⟩
    rcases h with ⟨n, r⟩ | ⟨x, m0, d, rfl, hx, kn, h⟩
    · exact ⟨_, rfl, _, rfl, .inr ⟨n, r⟩⟩
    refine ⟨_, rfl, _, rfl, .inl ⟨x, m0, d, rfl, hx, ?_⟩⟩
    rcases h with ⟨e, r⟩ | ⟨m, rfl, hm, h⟩
    · exact ⟨_, rfl, v, rfl, kn, (fun z => by rw [e] at z; cases z), fun _ => r⟩
    have eb : belV 4 (.int (m : Int)) = true := by
      show (decide (0 ≤ (m : Int)) && decide ((m : Int) < 4)) = true
      rw [decide_eq_true (by omega), decide_eq_true (by omega)]
      rfl
    refine ⟨_, rfl, _, rfl, kn, fun _ => ?_, fun z => by rw [eb] at z; cases z⟩
    refine ⟨_, rfl, _, rfl, _, rfl, x, m0, d, rfl, hx, ?_⟩
    rcases h with ⟨i, r⟩ | ⟨la, kb, kb2, fs, rfl, hm0, hq, hF, lf, rp⟩
    · exact ⟨t, m, m0, false, rfl, i, (fun z => nomatch z), fun _ => r⟩
    have isf : IsFs H m m0 (.ref la) true := by
      have := hF.is hm (by omega)
      rw [lf] at this
      exact this
    refine ⟨_, m, m0, true, rfl, isf, fun _ H1 s1 => ?_, (fun z => nomatch z)⟩
    refine ⟨_, rfl, _, rfl, _, rfl, x, la, m, m0, kb, kb2, d, fs, rfl, hx.keep s1, hm, hm0, hq, hF.keep s1, lf, fun e1 e2 H' s' => rp.1 e1 e2 H' (s1.trans s'), fun ne => ?_⟩
    obtain ⟨pq, rz, md⟩ := rp.2 ne
    exact ⟨pq, fun gt => (rz gt).at s1, fun le => (md le).keep s1⟩
end
end K5
set_option Elab.async false
set_option linter.all false
set_option maxRecDepth 100000
set_option maxHeartbeats 400000
/-! next of a zip of two or three lists, whatever became of the tuple that it handed out last. -/
namespace XV
open PySem
open PySem.Sem (wp)
theorem ad {a b : Nat} (h : a ≠ b) : @Ne Addr a b := h
/-- a zip's cell: what it keeps of the tuple that it handed out last, whether it was seen to be held -/
abbrev ZS (h : Heap) (q a b : Addr) (f0 : Value) (f1 : Bool) : Prop := h.get? q = some { cls := .type "zip", dict := none, data := .fields #[f0, .bool f1, .bool false, .ref a, .ref b], slots := #[] }
def OwnV (f0 : Value) : Prop := f0 = .none ∨ ∃ a : Nat, f0 = rawInt a
section
variable {prog : Program} {w : World} {A : Around} {E : Value → Shared → Prop} {s : Shared}
theorem alive_any {a : Addr} {Q : Option Obj → Shared → Prop} (h : Q (s.heap.get? a) s) : wpAny (model prog w) A (loadIfAlive a) Q E s := fun _ _ _ => h
theorem own_free {q a b : Addr} {f0 : Value} {f1 : Bool} {Q : Bool → Shared → Prop} (hz : ZS s.heap q a b f0 f1) (hf : OwnV f0) (h1 : Q true s)
    (h2 : ∀ h, ZS h q a b f0 true → Heap.SameBut q s.heap h → Q false { s with heap := h }) : wpAny (model prog w) A (Builtin.SmallTypes.ownedTupleIsFree (.ref q)) Q E s := by
  unfold Builtin.SmallTypes.ownedTupleIsFree
  refine wpAny_bind (wpAny_field (x := f0) hz rfl rfl ?_)
  rcases hf with rfl | ⟨t, rfl⟩
  · exact wpAny_pure h1
  · show wpAny _ _ (loadIfAlive _ >>= _) _ _ _
    refine wpAny_bind (alive_any ?_)
    cases s.heap.get? ((t : Int).toNat) with
    | none => exact wpAny_pure h1
    | some o =>
      refine wpAny_bind (wpAny_field (x := .bool f1) hz rfl rfl ?_)
      cases f1 with
      | true => exact wpAny_pure (h2 s.heap hz (Heap.SameBut.refl _ _))
      | false => exact wpAny_bind (wpAny_setField_rec hz (by simp) fun h hh hs => wpAny_pure (h2 h hh hs))
theorem zip2_item {N l1 l2 i : Nat} {f0 : Value} {f1 : Bool} {q1 q2 x1 x2 : Value} {us1 us2 : Array Value} {Q : Value → Shared → Prop} (b1 : l1 < N) (b2 : l2 < N)
    (hz : ZS s.heap (N + 4) (N + 2) (N + 3) f0 f1) (hf : OwnV f0) (hI : s.heap.get? (N + 2) = some { cls := .type "tuple", data := .seq #[.ref (N + 0), .ref (N + 1)] }) (hO : s.heap.get? (N + 3) = some { cls := .type "tuple", data := .seq #[q1, q2] })
    (t1 : s.heap.IsListIter (N + 0) l1 i) (L1 : s.heap.IsList l1 us1) (t2 : s.heap.IsListIter (N + 1) l2 i) (L2 : s.heap.IsList l2 us2) (e1 : us1[i]? = some x1) (e2 : us2[i]? = some x2)
    (hQ : ∀ h, (∃ g0 g1, OwnV g0 ∧ ZS h (N + 4) (N + 2) (N + 3) g0 g1) → (∃ q1 q2, h.get? (N + 3) = some { cls := .type "tuple", data := .seq #[q1, q2] }) → h.IsListIter (N + 0) l1 (i + 1) → h.IsListIter (N + 1) l2 (i + 1) → h.get? s.heap.objs.size = some { cls := .type "tuple", data := .seq #[x1, x2] } → h.objs.size = s.heap.objs.size + 1 →
      (∀ c o, c ≠ (N + 4) → c ≠ (N + 3) → c ≠ (N + 0) → c ≠ (N + 1) → s.heap.get? c = some o → h.get? c = some o) → Q (.ref s.heap.objs.size) { s with heap := h }) :
    wpAny (model prog w) A (Builtin.«zip.__next__» ⟨[.ref (N + 4)], []⟩) (fun fin s' => ∃ v, fin = .done (.ret v) ∧ Q v s') E s := by
  obtain ⟨hp, g, d, tk, os⟩ := s
  have zlt : (N + 4) < hp.objs.size := Heap.lt_size hz
  show wpAny _ _ (field (.ref (N + 4)) 2 >>= _) _ _ _
  refine wpAny_bind (wpAny_field hz rfl (x := .bool false) rfl ?_)
  show wpAny _ _ (field (.ref (N + 4)) 3 >>= _) _ _ _
  refine wpAny_bind (wpAny_field hz rfl (x := .ref (N + 2)) rfl (wpAny_bind (wpAny_seqItems hI rfl ?_)))
  show wpAny _ _ (Builtin.SmallTypes.ownedTupleIsFree (.ref (N + 4)) >>= _) _ _ _
  refine wpAny_bind (own_free hz hf ?_ fun g0 hz0 hs0 => ?_)
  · rw [if_pos rfl]
    refine wpAny_bind (wpAny_rule (wpAny_bind (wpAny_field hz rfl (x := .ref (N + 3)) rfl ?_)))
    refine wpAny_bind (wpAny_setField_rec hz (by simp) fun g0 hz0 hs0 => ?_)
    replace hz0 : ZS g0 (N + 4) (N + 2) (N + 3) .ellipsis f1 := hz0
    replace hs0 : Heap.SameBut (N + 4) hp g0 := hs0
    simp only [List.forIn_cons, List.forIn_nil, List.zipIdx_cons, List.zipIdx_nil]
    refine wpAny_bind (wpAny_bind (wpAny_bind (wpAny_onRaise ?_)))
    show wpAny _ _ (Builtin.SmallTypes.nextOf (.ref (N + 0)) >>= _) _ _ (Shared.mk g0 g d tk os)
    refine wpAny_bind (wpAny_nextOf_list_item (t1.at fun o e => (hs0.2 (N + 0) (ad (by omega))).trans (e)) (L1.at fun o e => (hs0.2 l1 (ad (by omega))).trans (e)) e1 fun p1 r1 hp1 => wpAny_pure ?_)
    replace hp1 : Heap.SameBut (N + 0) g0 p1 := hp1
    have hU1 : p1.get? (N + 3) = some { cls := .type "tuple", data := .seq #[q1, q2] } := (hp1.2 (N + 3) (ad (by omega))).trans ((hs0.2 (N + 3) (ad (by omega))).trans (hO))
    refine wpAny_bind (wpAny_seqItems (s := ⟨p1, g, d, tk, os⟩) hU1 rfl ?_)
    refine wpAny_bind (wpAny_updateSeq (s := ⟨p1, g, d, tk, os⟩) (f := fun a => a.setIfInBounds 0 x1) hU1 rfl ?_)
    have hT1 : (p1.update (N + 3) (Obj.mapSeq fun a => a.setIfInBounds 0 x1)).get? (N + 3) = some { cls := .type "tuple", data := .seq #[x1, q2] } := by
      rw [Heap.get?_update_self _ hU1 rfl]
      simp [Obj.mapSeq]
    have hs1 : Heap.SameBut (N + 3) p1 (p1.update (N + 3) (Obj.mapSeq fun a => a.setIfInBounds 0 x1)) := Heap.SameBut.update ..
    generalize p1.update (N + 3) (Obj.mapSeq fun a => a.setIfInBounds 0 x1) = g1 at hT1 hs1
    refine wpAny_bind (wpAny_letGo (wpAny_pure ?_))
    refine wpAny_bind (wpAny_bind (wpAny_onRaise ?_))
    show wpAny _ _ (Builtin.SmallTypes.nextOf (.ref (N + 1)) >>= _) _ _ (Shared.mk g1 g d tk os)
    refine wpAny_bind (wpAny_nextOf_list_item (t2.at fun o e => (hs1.2 (N + 1) (ad (by omega))).trans ((hp1.2 (N + 1) (ad (by omega))).trans ((hs0.2 (N + 1) (ad (by omega))).trans (e)))) (L2.at fun o e => (hs1.2 l2 (ad (by omega))).trans ((hp1.2 l2 (ad (by omega))).trans ((hs0.2 l2 (ad (by omega))).trans (e)))) e2 fun p2 r2 hp2 => wpAny_pure ?_)
    replace hp2 : Heap.SameBut (N + 1) g1 p2 := hp2
    have hU2 : p2.get? (N + 3) = some { cls := .type "tuple", data := .seq #[x1, q2] } := (hp2.2 (N + 3) (ad (by omega))).trans (hT1)
    refine wpAny_bind (wpAny_seqItems (s := ⟨p2, g, d, tk, os⟩) hU2 rfl ?_)
    refine wpAny_bind (wpAny_updateSeq (s := ⟨p2, g, d, tk, os⟩) (f := fun a => a.setIfInBounds 1 x2) hU2 rfl ?_)
    have hT2 : (p2.update (N + 3) (Obj.mapSeq fun a => a.setIfInBounds 1 x2)).get? (N + 3) = some { cls := .type "tuple", data := .seq #[x1, x2] } := by
      rw [Heap.get?_update_self _ hU2 rfl]
      simp [Obj.mapSeq]
    have hs2 : Heap.SameBut (N + 3) p2 (p2.update (N + 3) (Obj.mapSeq fun a => a.setIfInBounds 1 x2)) := Heap.SameBut.update ..
    generalize p2.update (N + 3) (Obj.mapSeq fun a => a.setIfInBounds 1 x2) = g2 at hT2 hs2
    refine wpAny_bind (wpAny_letGo (wpAny_pure ?_))
    have hsz : g2.objs.size = hp.objs.size := by rw [hs2.1, hp2.1, hs1.1, hp1.1, hs0.1]
    have hzz : ZS g2 (N + 4) (N + 2) (N + 3) .ellipsis f1 := (hs2.2 (N + 4) (ad (by omega))).trans ((hp2.2 (N + 4) (ad (by omega))).trans ((hs1.2 (N + 4) (ad (by omega))).trans ((hp1.2 (N + 4) (ad (by omega))).trans (hz0))))
    refine wpAny_bind (wpAny_pure ?_)
    refine wpAny_pure ?_
    show wpAny _ _ (seqItems? (.ref (N + 3)) >>= _) _ _ (Shared.mk g2 g d tk os)
    refine wpAny_bind (wpAny_seqItems (s := ⟨g2, g, d, tk, os⟩) hT2 rfl ?_)
    refine wpAny_bind (wpAny_newTuple ?_)
    show wpAny _ _ (Builtin.SmallTypes.ownedTupleHandOut (.ref (N + 4)) (.ref g2.objs.size) >>= _) _ _ (Shared.mk (g2.push { cls := .type "tuple", data := .seq #[x1, x2] }) g d tk os)
    unfold Builtin.SmallTypes.ownedTupleHandOut
    refine wpAny_bind (wpAny_bind (wpAny_setField_rec (Heap.get?_push_of_some _ hzz) (by simp) fun m1 hm1 hn1 => ?_))
    replace hm1 : ZS m1 (N + 4) (N + 2) (N + 3) (rawInt g2.objs.size) f1 := hm1
    refine wpAny_setField_rec hm1 (by simp) fun m2 hm2 hn2 => wpAny_pure ⟨_, rfl, ?_⟩
    replace hm2 : ZS m2 (N + 4) (N + 2) (N + 3) (rawInt g2.objs.size) false := hm2
    replace hn1 : Heap.SameBut (N + 4) (g2.push { cls := .type "tuple", data := .seq #[x1, x2] }) m1 := hn1
    replace hn2 : Heap.SameBut (N + 4) m1 m2 := hn2
    have up : ∀ c o, c ≠ (N + 4) → g2.get? c = some o → m2.get? c = some o := fun c o c1 e => (hn2.2 c c1).trans ((hn1.2 c c1).trans (Heap.get?_push_of_some _ e))
    show Q (.ref g2.objs.size) ⟨m2, g, d, tk, os⟩
    have hnew : m2.get? g2.objs.size = some { cls := .type "tuple", data := .seq #[x1, x2] } := (hn2.2 _ (by rw [hsz]; exact Nat.ne_of_gt zlt)).trans ((hn1.2 _ (by rw [hsz]; exact Nat.ne_of_gt zlt)).trans (Heap.get?_push_size _ rfl))
    have hms : m2.objs.size = g2.objs.size + 1 := by rw [hn2.1, hn1.1, Heap.size_push]
    rw [hsz] at hnew hms ⊢
    refine hQ m2 ⟨_, _, .inr ⟨_, rfl⟩, hm2⟩ ⟨_, _, up _ _ (ad (by omega)) hT2⟩ (r1.at fun o e => up _ _ (ad (by omega)) ((hs2.2 (N + 0) (ad (by omega))).trans ((hp2.2 (N + 0) (ad (by omega))).trans ((hs1.2 (N + 0) (ad (by omega))).trans (e))))) (r2.at fun o e => up _ _ (ad (by omega)) ((hs2.2 (N + 1) (ad (by omega))).trans (e))) hnew hms fun c o cz cO c1 c2 e => up c o cz ((hs2.2 c cO).trans ((hp2.2 c c2).trans ((hs1.2 c cO).trans ((hp1.2 c c1).trans ((hs0.2 c cz).trans (e))))))
  · rw [if_neg (by decide)]
    replace hz0 : ZS g0 (N + 4) (N + 2) (N + 3) f0 true := hz0
    replace hs0 : Heap.SameBut (N + 4) hp g0 := hs0
    simp only [← Array.forIn_toList, List.forIn_cons, List.forIn_nil]
    refine wpAny_bind (wpAny_bind (wpAny_bind (wpAny_holding ?_)))
    show wpAny _ _ (Builtin.SmallTypes.nextOf (.ref (N + 0)) >>= _) _ _ (Shared.mk g0 g d tk os)
    refine wpAny_bind (wpAny_nextOf_list_item (t1.at fun o e => (hs0.2 (N + 0) (ad (by omega))).trans (e)) (L1.at fun o e => (hs0.2 l1 (ad (by omega))).trans (e)) e1 fun p1 r1 hp1 => wpAny_pure (wpAny_pure ?_))
    replace hp1 : Heap.SameBut (N + 0) g0 p1 := hp1
    refine wpAny_bind (wpAny_bind (wpAny_holding ?_))
    show wpAny _ _ (Builtin.SmallTypes.nextOf (.ref (N + 1)) >>= _) _ _ (Shared.mk p1 g d tk os)
    refine wpAny_bind (wpAny_nextOf_list_item (t2.at fun o e => (hp1.2 (N + 1) (ad (by omega))).trans ((hs0.2 (N + 1) (ad (by omega))).trans (e))) (L2.at fun o e => (hp1.2 l2 (ad (by omega))).trans ((hs0.2 l2 (ad (by omega))).trans (e))) e2 fun p2 r2 hp2 => wpAny_pure (wpAny_pure ?_))
    replace hp2 : Heap.SameBut (N + 1) p1 p2 := hp2
    have hsz : p2.objs.size = hp.objs.size := by rw [hp2.1, hp1.1, hs0.1]
    refine wpAny_bind (wpAny_pure ?_)
    refine wpAny_pure ?_
    show wpAny _ _ (newTuple [x1, x2] >>= _) _ _ (Shared.mk p2 g d tk os)
    refine wpAny_bind (wpAny_newTuple ?_)
    refine wpAny_pure ⟨_, rfl, ?_⟩
    show Q (.ref p2.objs.size) ⟨p2.push { cls := .type "tuple", data := .seq #[x1, x2] }, g, d, tk, os⟩
    have hnew : (p2.push { cls := .type "tuple", data := .seq #[x1, x2] }).get? p2.objs.size = some { cls := .type "tuple", data := .seq #[x1, x2] } := Heap.get?_push_size _ rfl
    have hms : (p2.push { cls := .type "tuple", data := .seq #[x1, x2] }).objs.size = p2.objs.size + 1 := Heap.size_push ..
    have up : ∀ c o, p2.get? c = some o → (p2.push { cls := .type "tuple", data := .seq #[x1, x2] }).get? c = some o := fun c o e => Heap.get?_push_of_some _ e
    rw [hsz] at hnew hms ⊢
    refine hQ _ ⟨_, _, hf, up _ _ ((hp2.2 (N + 4) (ad (by omega))).trans ((hp1.2 (N + 4) (ad (by omega))).trans (hz0)))⟩ ⟨_, _, up _ _ ((hp2.2 (N + 3) (ad (by omega))).trans ((hp1.2 (N + 3) (ad (by omega))).trans ((hs0.2 (N + 3) (ad (by omega))).trans (hO))))⟩ (r1.at fun o e => up _ _ ((hp2.2 (N + 0) (ad (by omega))).trans (e))) (r2.at fun o e => up _ _ (e)) hnew hms fun c o cz cO c1 c2 e => up c o ((hp2.2 c c2).trans ((hp1.2 c c1).trans ((hs0.2 c cz).trans (e))))
theorem zip2_end {N l1 l2 i : Nat} {f0 : Value} {f1 : Bool} {us1 : Array Value} {Q : Fin → Shared → Prop} (b1 : l1 < N) (hh : A.handled = none)
    (hz : ZS s.heap (N + 4) (N + 2) (N + 3) f0 f1) (hf : OwnV f0) (hI : s.heap.get? (N + 2) = some { cls := .type "tuple", data := .seq #[.ref (N + 0), .ref (N + 1)] }) (t1 : s.heap.IsListIter (N + 0) l1 i) (L1 : s.heap.IsList l1 us1) (e1 : us1[i]? = none)
    (hE : ∀ h x, (∀ c o, c ≠ (N + 4) → c ≠ (N + 3) → c ≠ (N + 0) → c ≠ (N + 1) → s.heap.get? c = some o → h.get? c = some o) → (∃ o, h.get? x = some o ∧ o.cls = .type "StopIteration") → E (.ref x) { s with heap := h }) :
    wpAny (model prog w) A (Builtin.«zip.__next__» ⟨[.ref (N + 4)], []⟩) Q E s := by
  obtain ⟨hp, g, d, tk, os⟩ := s
  show wpAny _ _ (field (.ref (N + 4)) 2 >>= _) _ _ _
  refine wpAny_bind (wpAny_field hz rfl (x := .bool false) rfl ?_)
  show wpAny _ _ (field (.ref (N + 4)) 3 >>= _) _ _ _
  refine wpAny_bind (wpAny_field hz rfl (x := .ref (N + 2)) rfl (wpAny_bind (wpAny_seqItems hI rfl ?_)))
  show wpAny _ _ (Builtin.SmallTypes.ownedTupleIsFree (.ref (N + 4)) >>= _) _ _ _
  refine wpAny_bind (own_free hz hf ?_ fun g0 hz0 hs0 => ?_)
  · rw [if_pos rfl]
    refine wpAny_bind (wpAny_rule (wpAny_bind (wpAny_field hz rfl (x := .ref (N + 3)) rfl ?_)))
    refine wpAny_bind (wpAny_setField_rec hz (by simp) fun g0 hz0 hs0 => ?_)
    replace hz0 : ZS g0 (N + 4) (N + 2) (N + 3) .ellipsis f1 := hz0
    replace hs0 : Heap.SameBut (N + 4) hp g0 := hs0
    simp only [List.forIn_cons, List.forIn_nil, List.zipIdx_cons, List.zipIdx_nil]
    refine wpAny_bind (wpAny_bind (wpAny_bind (wpAny_onRaise ?_)))
    show wpAny _ _ (Builtin.SmallTypes.nextOf (.ref (N + 0)) >>= _) _ _ (Shared.mk g0 g d tk os)
    refine wpAny_bind (wpAny_nextOf_list_end hh (t1.at fun o e => (hs0.2 (N + 0) (ad (by omega))).trans (e)) (L1.at fun o e => (hs0.2 l1 (ad (by omega))).trans (e)) e1 fun p x hp1 hx => ?_)
    replace hp1 : Heap.ExtBut (N + 0) g0 p := hp1
    obtain ⟨ox, hox, hcx⟩ := hx
    replace hox : p.get? x = some ox := hox
    have hzp : ZS p (N + 4) (N + 2) (N + 3) .ellipsis f1 := hp1 _ _ (ad (by omega)) hz0
    have xz : x ≠ (N + 4) := fun y => by
      rw [y, hzp] at hox
      cases hox
      simp at hcx
    refine wpAny_setField_rec (s := ⟨p, g, d, tk, os⟩) hzp (by simp) fun m _ hm => ?_
    replace hm : Heap.SameBut (N + 4) p m := hm
    exact hE m x (fun c o cz cO c1 c2 e => (hm.2 c cz).trans (hp1 c o c1 ((hs0.2 c cz).trans e))) ⟨ox, (hm.2 x xz).trans hox, hcx⟩
  · rw [if_neg (by decide)]
    replace hs0 : Heap.SameBut (N + 4) hp g0 := hs0
    simp only [← Array.forIn_toList, List.forIn_cons, List.forIn_nil]
    refine wpAny_bind (wpAny_bind (wpAny_bind (wpAny_holding ?_)))
    show wpAny _ _ (Builtin.SmallTypes.nextOf (.ref (N + 0)) >>= _) _ _ (Shared.mk g0 g d tk os)
    refine wpAny_bind (wpAny_nextOf_list_end hh (t1.at fun o e => (hs0.2 (N + 0) (ad (by omega))).trans (e)) (L1.at fun o e => (hs0.2 l1 (ad (by omega))).trans (e)) e1 fun p x hp1 hx => ?_)
    exact hE p x (fun c o cz cO c1 c2 e => hp1 c o c1 ((hs0.2 c cz).trans e)) hx
theorem zip3_item {N l1 l2 l3 i : Nat} {f0 : Value} {f1 : Bool} {q1 q2 q3 x1 x2 x3 : Value} {us1 us2 us3 : Array Value} {Q : Value → Shared → Prop} (b1 : l1 < N) (b2 : l2 < N) (b3 : l3 < N)
    (hz : ZS s.heap (N + 5) (N + 3) (N + 4) f0 f1) (hf : OwnV f0) (hI : s.heap.get? (N + 3) = some { cls := .type "tuple", data := .seq #[.ref (N + 0), .ref (N + 1), .ref (N + 2)] }) (hO : s.heap.get? (N + 4) = some { cls := .type "tuple", data := .seq #[q1, q2, q3] })
    (t1 : s.heap.IsListIter (N + 0) l1 i) (L1 : s.heap.IsList l1 us1) (t2 : s.heap.IsListIter (N + 1) l2 i) (L2 : s.heap.IsList l2 us2) (t3 : s.heap.IsListIter (N + 2) l3 i) (L3 : s.heap.IsList l3 us3) (e1 : us1[i]? = some x1) (e2 : us2[i]? = some x2) (e3 : us3[i]? = some x3)
    (hQ : ∀ h, (∃ g0 g1, OwnV g0 ∧ ZS h (N + 5) (N + 3) (N + 4) g0 g1) → (∃ q1 q2 q3, h.get? (N + 4) = some { cls := .type "tuple", data := .seq #[q1, q2, q3] }) → h.IsListIter (N + 0) l1 (i + 1) → h.IsListIter (N + 1) l2 (i + 1) → h.IsListIter (N + 2) l3 (i + 1) → h.get? s.heap.objs.size = some { cls := .type "tuple", data := .seq #[x1, x2, x3] } → h.objs.size = s.heap.objs.size + 1 →
      (∀ c o, c ≠ (N + 5) → c ≠ (N + 4) → c ≠ (N + 0) → c ≠ (N + 1) → c ≠ (N + 2) → s.heap.get? c = some o → h.get? c = some o) → Q (.ref s.heap.objs.size) { s with heap := h }) :
    wpAny (model prog w) A (Builtin.«zip.__next__» ⟨[.ref (N + 5)], []⟩) (fun fin s' => ∃ v, fin = .done (.ret v) ∧ Q v s') E s := by
  obtain ⟨hp, g, d, tk, os⟩ := s
  have zlt : (N + 5) < hp.objs.size := Heap.lt_size hz
  show wpAny _ _ (field (.ref (N + 5)) 2 >>= _) _ _ _
  refine wpAny_bind (wpAny_field hz rfl (x := .bool false) rfl ?_)
  show wpAny _ _ (field (.ref (N + 5)) 3 >>= _) _ _ _
  refine wpAny_bind (wpAny_field hz rfl (x := .ref (N + 3)) rfl (wpAny_bind (wpAny_seqItems hI rfl ?_)))
  show wpAny _ _ (Builtin.SmallTypes.ownedTupleIsFree (.ref (N + 5)) >>= _) _ _ _
  refine wpAny_bind (own_free hz hf ?_ fun g0 hz0 hs0 => ?_)
  · rw [if_pos rfl]
    refine wpAny_bind (wpAny_rule (wpAny_bind (wpAny_field hz rfl (x := .ref (N + 4)) rfl ?_)))
    refine wpAny_bind (wpAny_setField_rec hz (by simp) fun g0 hz0 hs0 => ?_)
    replace hz0 : ZS g0 (N + 5) (N + 3) (N + 4) .ellipsis f1 := hz0
    replace hs0 : Heap.SameBut (N + 5) hp g0 := hs0
    simp only [List.forIn_cons, List.forIn_nil, List.zipIdx_cons, List.zipIdx_nil]
    refine wpAny_bind (wpAny_bind (wpAny_bind (wpAny_onRaise ?_)))
    show wpAny _ _ (Builtin.SmallTypes.nextOf (.ref (N + 0)) >>= _) _ _ (Shared.mk g0 g d tk os)
    refine wpAny_bind (wpAny_nextOf_list_item (t1.at fun o e => (hs0.2 (N + 0) (ad (by omega))).trans (e)) (L1.at fun o e => (hs0.2 l1 (ad (by omega))).trans (e)) e1 fun p1 r1 hp1 => wpAny_pure ?_)
    replace hp1 : Heap.SameBut (N + 0) g0 p1 := hp1
    have hU1 : p1.get? (N + 4) = some { cls := .type "tuple", data := .seq #[q1, q2, q3] } := (hp1.2 (N + 4) (ad (by omega))).trans ((hs0.2 (N + 4) (ad (by omega))).trans (hO))
    refine wpAny_bind (wpAny_seqItems (s := ⟨p1, g, d, tk, os⟩) hU1 rfl ?_)
    refine wpAny_bind (wpAny_updateSeq (s := ⟨p1, g, d, tk, os⟩) (f := fun a => a.setIfInBounds 0 x1) hU1 rfl ?_)
    have hT1 : (p1.update (N + 4) (Obj.mapSeq fun a => a.setIfInBounds 0 x1)).get? (N + 4) = some { cls := .type "tuple", data := .seq #[x1, q2, q3] } := by
      rw [Heap.get?_update_self _ hU1 rfl]
      simp [Obj.mapSeq]
    have hs1 : Heap.SameBut (N + 4) p1 (p1.update (N + 4) (Obj.mapSeq fun a => a.setIfInBounds 0 x1)) := Heap.SameBut.update ..
    generalize p1.update (N + 4) (Obj.mapSeq fun a => a.setIfInBounds 0 x1) = g1 at hT1 hs1
    refine wpAny_bind (wpAny_letGo (wpAny_pure ?_))
    refine wpAny_bind (wpAny_bind (wpAny_onRaise ?_))
    show wpAny _ _ (Builtin.SmallTypes.nextOf (.ref (N + 1)) >>= _) _ _ (Shared.mk g1 g d tk os)
    refine wpAny_bind (wpAny_nextOf_list_item (t2.at fun o e => (hs1.2 (N + 1) (ad (by omega))).trans ((hp1.2 (N + 1) (ad (by omega))).trans ((hs0.2 (N + 1) (ad (by omega))).trans (e)))) (L2.at fun o e => (hs1.2 l2 (ad (by omega))).trans ((hp1.2 l2 (ad (by omega))).trans ((hs0.2 l2 (ad (by omega))).trans (e)))) e2 fun p2 r2 hp2 => wpAny_pure ?_)
    replace hp2 : Heap.SameBut (N + 1) g1 p2 := hp2
    have hU2 : p2.get? (N + 4) = some { cls := .type "tuple", data := .seq #[x1, q2, q3] } := (hp2.2 (N + 4) (ad (by omega))).trans (hT1)
    refine wpAny_bind (wpAny_seqItems (s := ⟨p2, g, d, tk, os⟩) hU2 rfl ?_)
    refine wpAny_bind (wpAny_updateSeq (s := ⟨p2, g, d, tk, os⟩) (f := fun a => a.setIfInBounds 1 x2) hU2 rfl ?_)
    have hT2 : (p2.update (N + 4) (Obj.mapSeq fun a => a.setIfInBounds 1 x2)).get? (N + 4) = some { cls := .type "tuple", data := .seq #[x1, x2, q3] } := by
      rw [Heap.get?_update_self _ hU2 rfl]
      simp [Obj.mapSeq]
    have hs2 : Heap.SameBut (N + 4) p2 (p2.update (N + 4) (Obj.mapSeq fun a => a.setIfInBounds 1 x2)) := Heap.SameBut.update ..
    generalize p2.update (N + 4) (Obj.mapSeq fun a => a.setIfInBounds 1 x2) = g2 at hT2 hs2
    refine wpAny_bind (wpAny_letGo (wpAny_pure ?_))
    refine wpAny_bind (wpAny_bind (wpAny_onRaise ?_))
    show wpAny _ _ (Builtin.SmallTypes.nextOf (.ref (N + 2)) >>= _) _ _ (Shared.mk g2 g d tk os)
    refine wpAny_bind (wpAny_nextOf_list_item (t3.at fun o e => (hs2.2 (N + 2) (ad (by omega))).trans ((hp2.2 (N + 2) (ad (by omega))).trans ((hs1.2 (N + 2) (ad (by omega))).trans ((hp1.2 (N + 2) (ad (by omega))).trans ((hs0.2 (N + 2) (ad (by omega))).trans (e)))))) (L3.at fun o e => (hs2.2 l3 (ad (by omega))).trans ((hp2.2 l3 (ad (by omega))).trans ((hs1.2 l3 (ad (by omega))).trans ((hp1.2 l3 (ad (by omega))).trans ((hs0.2 l3 (ad (by omega))).trans (e)))))) e3 fun p3 r3 hp3 => wpAny_pure ?_)
    replace hp3 : Heap.SameBut (N + 2) g2 p3 := hp3
    have hU3 : p3.get? (N + 4) = some { cls := .type "tuple", data := .seq #[x1, x2, q3] } := (hp3.2 (N + 4) (ad (by omega))).trans (hT2)
    refine wpAny_bind (wpAny_seqItems (s := ⟨p3, g, d, tk, os⟩) hU3 rfl ?_)
    refine wpAny_bind (wpAny_updateSeq (s := ⟨p3, g, d, tk, os⟩) (f := fun a => a.setIfInBounds 2 x3) hU3 rfl ?_)
    have hT3 : (p3.update (N + 4) (Obj.mapSeq fun a => a.setIfInBounds 2 x3)).get? (N + 4) = some { cls := .type "tuple", data := .seq #[x1, x2, x3] } := by
      rw [Heap.get?_update_self _ hU3 rfl]
      simp [Obj.mapSeq]
    have hs3 : Heap.SameBut (N + 4) p3 (p3.update (N + 4) (Obj.mapSeq fun a => a.setIfInBounds 2 x3)) := Heap.SameBut.update ..
    generalize p3.update (N + 4) (Obj.mapSeq fun a => a.setIfInBounds 2 x3) = g3 at hT3 hs3
    refine wpAny_bind (wpAny_letGo (wpAny_pure ?_))
    have hsz : g3.objs.size = hp.objs.size := by rw [hs3.1, hp3.1, hs2.1, hp2.1, hs1.1, hp1.1, hs0.1]
    have hzz : ZS g3 (N + 5) (N + 3) (N + 4) .ellipsis f1 := (hs3.2 (N + 5) (ad (by omega))).trans ((hp3.2 (N + 5) (ad (by omega))).trans ((hs2.2 (N + 5) (ad (by omega))).trans ((hp2.2 (N + 5) (ad (by omega))).trans ((hs1.2 (N + 5) (ad (by omega))).trans ((hp1.2 (N + 5) (ad (by omega))).trans (hz0))))))
    refine wpAny_bind (wpAny_pure ?_)
    refine wpAny_pure ?_
    show wpAny _ _ (seqItems? (.ref (N + 4)) >>= _) _ _ (Shared.mk g3 g d tk os)
    refine wpAny_bind (wpAny_seqItems (s := ⟨g3, g, d, tk, os⟩) hT3 rfl ?_)
    refine wpAny_bind (wpAny_newTuple ?_)
    show wpAny _ _ (Builtin.SmallTypes.ownedTupleHandOut (.ref (N + 5)) (.ref g3.objs.size) >>= _) _ _ (Shared.mk (g3.push { cls := .type "tuple", data := .seq #[x1, x2, x3] }) g d tk os)
    unfold Builtin.SmallTypes.ownedTupleHandOut
    refine wpAny_bind (wpAny_bind (wpAny_setField_rec (Heap.get?_push_of_some _ hzz) (by simp) fun m1 hm1 hn1 => ?_))
    replace hm1 : ZS m1 (N + 5) (N + 3) (N + 4) (rawInt g3.objs.size) f1 := hm1
    refine wpAny_setField_rec hm1 (by simp) fun m2 hm2 hn2 => wpAny_pure ⟨_, rfl, ?_⟩
    replace hm2 : ZS m2 (N + 5) (N + 3) (N + 4) (rawInt g3.objs.size) false := hm2
    replace hn1 : Heap.SameBut (N + 5) (g3.push { cls := .type "tuple", data := .seq #[x1, x2, x3] }) m1 := hn1
    replace hn2 : Heap.SameBut (N + 5) m1 m2 := hn2
    have up : ∀ c o, c ≠ (N + 5) → g3.get? c = some o → m2.get? c = some o := fun c o c1 e => (hn2.2 c c1).trans ((hn1.2 c c1).trans (Heap.get?_push_of_some _ e))
    show Q (.ref g3.objs.size) ⟨m2, g, d, tk, os⟩
    have hnew : m2.get? g3.objs.size = some { cls := .type "tuple", data := .seq #[x1, x2, x3] } := (hn2.2 _ (by rw [hsz]; exact Nat.ne_of_gt zlt)).trans ((hn1.2 _ (by rw [hsz]; exact Nat.ne_of_gt zlt)).trans (Heap.get?_push_size _ rfl))
    have hms : m2.objs.size = g3.objs.size + 1 := by rw [hn2.1, hn1.1, Heap.size_push]
    rw [hsz] at hnew hms ⊢
    refine hQ m2 ⟨_, _, .inr ⟨_, rfl⟩, hm2⟩ ⟨_, _, _, up _ _ (ad (by omega)) hT3⟩ (r1.at fun o e => up _ _ (ad (by omega)) ((hs3.2 (N + 0) (ad (by omega))).trans ((hp3.2 (N + 0) (ad (by omega))).trans ((hs2.2 (N + 0) (ad (by omega))).trans ((hp2.2 (N + 0) (ad (by omega))).trans ((hs1.2 (N + 0) (ad (by omega))).trans (e))))))) (r2.at fun o e => up _ _ (ad (by omega)) ((hs3.2 (N + 1) (ad (by omega))).trans ((hp3.2 (N + 1) (ad (by omega))).trans ((hs2.2 (N + 1) (ad (by omega))).trans (e))))) (r3.at fun o e => up _ _ (ad (by omega)) ((hs3.2 (N + 2) (ad (by omega))).trans (e))) hnew hms fun c o cz cO c1 c2 c3 e => up c o cz ((hs3.2 c cO).trans ((hp3.2 c c3).trans ((hs2.2 c cO).trans ((hp2.2 c c2).trans ((hs1.2 c cO).trans ((hp1.2 c c1).trans ((hs0.2 c cz).trans (e))))))))
  · rw [if_neg (by decide)]
    replace hz0 : ZS g0 (N + 5) (N + 3) (N + 4) f0 true := hz0
    replace hs0 : Heap.SameBut (N + 5) hp g0 := hs0
    simp only [← Array.forIn_toList, List.forIn_cons, List.forIn_nil]
    refine wpAny_bind (wpAny_bind (wpAny_bind (wpAny_holding ?_)))
    show wpAny _ _ (Builtin.SmallTypes.nextOf (.ref (N + 0)) >>= _) _ _ (Shared.mk g0 g d tk os)
    refine wpAny_bind (wpAny_nextOf_list_item (t1.at fun o e => (hs0.2 (N + 0) (ad (by omega))).trans (e)) (L1.at fun o e => (hs0.2 l1 (ad (by omega))).trans (e)) e1 fun p1 r1 hp1 => wpAny_pure (wpAny_pure ?_))
    replace hp1 : Heap.SameBut (N + 0) g0 p1 := hp1
    refine wpAny_bind (wpAny_bind (wpAny_holding ?_))
    show wpAny _ _ (Builtin.SmallTypes.nextOf (.ref (N + 1)) >>= _) _ _ (Shared.mk p1 g d tk os)
    refine wpAny_bind (wpAny_nextOf_list_item (t2.at fun o e => (hp1.2 (N + 1) (ad (by omega))).trans ((hs0.2 (N + 1) (ad (by omega))).trans (e))) (L2.at fun o e => (hp1.2 l2 (ad (by omega))).trans ((hs0.2 l2 (ad (by omega))).trans (e))) e2 fun p2 r2 hp2 => wpAny_pure (wpAny_pure ?_))
    replace hp2 : Heap.SameBut (N + 1) p1 p2 := hp2
    refine wpAny_bind (wpAny_bind (wpAny_holding ?_))
    show wpAny _ _ (Builtin.SmallTypes.nextOf (.ref (N + 2)) >>= _) _ _ (Shared.mk p2 g d tk os)
    refine wpAny_bind (wpAny_nextOf_list_item (t3.at fun o e => (hp2.2 (N + 2) (ad (by omega))).trans ((hp1.2 (N + 2) (ad (by omega))).trans ((hs0.2 (N + 2) (ad (by omega))).trans (e)))) (L3.at fun o e => (hp2.2 l3 (ad (by omega))).trans ((hp1.2 l3 (ad (by omega))).trans ((hs0.2 l3 (ad (by omega))).trans (e)))) e3 fun p3 r3 hp3 => wpAny_pure (wpAny_pure ?_))
    replace hp3 : Heap.SameBut (N + 2) p2 p3 := hp3
    have hsz : p3.objs.size = hp.objs.size := by rw [hp3.1, hp2.1, hp1.1, hs0.1]
    refine wpAny_bind (wpAny_pure ?_)
    refine wpAny_pure ?_
    show wpAny _ _ (newTuple [x1, x2, x3] >>= _) _ _ (Shared.mk p3 g d tk os)
    refine wpAny_bind (wpAny_newTuple ?_)
    refine wpAny_pure ⟨_, rfl, ?_⟩
    show Q (.ref p3.objs.size) ⟨p3.push { cls := .type "tuple", data := .seq #[x1, x2, x3] }, g, d, tk, os⟩
    have hnew : (p3.push { cls := .type "tuple", data := .seq #[x1, x2, x3] }).get? p3.objs.size = some { cls := .type "tuple", data := .seq #[x1, x2, x3] } := Heap.get?_push_size _ rfl
    have hms : (p3.push { cls := .type "tuple", data := .seq #[x1, x2, x3] }).objs.size = p3.objs.size + 1 := Heap.size_push ..
    have up : ∀ c o, p3.get? c = some o → (p3.push { cls := .type "tuple", data := .seq #[x1, x2, x3] }).get? c = some o := fun c o e => Heap.get?_push_of_some _ e
    rw [hsz] at hnew hms ⊢
    refine hQ _ ⟨_, _, hf, up _ _ ((hp3.2 (N + 5) (ad (by omega))).trans ((hp2.2 (N + 5) (ad (by omega))).trans ((hp1.2 (N + 5) (ad (by omega))).trans (hz0))))⟩ ⟨_, _, _, up _ _ ((hp3.2 (N + 4) (ad (by omega))).trans ((hp2.2 (N + 4) (ad (by omega))).trans ((hp1.2 (N + 4) (ad (by omega))).trans ((hs0.2 (N + 4) (ad (by omega))).trans (hO)))))⟩ (r1.at fun o e => up _ _ ((hp3.2 (N + 0) (ad (by omega))).trans ((hp2.2 (N + 0) (ad (by omega))).trans (e)))) (r2.at fun o e => up _ _ ((hp3.2 (N + 1) (ad (by omega))).trans (e))) (r3.at fun o e => up _ _ (e)) hnew hms fun c o cz cO c1 c2 c3 e => up c o ((hp3.2 c c3).trans ((hp2.2 c c2).trans ((hp1.2 c c1).trans ((hs0.2 c cz).trans (e)))))
theorem zip3_end {N l1 l2 l3 i : Nat} {f0 : Value} {f1 : Bool} {us1 : Array Value} {Q : Fin → Shared → Prop} (b1 : l1 < N) (hh : A.handled = none)
    (hz : ZS s.heap (N + 5) (N + 3) (N + 4) f0 f1) (hf : OwnV f0) (hI : s.heap.get? (N + 3) = some { cls := .type "tuple", data := .seq #[.ref (N + 0), .ref (N + 1), .ref (N + 2)] }) (t1 : s.heap.IsListIter (N + 0) l1 i) (L1 : s.heap.IsList l1 us1) (e1 : us1[i]? = none)
    (hE : ∀ h x, (∀ c o, c ≠ (N + 5) → c ≠ (N + 4) → c ≠ (N + 0) → c ≠ (N + 1) → c ≠ (N + 2) → s.heap.get? c = some o → h.get? c = some o) → (∃ o, h.get? x = some o ∧ o.cls = .type "StopIteration") → E (.ref x) { s with heap := h }) :
    wpAny (model prog w) A (Builtin.«zip.__next__» ⟨[.ref (N + 5)], []⟩) Q E s := by
  obtain ⟨hp, g, d, tk, os⟩ := s
  show wpAny _ _ (field (.ref (N + 5)) 2 >>= _) _ _ _
  refine wpAny_bind (wpAny_field hz rfl (x := .bool false) rfl ?_)
  show wpAny _ _ (field (.ref (N + 5)) 3 >>= _) _ _ _
  refine wpAny_bind (wpAny_field hz rfl (x := .ref (N + 3)) rfl (wpAny_bind (wpAny_seqItems hI rfl ?_)))
  show wpAny _ _ (Builtin.SmallTypes.ownedTupleIsFree (.ref (N + 5)) >>= _) _ _ _
  refine wpAny_bind (own_free hz hf ?_ fun g0 hz0 hs0 => ?_)
  · rw [if_pos rfl]
    refine wpAny_bind (wpAny_rule (wpAny_bind (wpAny_field hz rfl (x := .ref (N + 4)) rfl ?_)))
    refine wpAny_bind (wpAny_setField_rec hz (by simp) fun g0 hz0 hs0 => ?_)
    replace hz0 : ZS g0 (N + 5) (N + 3) (N + 4) .ellipsis f1 := hz0
    replace hs0 : Heap.SameBut (N + 5) hp g0 := hs0
    simp only [List.forIn_cons, List.forIn_nil, List.zipIdx_cons, List.zipIdx_nil]
    refine wpAny_bind (wpAny_bind (wpAny_bind (wpAny_onRaise ?_)))
    show wpAny _ _ (Builtin.SmallTypes.nextOf (.ref (N + 0)) >>= _) _ _ (Shared.mk g0 g d tk os)
    refine wpAny_bind (wpAny_nextOf_list_end hh (t1.at fun o e => (hs0.2 (N + 0) (ad (by omega))).trans (e)) (L1.at fun o e => (hs0.2 l1 (ad (by omega))).trans (e)) e1 fun p x hp1 hx => ?_)
    replace hp1 : Heap.ExtBut (N + 0) g0 p := hp1
    obtain ⟨ox, hox, hcx⟩ := hx
    replace hox : p.get? x = some ox := hox
    have hzp : ZS p (N + 5) (N + 3) (N + 4) .ellipsis f1 := hp1 _ _ (ad (by omega)) hz0
    have xz : x ≠ (N + 5) := fun y => by
      rw [y, hzp] at hox
      cases hox
      simp at hcx
    refine wpAny_setField_rec (s := ⟨p, g, d, tk, os⟩) hzp (by simp) fun m _ hm => ?_
    replace hm : Heap.SameBut (N + 5) p m := hm
    exact hE m x (fun c o cz cO c1 c2 c3 e => (hm.2 c cz).trans (hp1 c o c1 ((hs0.2 c cz).trans e))) ⟨ox, (hm.2 x xz).trans hox, hcx⟩
  · rw [if_neg (by decide)]
    replace hs0 : Heap.SameBut (N + 5) hp g0 := hs0
    simp only [← Array.forIn_toList, List.forIn_cons, List.forIn_nil]
    refine wpAny_bind (wpAny_bind (wpAny_bind (wpAny_holding ?_)))
    show wpAny _ _ (Builtin.SmallTypes.nextOf (.ref (N + 0)) >>= _) _ _ (Shared.mk g0 g d tk os)
    refine wpAny_bind (wpAny_nextOf_list_end hh (t1.at fun o e => (hs0.2 (N + 0) (ad (by omega))).trans (e)) (L1.at fun o e => (hs0.2 l1 (ad (by omega))).trans (e)) e1 fun p x hp1 hx => ?_)
    exact hE p x (fun c o cz cO c1 c2 c3 e => hp1 c o c1 ((hs0.2 c cz).trans e)) hx
end
end XV
set_option Elab.async false
set_option linter.all false
set_option maxRecDepth 100000
set_option maxHeartbeats 400000
/-! next of an enumerate over any iterator whose own next is told. -/
namespace XV
open PySem
open PySem.Sem (wp)
section
variable {prog : Program} {w : World} {A : Around} {E : Value → Shared → Prop} {s : Shared}
theorem enum_over {e q : Addr} {c : Int} {old x : Value} {NX : Heap → Prop} {Q : Value → Shared → Prop} (he : IsEnum s.heap e q c old)
    (hn : ∀ Q' : Value → Shared → Prop, (∀ h, NX h → Q' x { s with heap := h }) → wpAny (model prog w) A (Builtin.SmallTypes.nextOf (.ref q)) Q' E s) (hk : ∀ h, NX h → IsEnum h e q c old)
    (hQ : ∀ h1 h2, NX h1 → IsEnumOut h2 e q (c + 1) x h1.objs.size → h2.get? h1.objs.size = some { cls := .type "tuple", data := .seq #[.int c s.toks, x] } → h2.objs.size = h1.objs.size + 1 →
      (∀ b o, b ≠ e → h1.get? b = some o → h2.get? b = some o) → Q (.ref h1.objs.size) { s with heap := h2, toks := s.toks + 1 }) :
    wpAny (model prog w) A (Builtin.«enumerate.__next__» ⟨[.ref e], []⟩) (fun fin s' => ∃ v, fin = .done (.ret v) ∧ Q v s') E s := by
  obtain ⟨hp, gs, dr, tk, os⟩ := s
  show wpAny _ _ (field (.ref e) 2 >>= _) _ _ _
  refine wpAny_bind (wpAny_field he rfl (x := .ref q) rfl (wpAny_bind (hn _ fun h1 n1 => ?_)))
  have u1 := hk h1 n1
  show wpAny _ _ (field (.ref e) 3 >>= _) _ _ (Shared.mk h1 gs dr tk os)
  refine wpAny_bind (wpAny_field u1 rfl (x := rawInt c) rfl ?_)
  show wpAny _ _ (field (.ref e) 4 >>= _) _ _ (Shared.mk h1 gs dr tk os)
  refine wpAny_bind (wpAny_field u1 rfl (x := .none) rfl ?_)
  show wpAny _ _ (mkInt c >>= _) _ _ (Shared.mk h1 gs dr tk os)
  refine wpAny_bind (wpAny_mkInt ?_)
  show wpAny _ _ (setField (.ref e) 3 (rawInt (c + 1)) >>= _) _ _ (Shared.mk h1 gs dr (tk + 1) os)
  refine wpAny_bind (wpAny_setField_rec u1 (by simp) fun h2 u2 s2 => ?_)
  replace s2 : Heap.SameBut e h1 h2 := s2
  replace u2 : IsEnum h2 e q (c + 1) old := u2
  show wpAny _ _ (setField (.ref e) 4 .none >>= _) _ _ (Shared.mk h2 gs dr (tk + 1) os)
  refine wpAny_bind (wpAny_setField_rec u2 (by simp) fun h3 u3 s3 => ?_)
  replace s3 : Heap.SameBut e h2 h3 := s3
  replace u3 : IsEnum h3 e q (c + 1) old := u3
  show wpAny _ _ (newTuple [.int c tk, x] >>= _) _ _ (Shared.mk h3 gs dr (tk + 1) os)
  refine wpAny_bind (wpAny_newTuple ?_)
  have sz : h3.objs.size = h1.objs.size := by rw [s3.1, s2.1]
  have el : e < h1.objs.size := Heap.lt_size u1
  have u4 : IsEnum (h3.push { cls := .type "tuple", data := .seq #[.int c tk, x] }) e q (c + 1) old := Heap.get?_push_of_some _ u3
  have t4 : (h3.push { cls := .type "tuple", data := .seq #[.int c tk, x] }).get? h1.objs.size = some { cls := .type "tuple", data := .seq #[.int c tk, x] } := by
    rw [← sz]
    exact Heap.get?_push_size _ rfl
  have z4 : (h3.push { cls := .type "tuple", data := .seq #[.int c tk, x] }).objs.size = h1.objs.size + 1 := by rw [Heap.size_push, sz]
  have k4 : ∀ b o, b ≠ e → h1.get? b = some o → (h3.push { cls := .type "tuple", data := .seq #[.int c tk, x] }).get? b = some o := fun b o n y => Heap.get?_push_of_some _ ((s3.2 b n).trans ((s2.2 b n).trans y))
  show wpAny _ _ (Builtin.SmallTypes.ownedTupleIsFree (.ref e) >>= _) _ _ (Shared.mk (h3.push { cls := .type "tuple", data := .seq #[.int c tk, x] }) gs dr (tk + 1) os)
  rw [sz]
  generalize h3.push { cls := .type "tuple", data := .seq #[.int c tk, x] } = h4 at u4 t4 z4 k4
  refine wpAny_bind ?_
  unfold Builtin.SmallTypes.ownedTupleIsFree
  refine wpAny_bind (wpAny_field u4 rfl (x := .none) rfl (wpAny_pure ?_))
  rw [if_pos rfl]
  refine wpAny_bind (wpAny_rule (wpAny_bind (wpAny_field u4 rfl (x := old) rfl ?_)))
  refine wpAny_bind (wpAny_setField_rec u4 (by simp) fun h5 u5 s5 => ?_)
  replace s5 : Heap.SameBut e h4 h5 := s5
  replace u5 : IsEnum h5 e q (c + 1) x := u5
  show wpAny _ _ (Builtin.SmallTypes.ownedTupleHandOut (.ref e) (.ref h1.objs.size) >>= _) _ _ (Shared.mk h5 gs dr (tk + 1) os)
  refine wpAny_bind ?_
  unfold Builtin.SmallTypes.ownedTupleHandOut
  refine wpAny_bind (wpAny_setField_rec u5 (by simp) fun h6 u6 s6 => ?_)
  replace s6 : Heap.SameBut e h5 h6 := s6
  replace u6 : IsEnumOut h6 e q (c + 1) x h1.objs.size := u6
  refine wpAny_setField_rec u6 (by simp) fun h7 u7 s7 => ?_
  replace s7 : Heap.SameBut e h6 h7 := s7
  replace u7 : IsEnumOut h7 e q (c + 1) x h1.objs.size := u7
  have up : ∀ b, b ≠ e → h7.get? b = h4.get? b := fun b n => (s7.2 b n).trans ((s6.2 b n).trans (s5.2 b n))
  exact wpAny_bind (wpAny_letGo (wpAny_pure ⟨_, rfl, hQ h1 h7 n1 u7 ((up _ (Nat.ne_of_gt el)).trans t4) (by rw [s7.1, s6.1, s5.1, z4]) fun b o n y => (up b n).trans (k4 b o n y)⟩))
theorem pyNext_enum_over {e q : Addr} {c : Int} {old x : Value} {NX : Heap → Prop} {Q : Option Value → Shared → Prop} (he : IsEnum s.heap e q c old)
    (hn : ∀ (E' : Value → Shared → Prop) (Q' : Value → Shared → Prop), (∀ h, NX h → Q' x { s with heap := h }) → wpAny (model prog w) A.in1 (Builtin.SmallTypes.nextOf (.ref q)) Q' E' s) (hk : ∀ h, NX h → IsEnum h e q c old)
    (hQ : ∀ h1 h2, NX h1 → IsEnumOut h2 e q (c + 1) x h1.objs.size → h2.get? h1.objs.size = some { cls := .type "tuple", data := .seq #[.int c s.toks, x] } → h2.objs.size = h1.objs.size + 1 →
      (∀ b o, b ≠ e → h1.get? b = some o → h2.get? b = some o) → Q (some (.ref h1.objs.size)) { s with heap := h2, toks := s.toks + 1 }) :
    wpAny (model prog w) A (pyNext (.ref e)) Q E s := by
  have ty : s.TypeIs (.ref e) "enumerate" := ⟨_, he, rfl⟩
  unfold pyNext
  exact wpAny_bind (wpAny_attempt (wpAny_callSpecial?_slot (name := Str.ofString "__next__") ty F.slot_enumerate_next (wpAny_call_entry F.slot_enumerate_next ty F.entry_enumerate_next
    (enum_over he (hn _) hk fun h1 h2 n1 a b c d => wpAny_pure (hQ h1 h2 n1 a b c d)) (F.args_enumerate_next_1 _))))
theorem pyNext_enum_stop {e q : Addr} {c : Int} {old : Value} {Q : Option Value → Shared → Prop} {ST : Heap → Prop} (he : IsEnum s.heap e q c old)
    (hn : ∀ (E' : Value → Shared → Prop) (Q' : Value → Shared → Prop), (∀ h x, ST h → (∃ o, h.get? x = some o ∧ o.cls = .type "StopIteration") → E' (.ref x) { s with heap := h }) → wpAny (model prog w) A.in1 (Builtin.SmallTypes.nextOf (.ref q)) Q' E' s)
    (hQ : ∀ h, ST h → Q none { s with heap := h }) : wpAny (model prog w) A (pyNext (.ref e)) Q E s := by
  have ty : s.TypeIs (.ref e) "enumerate" := ⟨_, he, rfl⟩
  unfold pyNext
  refine wpAny_bind (wpAny_attempt (wpAny_callSpecial?_slot (name := Str.ofString "__next__") ty F.slot_enumerate_next (wpAny_call_entry F.slot_enumerate_next ty F.entry_enumerate_next ?_ (F.args_enumerate_next_1 _))))
  show wpAny _ _ (field (.ref e) 2 >>= _) _ _ _
  refine wpAny_bind (wpAny_field he rfl (x := .ref q) rfl (wpAny_bind (hn _ _ fun h x st y => ?_)))
  obtain ⟨o, ho, hc⟩ := y
  exact wpAny_bind (wpAny_isInstance (T := "StopIteration") (b := true) ⟨o, ho, hc⟩ isSubtype_stop (wpAny_pure (hQ h st)))
end
end XV
set_option Elab.async false
set_option linter.all false
set_option maxRecDepth 100000
set_option maxHeartbeats 800000
/-! for i, p in enumerate(zip(a, b)), a and b lists. -/
namespace XV
open PySem
open PySem.Sem (wp)
open AutoSeq1 (wpAny_loadPart')
theorem meets_enum_zip (q a b : Addr) : Meets (Builtin.«enumerate.__new__» ⟨[.type "enumerate", .ref q], []⟩) (fun _ R s => IsZip s.heap q a b .none ∧ R (.ok (.ret (.ref s.heap.objs.size)))
    { s with heap := s.heap.push { cls := .type "enumerate", data := .fields #[.none, .bool false, .ref q, rawInt 0, .none, .none] } }) :=
  .of_wp fun prog w A R s y => by
    obtain ⟨hp, gs, dr, tk, os⟩ := s
    obtain ⟨hl, y⟩ := y
    have hsub := sub_enumerate
    wp_walk using wpAny_loadPart' hl
    refine wpAny_stack_any fun sk => wpAny_pure ?_
    split
    · rename_i k _ _ _ _ _
      cases (k == Value.type "enumerate")
      · wp_walk using wpAny_loadPart' hl, wpAny_pyIter_zip hl
        exact ⟨_, rfl, y⟩
      · wp_walk using wpAny_loadPart' hl, wpAny_pyIter_zip hl
        exact ⟨_, rfl, y⟩
    · wp_walk using wpAny_loadPart' hl, wpAny_pyIter_zip hl
      exact ⟨_, rfl, y⟩
section
variable {prog : Program} {w : World} {A : Around} {E : Value → Shared → Prop} {s : Shared}
theorem call_enum_zip {q a b : Addr} {Q : Value → Shared → Prop} (hz : IsZip s.heap q a b .none) (k : ∀ h, IsEnum h s.heap.objs.size q 0 .none → (∀ c o, s.heap.get? c = some o → h.get? c = some o) → Q (.ref s.heap.objs.size) { s with heap := h }) :
    wpAny (model prog w) A (call (.type "enumerate") [.ref q]) Q E s := by
  refine callType_new F.called_enumerate (by decide) (F.typeCall_enumerate_1 _) (F.newCall_enumerate_1 _) (fun obj => F.args_object_init_2 obj _) F.entry_enumerate_new (meets_enum_zip q a b) ⟨hz, ?_⟩
  have he : IsEnum (s.heap.push { cls := .type "enumerate", data := .fields #[.none, .bool false, .ref q, rawInt 0, .none, .none] }) s.heap.objs.size q 0 .none := Heap.get?_push_size _ rfl
  exact ⟨⟨_, he, rfl⟩, k _ he fun c o e => Heap.get?_push_of_some _ e⟩
end
end XV
set_option Elab.async false
set_option linter.all false
set_option maxRecDepth 100000
set_option maxHeartbeats 800000
namespace XV
open PySem PySem.Spec PyProof.Rows L2
section
variable {prog : Program} {w : World} {A : Around} {E : Value → Shared → Prop} {s : Shared}
theorem nextOf_zip2 {N l1 l2 i : Nat} {f0 : Value} {f1 : Bool} {q1 q2 x1 x2 : Value} {us1 us2 : Array Value} {Q : Value → Shared → Prop} (b1 : l1 < N) (b2 : l2 < N)
    (hz : ZS s.heap (N + 4) (N + 2) (N + 3) f0 f1) (hf : OwnV f0) (hI : s.heap.get? (N + 2) = some { cls := .type "tuple", data := .seq #[.ref (N + 0), .ref (N + 1)] }) (hO : s.heap.get? (N + 3) = some { cls := .type "tuple", data := .seq #[q1, q2] })
    (t1 : s.heap.IsListIter (N + 0) l1 i) (L1 : s.heap.IsList l1 us1) (t2 : s.heap.IsListIter (N + 1) l2 i) (L2 : s.heap.IsList l2 us2) (e1 : us1[i]? = some x1) (e2 : us2[i]? = some x2)
    (hQ : ∀ h, (∃ g0 g1, OwnV g0 ∧ ZS h (N + 4) (N + 2) (N + 3) g0 g1) → (∃ q1 q2, h.get? (N + 3) = some { cls := .type "tuple", data := .seq #[q1, q2] }) → h.IsListIter (N + 0) l1 (i + 1) → h.IsListIter (N + 1) l2 (i + 1) →
      h.get? s.heap.objs.size = some { cls := .type "tuple", data := .seq #[x1, x2] } → h.objs.size = s.heap.objs.size + 1 →
      (∀ c o, c ≠ (N + 4) → c ≠ (N + 3) → c ≠ (N + 0) → c ≠ (N + 1) → s.heap.get? c = some o → h.get? c = some o) → Q (.ref s.heap.objs.size) { s with heap := h }) :
    wpAny (model prog w) A (Builtin.SmallTypes.nextOf (.ref (N + 4))) Q E s := by
  have ty : s.TypeIs (.ref (N + 4)) "zip" := ⟨_, hz, rfl⟩
  unfold Builtin.SmallTypes.nextOf
  exact wpAny_bind (wpAny_callSpecial?_slot (name := Str.ofString "__next__") ty F.slot_zip_next (wpAny_call_entry F.slot_zip_next ty F.entry_zip_next
    (zip2_item b1 b2 hz hf hI hO t1 L1 t2 L2 e1 e2 fun h a b c d e f k => wpAny_pure (hQ h a b c d e f k)) (F.args_zip_next_1 _)))
theorem nextOf_zip2_end {N l1 l2 i : Nat} {f0 : Value} {f1 : Bool} {us1 : Array Value} {Q : Value → Shared → Prop} (b1 : l1 < N) (hh : A.handled = none)
    (hz : ZS s.heap (N + 4) (N + 2) (N + 3) f0 f1) (hf : OwnV f0) (hI : s.heap.get? (N + 2) = some { cls := .type "tuple", data := .seq #[.ref (N + 0), .ref (N + 1)] }) (t1 : s.heap.IsListIter (N + 0) l1 i) (L1 : s.heap.IsList l1 us1) (e1 : us1[i]? = none)
    (hE : ∀ h x, (∀ c o, c ≠ (N + 4) → c ≠ (N + 3) → c ≠ (N + 0) → c ≠ (N + 1) → s.heap.get? c = some o → h.get? c = some o) → (∃ o, h.get? x = some o ∧ o.cls = .type "StopIteration") → E (.ref x) { s with heap := h }) :
    wpAny (model prog w) A (Builtin.SmallTypes.nextOf (.ref (N + 4))) Q E s := by
  have ty : s.TypeIs (.ref (N + 4)) "zip" := ⟨_, hz, rfl⟩
  unfold Builtin.SmallTypes.nextOf
  exact wpAny_bind (wpAny_callSpecial?_slot (name := Str.ofString "__next__") ty F.slot_zip_next (wpAny_call_entry F.slot_zip_next ty F.entry_zip_next
    (zip2_end (l1 := l1) (l2 := l2) b1 hh hz hf hI t1 L1 e1 hE) (F.args_zip_next_1 _)))
end
/-- the lists at a and b: each turn tells the index and a pair of its own -/
def Itez (K : PySem.W.Frag) (a b : Addr) : It where
  go := fun i H => ∃ (xs ys : List V) (x y : V), SqL K H a xs ∧ SqL K H b ys ∧ xs[i]? = some x ∧ ys[i]? = some y
  yld := fun i H v H' => ∃ T U x y, v = .ref U ∧ H T = none ∧ H U = none ∧ U ≠ T ∧ H' = upd (upd H T (.tup [x, y])) U (.tup [.int (i : Nat), .ref T]) ∧ (∀ xs, SqL K H a xs → xs[i]? = some x) ∧ ∀ ys, SqL K H b ys → ys[i]? = some y
  stop := fun i H => ∃ xs : List V, SqL K H a xs ∧ xs.length ≤ i
def AtE (a b N i : Nat) (h : Heap) : Prop :=
  (∃ old, IsEnum h (N + 5) (N + 4) ((i : Nat) : Int) old) ∧ (∃ f0 f1, OwnV f0 ∧ ZS h (N + 4) (N + 2) (N + 3) f0 f1) ∧ h.get? (N + 2) = some { cls := .type "tuple", data := .seq #[.ref (N + 0), .ref (N + 1)] } ∧
  (∃ p q, h.get? (N + 3) = some { cls := .type "tuple", data := .seq #[p, q] }) ∧ h.IsListIter (N + 0) a i ∧ h.IsListIter (N + 1) b i
abbrev fpE (N : Nat) : List Addr := [N + 5, N + 4, N + 2, N + 3, N + 0, N + 1]
theorem fpE_mem {N : Nat} {c : Addr} (h : c ∈ fpE N) : c = N + 5 ∨ c = N + 4 ∨ c = N + 2 ∨ c = N + 3 ∨ c = N + 0 ∨ c = N + 1 := by simpa using h
theorem turnE {P : Program} {w : World} {K : PySem.W.Frag} {es : List Expr} {kk : Nat} {tp : Pos} {a b N : Nat} (la : a < N) (lb : b < N) :
    Turn P w K (.Tuple es kk tp) (Itez K a b) (fpE N) (N + 5) (AtE a b N) where
  mem := List.mem_cons_self
  obj := fun i h ⟨⟨_, s1⟩, ⟨_, _, _, s2⟩, s3, ⟨_, _, s4⟩, ⟨o1, e1, _, d1⟩, ⟨o2, e2, _, d2⟩⟩ c hc => by
    rcases fpE_mem hc with rfl | rfl | rfl | rfl | rfl | rfl
    · exact ⟨_, s1, fun _ x => nomatch x⟩
    · exact ⟨_, s2, fun _ x => nomatch x⟩
    · exact ⟨_, s3, fun _ x => nomatch x⟩
    · exact ⟨_, s4, fun _ x => nomatch x⟩
    · exact ⟨o1, e1, fun _ x => by rw [d1] at x; cases x⟩
    · exact ⟨o2, e2, fun _ x => by rw [d2] at x; cases x⟩
  keep := fun i h h' ⟨⟨o, s1⟩, ⟨f0, f1, ow, s2⟩, s3, ⟨p, q, s4⟩, s5, s6⟩ kp =>
    ⟨⟨o, kp _ (by simp) _ s1⟩, ⟨f0, f1, ow, kp _ (by simp) _ s2⟩, kp _ (by simp) _ s3, ⟨p, q, kp _ (by simp) _ s4⟩, s5.at (fun o e => kp _ (by simp) o e), s6.at (fun o e => kp _ (by simp) o e)⟩
  item := by
    intro X eP ew eK calm i pins s σ H E I fp st gg
    subst eP ew eK
    obtain ⟨⟨old, s1⟩, ⟨f0, f1, ow, s2⟩, s3, ⟨p0, q0, s4⟩, s5, s6⟩ := st
    obtain ⟨xs, ys, x, y, tx, ly, ex, ey⟩ := gg
    obtain ⟨us, ru, pu, _⟩ := I.list tx
    obtain ⟨vs, rv, pw, _⟩ := I.list ly
    obtain ⟨u, eu, rux⟩ := ru.get ex
    obtain ⟨v, ev, rvy⟩ := rv.get ey
    have lt : ∀ c ∈ fpE N, c < s.heap.objs.size := fun c hc => by
      rcases fpE_mem hc with rfl | rfl | rfl | rfl | rfl | rfl
      · exact Heap.lt_size s1
      · exact Heap.lt_size s2
      · exact Heap.lt_size s3
      · exact Heap.lt_size s4
      · obtain ⟨_, q, _⟩ := s5
        exact Heap.lt_size q
      · obtain ⟨_, q, _⟩ := s6
        exact Heap.lt_size q
    refine pyNext_enum_over (c := (i : Int)) (x := .ref s.heap.objs.size) (NX := fun h => (∃ g0 g1, OwnV g0 ∧ ZS h (N + 4) (N + 2) (N + 3) g0 g1) ∧ (∃ q1 q2, h.get? (N + 3) = some { cls := .type "tuple", data := .seq #[q1, q2] }) ∧
      h.IsListIter (N + 0) a (i + 1) ∧ h.IsListIter (N + 1) b (i + 1) ∧ h.get? s.heap.objs.size = some { cls := .type "tuple", data := .seq #[u, v] } ∧ h.objs.size = s.heap.objs.size + 1 ∧
      (∀ c o, c ≠ (N + 4) → c ≠ (N + 3) → c ≠ (N + 0) → c ≠ (N + 1) → s.heap.get? c = some o → h.get? c = some o)) s1
      (fun E' Q' k => nextOf_zip2 la lb s2 ow s3 s4 s5 pu.isList s6 pw.isList (by simpa using eu) (by simpa using ev) fun h a b c d e f kp => k h ⟨a, b, c, d, e, f, kp⟩)
      (fun h n => n.2.2.2.2.2.2 _ _ (ad (by omega)) (ad (by omega)) (ad (by omega)) (ad (by omega)) s1) fun h1 h2 n1 o2 t2 z2 k2 => ?_
    obtain ⟨n1, n2, n3, n4, n5, n6, n7⟩ := n1
    refine ⟨_, rfl, wpAny_letOwnedTupleGo_enum (s := { s with heap := h2, toks := s.toks + 1 }) o2 fun g he sb => ?_⟩
    have el : (N + 5 : Nat) < h1.objs.size := by
      have z : (N + 5 : Nat) < s.heap.objs.size := lt (N + 5) (by simp)
      omega
    have new1 : ObjOk X.prog X.w (upd H s.heap.objs.size (.tup [x, y])) h1 s.heap.objs.size (.tup [x, y]) := ⟨(by show 2 ≤ sizeLine; decide), [u, v], .cons rux (.cons rvy .nil), ⟨_, n5, rfl, _, rfl⟩⟩
    have J1 := I.turnedNew (t' := s.toks) (h' := h1) (ch := [N + 4, N + 3, N + 0, N + 1]) (fun c o out q => n7 c o (fun e => out (by simp [e])) (fun e => out (by simp [e])) (fun e => out (by simp [e])) (fun e => out (by simp [e])) q) (fun c hc => fp c (by
      simp only [List.mem_cons, List.not_mem_nil, or_false] at hc
      rcases hc with rfl | rfl | rfl | rfl <;> simp)) (Nat.le_refl _) new1
    have fT : (N + 5 : Nat) ≠ s.heap.objs.size := Nat.ne_of_lt (lt (N + 5) (by simp))
    have fE : FpOk X pins (upd H s.heap.objs.size (.tup [x, y])) (N + 5) := ⟨by rw [upd_ne fT]; exact (fp _ (by simp)).1, (fp _ (by simp)).2⟩
    have t3 : g.get? h1.objs.size = some { cls := .type "tuple", data := .seq #[.int (i : Int) s.toks, .ref s.heap.objs.size] } := (sb.2 _ (Nat.ne_of_gt el)).trans t2
    have new2 : ObjOk X.prog X.w (upd (upd H s.heap.objs.size (.tup [x, y])) h1.objs.size (.tup [.int (i : Nat), .ref s.heap.objs.size])) g h1.objs.size (.tup [.int (i : Nat), .ref s.heap.objs.size]) :=
      ⟨(by show 2 ≤ sizeLine; decide), [.int (i : Int) s.toks, .ref s.heap.objs.size], .cons ⟨_, rfl⟩ (.cons rfl .nil), ⟨_, t3, rfl, _, rfl⟩⟩
    have J2 := J1.turnedNew (t' := s.toks + 1) (h' := g) (ch := [N + 5]) (fun c o out q => (sb.2 c (fun e => out (by simp [e]))).trans (k2 c o (fun e => out (by simp [e])) q)) (fun c hc => by
      rcases List.mem_singleton.mp hc with rfl
      exact fE) (Nat.le_refl _) new2
    have up : ∀ c o, c ≠ (N + 5 : Nat) → h1.get? c = some o → g.get? c = some o := fun c o n q => (sb.2 c n).trans (k2 c o n q)
    refine ⟨.ref h1.objs.size, _, J2, rfl, ⟨s.heap.objs.size, h1.objs.size, x, y, rfl, I.hok.fresh (Nat.le_refl _), I.hok.fresh (by omega), (by rw [n6]; exact Nat.succ_ne_self _), rfl, fun l hl => (I.list_inj hl tx) ▸ ex, fun l hl => (I.list_inj hl ly) ▸ ey⟩, ⟨⟨.ref s.heap.objs.size, ?_⟩, ?_, ?_, ?_, ?_, ?_⟩, fun c hc => ?_⟩
    · rw [show ((i + 1 : Nat) : Int) = (i : Int) + 1 by omega]
      exact he
    · obtain ⟨g0, g1, og, zg⟩ := n1
      exact ⟨g0, g1, og, up _ _ (ad (by omega)) zg⟩
    · exact up _ _ (ad (by omega)) (n7 _ _ (ad (by omega)) (ad (by omega)) (ad (by omega)) (ad (by omega)) s3)
    · obtain ⟨q1, q2, e⟩ := n2
      exact ⟨q1, q2, up _ _ (ad (by omega)) e⟩
    · exact n3.at fun o e => up _ _ (ad (by omega)) e
    · exact n4.at fun o e => up _ _ (ad (by omega)) e
    · have l := lt c hc
      rw [upd_ne (Nat.ne_of_lt (show c < h1.objs.size by rw [n6]; exact Nat.lt_succ_of_lt l)), upd_ne (Nat.ne_of_lt l)]
      exact (fp c hc).1
  done := by
    intro X eP ew eK calm i pins s σ H E I fp st gg
    subst eP ew eK
    obtain ⟨⟨old, s1⟩, ⟨f0, f1, ow, s2⟩, s3, ⟨p0, q0, s4⟩, s5, s6⟩ := st
    obtain ⟨xs, tx, stop⟩ := gg
    obtain ⟨us, ru, pu, _⟩ := I.list tx
    have n1 := ru.length
    have hh : X.A.in1.handled = none := I.ok.hd calm
    refine pyNext_enum_stop (ST := fun h => ∀ c o, c ≠ (N + 4) → c ≠ (N + 3) → c ≠ (N + 0) → c ≠ (N + 1) → s.heap.get? c = some o → h.get? c = some o) s1
      (fun E' Q' k => nextOf_zip2_end (l2 := b) la hh s2 ow s3 s5 pu.isList (by simp; omega) fun h x kp y => k h x kp y) fun h kp => ⟨rfl, ?_⟩
    exact I.turnedL (t' := s.toks) (ch := fpE N) (fun c o out q => kp c o (fun e => out (by simp [e])) (fun e => out (by simp [e])) (fun e => out (by simp [e])) (fun e => out (by simp [e])) q) fp
  self := fun A i s Q E st q => by
    obtain ⟨⟨_, s1⟩, _⟩ := st
    exact wpAny_pyIter_enum s1 q
/-- .. in enumerate(zip(e, e2)) -/
def iEZ (K : PySem.W.Frag) (ta : TA) : TI := fun σ H R => ta σ H fun vs H1 => ∃ a b xs ys, vs = [.ref a, .ref b] ∧ (SqL K H1 a xs ∧ SqL K H1 b ys) ∧ R (Itez K a b) H1
theorem pi_enumZ {X : Cx} {e e2 : Expr} {ta : TA} {p pz pos pos2 tp : Pos} {es : List Expr} {kk : Nat} (gE : Gl X "enumerate") (z_enum : X.mg "enumerate" = none) (gZ : Gl X "zip") (z_zip : X.mg "zip" = none) (ha : PA X [e, e2] ta)
    (hs : starEach [e, e2] X.env = (false, eval e X.env) :: starEach [e2] X.env := by rfl) (np : (backTo pos2 (starEach [e2] X.env)).any (·.1) = false := by rfl)
    (hs2 : starEach [.Call (.Name "zip" pz) [e, e2] [] pos2] X.env = (false, eval (.Call (.Name "zip" pz) [e, e2] [] pos2) X.env) :: starEach [] X.env := by rfl) :
    PI X (.Tuple es kk tp) (.Call (.Name "enumerate" p) [.Call (.Name "zip" pz) [e, e2] [] pos2] [] pos) (iEZ X.K ta) := by
  refine ⟨fun pins s σ H R I h => Call_ (ld_blt I gE z_enum PyProof.Rows.boot_enumerate (PyProof.Rows.callWith_type1 ?_ hs2 rfl))⟩
  rw [hs2]
  show wpAny _ _ (spliced ((false, eval (.Call (.Name "zip" pz) [e, e2] [] pos2) X.env) :: backTo pos (starEach [] X.env))) _ _ s
  refine Calls.spliced_cons (Call_ (ld_blt I gZ z_zip PyProof.Rows.boot_zip (PyProof.Rows.callWith_type1 (thn (ha.run pos2 pins s σ H _ I h) fun us s1 ⟨vs, H1, J, rv, q⟩ => ?_) hs np)))
  obtain ⟨a, b, xs, ys, rfl, ⟨tx, ly⟩, q⟩ := q
  obtain ⟨u1, u2, rfl, r1, r2⟩ := vals2 rv
  cases r1
  cases r2
  obtain ⟨ps, _, pu, _⟩ := J.list tx
  obtain ⟨qs, _, pw, _⟩ := J.list ly
  refine zip_begins2 (begins_list a ps.toArray) (begins_list b qs.toArray) pu.isList pw.isList fun h' z1 t1 t2 g1 g2 sz kp => Calls.spliced_nil (call_enum_zip z1 fun h2 he kp2 => wpAny_pyIter_enum he ?_)
  have J2 : Inv X pins σ H1 { s1 with heap := h2 } := J.kept (t' := s1.toks) fun c o e => kp2 c o (kp c o e)
  have eE : h'.objs.size = s1.heap.objs.size + 5 := sz
  refine ⟨h'.objs.size, fpE s1.heap.objs.size, AtE a b s1.heap.objs.size, Itez X.K a b, H1, rfl, J2, ?_, ⟨⟨.none, ?_⟩, ⟨.none, false, .inl rfl, kp2 _ _ z1⟩, kp2 _ _ t1, ⟨_, _, kp2 _ _ t2⟩, ⟨_, kp2 _ _ g1, rfl, rfl⟩, ⟨_, kp2 _ _ g2, rfl, rfl⟩⟩, fun c hc => ?_, q⟩
  · rw [eE]
    exact turnE pu.lt pw.lt
  · rw [← eE]
    exact he
  · have le : s1.heap.objs.size ≤ c := by
      rcases fpE_mem hc with rfl | rfl | rfl | rfl | rfl | rfl
      · exact Nat.le_add_right _ 5
      · exact Nat.le_add_right _ 4
      · exact Nat.le_add_right _ 2
      · exact Nat.le_add_right _ 3
      · exact Nat.le_refl _
      · exact Nat.le_add_right _ 1
    exact J.fpOk le (J.hok.fresh le)
end XV
set_option Elab.async false
set_option linter.all false
set_option maxRecDepth 100000
set_option maxHeartbeats 800000
/-! list(zip(a, b, c)) of three lists. -/
namespace XV
open PySem PySem.Spec PyProof.Rows L2
section
variable {prog : Program} {w : World} {A : Around} {E : Value → Shared → Prop} {s : Shared}
theorem pyNext_zip3 {N l1 l2 l3 i : Nat} {f0 : Value} {f1 : Bool} {q1 q2 q3 x1 x2 x3 : Value} {us1 us2 us3 : Array Value} {Q : Option Value → Shared → Prop} (b1 : l1 < N) (b2 : l2 < N) (b3 : l3 < N)
    (hz : ZS s.heap (N + 5) (N + 3) (N + 4) f0 f1) (hf : OwnV f0) (hI : s.heap.get? (N + 3) = some { cls := .type "tuple", data := .seq #[.ref (N + 0), .ref (N + 1), .ref (N + 2)] }) (hO : s.heap.get? (N + 4) = some { cls := .type "tuple", data := .seq #[q1, q2, q3] })
    (t1 : s.heap.IsListIter (N + 0) l1 i) (L1 : s.heap.IsList l1 us1) (t2 : s.heap.IsListIter (N + 1) l2 i) (L2 : s.heap.IsList l2 us2) (t3 : s.heap.IsListIter (N + 2) l3 i) (L3 : s.heap.IsList l3 us3) (e1 : us1[i]? = some x1) (e2 : us2[i]? = some x2) (e3 : us3[i]? = some x3)
    (hQ : ∀ h, (∃ g0 g1, OwnV g0 ∧ ZS h (N + 5) (N + 3) (N + 4) g0 g1) → (∃ q1 q2 q3, h.get? (N + 4) = some { cls := .type "tuple", data := .seq #[q1, q2, q3] }) → h.IsListIter (N + 0) l1 (i + 1) → h.IsListIter (N + 1) l2 (i + 1) → h.IsListIter (N + 2) l3 (i + 1) →
      h.get? s.heap.objs.size = some { cls := .type "tuple", data := .seq #[x1, x2, x3] } → h.objs.size = s.heap.objs.size + 1 →
      (∀ c o, c ≠ (N + 5) → c ≠ (N + 4) → c ≠ (N + 0) → c ≠ (N + 1) → c ≠ (N + 2) → s.heap.get? c = some o → h.get? c = some o) → Q (some (.ref s.heap.objs.size)) { s with heap := h }) :
    wpAny (model prog w) A (pyNext (.ref (N + 5))) Q E s := by
  have ty : s.TypeIs (.ref (N + 5)) "zip" := ⟨_, hz, rfl⟩
  unfold pyNext
  exact wpAny_bind (wpAny_attempt (wpAny_callSpecial?_slot (name := Str.ofString "__next__") ty F.slot_zip_next (wpAny_call_entry F.slot_zip_next ty F.entry_zip_next
    (zip3_item b1 b2 b3 hz hf hI hO t1 L1 t2 L2 t3 L3 e1 e2 e3 fun h a b c d e f g k => wpAny_pure (hQ h a b c d e f g k)) (F.args_zip_next_1 _))))
theorem pyNext_zip3_end {N l1 l2 l3 i : Nat} {f0 : Value} {f1 : Bool} {us1 : Array Value} {Q : Option Value → Shared → Prop} (b1 : l1 < N) (hh : A.handled = none)
    (hz : ZS s.heap (N + 5) (N + 3) (N + 4) f0 f1) (hf : OwnV f0) (hI : s.heap.get? (N + 3) = some { cls := .type "tuple", data := .seq #[.ref (N + 0), .ref (N + 1), .ref (N + 2)] }) (t1 : s.heap.IsListIter (N + 0) l1 i) (L1 : s.heap.IsList l1 us1) (e1 : us1[i]? = none)
    (hQ : ∀ h, (∀ c o, c ≠ (N + 5) → c ≠ (N + 4) → c ≠ (N + 0) → c ≠ (N + 1) → c ≠ (N + 2) → s.heap.get? c = some o → h.get? c = some o) → Q none { s with heap := h }) :
    wpAny (model prog w) A (pyNext (.ref (N + 5))) Q E s := by
  have ty : s.TypeIs (.ref (N + 5)) "zip" := ⟨_, hz, rfl⟩
  unfold pyNext
  refine wpAny_bind (wpAny_attempt (wpAny_callSpecial?_slot (name := Str.ofString "__next__") ty F.slot_zip_next (wpAny_call_entry F.slot_zip_next ty F.entry_zip_next
    (zip3_end (l1 := l1) (l2 := l2) (l3 := l3) b1 hh hz hf hI t1 L1 e1 fun h x kp y => ?_) (F.args_zip_next_1 _))))
  obtain ⟨o, ho, hc⟩ := y
  exact wpAny_bind (wpAny_isInstance (T := "StopIteration") (b := true) ⟨o, ho, hc⟩ isSubtype_stop (wpAny_pure (hQ h kp)))
end
def AtZ (a b c N i : Nat) (h : Heap) : Prop :=
  (∃ f0 f1, OwnV f0 ∧ ZS h (N + 5) (N + 3) (N + 4) f0 f1) ∧ h.get? (N + 3) = some { cls := .type "tuple", data := .seq #[.ref (N + 0), .ref (N + 1), .ref (N + 2)] } ∧
  (∃ p q r, h.get? (N + 4) = some { cls := .type "tuple", data := .seq #[p, q, r] }) ∧ h.IsListIter (N + 0) a i ∧ h.IsListIter (N + 1) b i ∧ h.IsListIter (N + 2) c i
abbrev fpZ (N : Nat) : List Addr := [N + 5, N + 3, N + 4, N + 0, N + 1, N + 2]
theorem fpZ_mem {N : Nat} {c : Addr} (h : c ∈ fpZ N) : c = N + 5 ∨ c = N + 3 ∨ c = N + 4 ∨ c = N + 0 ∨ c = N + 1 ∨ c = N + 2 := by simpa using h
theorem AtZ.keep {a b c N i : Nat} {h h' : Heap} (st : AtZ a b c N i h) (kp : ∀ c ∈ fpZ N, ∀ o, h.get? c = some o → h'.get? c = some o) : AtZ a b c N i h' := by
  obtain ⟨⟨f0, f1, ow, s2⟩, s3, ⟨p, q, r, s4⟩, s5, s6, s7⟩ := st
  exact ⟨⟨f0, f1, ow, kp _ (by simp) _ s2⟩, kp _ (by simp) _ s3, ⟨p, q, r, kp _ (by simp) _ s4⟩, s5.at (fun o e => kp _ (by simp) o e), s6.at (fun o e => kp _ (by simp) o e), s7.at (fun o e => kp _ (by simp) o e)⟩
theorem AtZ.lt {a b c N i : Nat} {h : Heap} (st : AtZ a b c N i h) : ∀ d ∈ fpZ N, d < h.objs.size := fun d hd => by
  obtain ⟨⟨f0, f1, ow, s2⟩, s3, ⟨p, q, r, s4⟩, ⟨_, s5, _⟩, ⟨_, s6, _⟩, ⟨_, s7, _⟩⟩ := st
  rcases fpZ_mem hd with rfl | rfl | rfl | rfl | rfl | rfl
  · exact Heap.lt_size s2
  · exact Heap.lt_size s3
  · exact Heap.lt_size s4
  · exact Heap.lt_size s5
  · exact Heap.lt_size s6
  · exact Heap.lt_size s7
/-- the triples made so far -/
def Trp (H : Hp) (Ts : List Addr) (xs ys us : List V) : Prop := ∀ (j : Nat) (T : Addr) (x y u : V), Ts[j]? = some T → xs[j]? = some x → ys[j]? = some y → us[j]? = some u → H T = some (.tup [x, y, u])
theorem drainZ {X : Cx} {pins : List (Addr × Obj)} {σ : L2.St} {H0 : Hp} {a b c N S : Nat} {xs ys us : List V} {B : Around} {R : Result → Shared → Prop} (la : a < N) (lb : b < N) (lc : c < N) (hh : B.handled = none) (n1 : xs.length = ys.length) (n2 : xs.length = us.length) (nz : xs.length < sizeLine)
    (ha : H0 a = some (.lst xs)) (hb : H0 b = some (.lst ys)) (hc : H0 c = some (.lst us)) (h0 : H0 S = none)
    (hend : ∀ (s : Shared) (H : Hp) (Ts : List Addr), Inv X pins σ H s → Same H0 H → Ts.length = xs.length → H S = some (.lst (Ts.map V.ref)) → Trp H Ts xs ys us → R (.ok (.ret .none)) s) :
    ∀ (m i : Nat) (s : Shared) (H : Hp) (Ts : List Addr), i + m = xs.length → Inv X pins σ H s → (∀ d ∈ fpZ N, FpOk X pins H d) → AtZ a b c N i s.heap → Same H0 H → Ts.length = i → H S = some (.lst (Ts.map V.ref)) → Trp H Ts xs ys us →
      codeAny (model X.prog X.w) B (.builtin "list.extend.loop" ⟨[.ref S, .ref (N + 5), .none], []⟩) R s := by
  intro m
  induction m with
  | zero =>
    intro i s H Ts hi I fp st sm lT hS tr
    refine codeAny_builtin F.entry_extend_loop ?_
    rw [Around.under_plainId F.plain_extend_loop]
    show wpAny _ B.in1 (pyNext (.ref (N + 5)) >>= _) _ _ s
    obtain ⟨⟨f0, f1, ow, s2⟩, s3, ⟨p, q, r, s4⟩, s5, s6, s7⟩ := st
    obtain ⟨ps, ru, pu, _⟩ := I.list (SqL.of (sm _ _ ha))
    have e := ru.length
    refine wpAny_bind (pyNext_zip3_end (l2 := b) (l3 := c) la hh s2 ow s3 s5 pu.isList (by simp; omega) fun h kp => wpAny_pure ?_)
    refine hend _ H Ts (I.turnedL (t' := s.toks) (ch := fpZ N) (fun d o out q => kp d o (fun e => out (by simp [e])) (fun e => out (by simp [e])) (fun e => out (by simp [e])) (fun e => out (by simp [e])) (fun e => out (by simp [e])) q) fp) sm (by omega) hS tr
  | succ m ih =>
    intro i s H Ts hi I fp st sm lT hS tr
    have lt := st.lt
    refine codeAny_builtin F.entry_extend_loop ?_
    rw [Around.under_plainId F.plain_extend_loop]
    show wpAny _ B.in1 (pyNext (.ref (N + 5)) >>= _) _ _ s
    obtain ⟨⟨f0, f1, ow, s2⟩, s3, ⟨p, q, r, s4⟩, s5, s6, s7⟩ := st
    obtain ⟨ps, ru, pu, _⟩ := I.list (SqL.of (sm _ _ ha))
    obtain ⟨qs, rv, pv, _⟩ := I.list (SqL.of (sm _ _ hb))
    obtain ⟨rs, rw_, pw, _⟩ := I.list (SqL.of (sm _ _ hc))
    have ex : xs[i]? = some xs[i] := List.getElem?_eq_getElem (by omega)
    have ey : ys[i]? = some ys[i] := List.getElem?_eq_getElem (by omega)
    have ez : us[i]? = some us[i] := List.getElem?_eq_getElem (by omega)
    generalize xs[i] = x at ex
    generalize ys[i] = y at ey
    generalize us[i] = z at ez
    obtain ⟨u1, eu, r1⟩ := ru.get ex
    obtain ⟨u2, ev, r2⟩ := rv.get ey
    obtain ⟨u3, ew, r3⟩ := rw_.get ez
    refine wpAny_bind (pyNext_zip3 la lb lc s2 ow s3 s4 s5 pu.isList s6 pv.isList s7 pw.isList (by simpa using eu) (by simpa using ev) (by simpa using ew) fun h k1 k2 k3 k4 k5 k6 k7 k8 => ?_)
    have new1 : ObjOk X.prog X.w (upd H s.heap.objs.size (.tup [x, y, z])) h s.heap.objs.size (.tup [x, y, z]) := ⟨(by show 3 ≤ sizeLine; decide), [u1, u2, u3], .cons r1 (.cons r2 (.cons r3 .nil)), ⟨_, k6, rfl, _, rfl⟩⟩
    have J1 := I.turnedNew (t' := s.toks) (h' := h) (ch := [N + 5, N + 4, N + 0, N + 1, N + 2]) (fun d o out q => k8 d o (fun e => out (by simp [e])) (fun e => out (by simp [e])) (fun e => out (by simp [e])) (fun e => out (by simp [e])) (fun e => out (by simp [e])) q) (fun d hd => fp d (by
      simp only [List.mem_cons, List.not_mem_nil, or_false] at hd
      rcases hd with rfl | rfl | rfl | rfl | rfl <;> simp)) (Nat.le_refl _) new1
    have nT : H s.heap.objs.size = none := I.hok.fresh (Nat.le_refl _)
    have sT := same_new (o := .tup [x, y, z]) nT
    have hS1 := sT _ _ hS
    obtain ⟨hz', its, n, ri, e⟩ := J1.hok S _ hS1
    have el := ri.length
    rw [List.length_map] at el hz'
    show wpAny _ B.in1 (updateSeq S (·.push (.ref s.heap.objs.size)) >>= _) _ _ _
    refine wpAny_bind ?_
    have e' : h.get? S = some { cls := .type "list", data := .seq its.toArray n } := e
    refine wpAny_updateSeq (s := { s with heap := h }) (f := (·.push (.ref s.heap.objs.size))) e' rfl (wpAny_pure ⟨plainId_quiet F.plain_extend_loop _, ?_⟩) (by rw [List.size_toArray]; omega) (by show (its.toArray.push _).size ≤ sizeLine + 1; rw [Array.size_push, List.size_toArray]; omega)
    have kS : ∀ d o, d ≠ S → h.get? d = some o → (h.update S (Obj.mapSeq (·.push (.ref s.heap.objs.size)))).get? d = some o := fun d o nd q => (Heap.get?_update_other _ _ (Ne.symm nd)).trans q
    have gS := Heap.get?_update_self (Obj.mapSeq (·.push (Value.ref s.heap.objs.size))) e' rfl
    have J2 : Inv X pins σ (upd (upd H s.heap.objs.size (.tup [x, y, z])) S (.lst (Ts.map V.ref ++ [.ref s.heap.objs.size]))) { s with heap := h.update S (Obj.mapSeq (·.push (.ref s.heap.objs.size))), toks := s.toks } :=
      J1.write (x := S) (e := S) (o := .lst (Ts.map V.ref ++ [.ref s.heap.objs.size])) (t' := s.toks) (by rw [hS1]; trivial) (.inl rfl) kS ⟨_, gS⟩ ⟨by rw [List.length_append, List.length_map]; show Ts.length + 1 ≤ sizeLine; omega, its ++ [.ref s.heap.objs.size], n + 1, ri.append (.cons (show RelV (V.ref s.heap.objs.size) (Value.ref s.heap.objs.size) from rfl) .nil), by rw [gS]; simp [Obj.mapSeq]⟩
    have ne : ∀ d ∈ fpZ N, d ≠ S := fun d hd => (ne_of_none hS (fp d hd).1).symm
    refine ih (i + 1) _ _ (Ts ++ [s.heap.objs.size]) (by omega) J2 (fun d hd => ?_) ?_ (fun d o q => ?_) (by rw [List.length_append, lT]; rfl) (by rw [upd_same, List.map_append]; rfl) ?_
    · refine ⟨?_, (fp d hd).2⟩
      rw [upd_ne (ne d hd), upd_ne (Nat.ne_of_lt (lt d hd))]
      exact (fp d hd).1
    · have kk : ∀ d ∈ fpZ N, ∀ o, h.get? d = some o → (h.update S (Obj.mapSeq (·.push (.ref s.heap.objs.size)))).get? d = some o := fun d hd o q => kS d o (ne d hd) q
      refine AtZ.keep ?_ kk
      exact ⟨k1, k8 _ _ (ad (by omega)) (ad (by omega)) (ad (by omega)) (ad (by omega)) (ad (by omega)) s3, k2, k3, k4, k5⟩
    · rw [upd_ne (ne_of_none q h0)]
      exact sT _ _ (sm _ _ q)
    · intro j T x' y' z' eT e1 e2 e3
      by_cases cj : j < Ts.length
      · rw [List.getElem?_append_left cj] at eT
        have g := sT _ _ (tr j T x' y' z' eT e1 e2 e3)
        have nS : T ≠ S := fun q => by
          rw [q, hS1] at g
          cases g
        rw [upd_ne nS]
        exact g
      · have lj := (List.getElem?_eq_some_iff.mp eT).1
        rw [List.length_append, List.length_singleton] at lj
        obtain rfl : j = i := by omega
        rw [List.getElem?_append_right (by omega), lT, Nat.sub_self] at eT
        cases eT
        cases ex.symm.trans e1
        cases ey.symm.trans e2
        cases ez.symm.trans e3
        rw [upd_ne (fun q => by rw [q, hS] at nT; cases nT)]
        exact upd_same
end XV
set_option Elab.async false
set_option linter.all false
set_option maxRecDepth 100000
set_option maxHeartbeats 800000
namespace XV
open PySem PySem.Spec PyProof.Rows L2
theorem zip_no_len : typeLookup (.type "zip") "__len__" = pure none := by
  rw [typeLookup_type, builtinLookup_eq_fast]
  kernel_rfl
theorem zip_no_hint : typeLookup (.type "zip") "__length_hint__" = pure none := by
  rw [typeLookup_type, builtinLookup_eq_fast]
  kernel_rfl
/-- list(zip(e, e2, e3)) -/
def tLZ (ta : TA) : TE := fun σ H Q => ta σ H fun vs H1 => ∃ a b c xs ys us, vs = [.ref a, .ref b, .ref c] ∧ H1 a = some (.lst xs) ∧ H1 b = some (.lst ys) ∧ H1 c = some (.lst us) ∧ xs.length = ys.length ∧ xs.length = us.length ∧ xs.length < 1000 ∧
  ∀ (H' : Hp) (p : Addr) (Ts : List Addr), Same H1 H' → H1 p = none → H' p = some (.lst (Ts.map V.ref)) → Ts.length = xs.length → Trp H' Ts xs ys us → Q (.ref p) H'
theorem vals3 {a b c : V} {us : List Value} (r : Vals [a, b, c] us) : ∃ u v w, us = [u, v, w] ∧ RelV a u ∧ RelV b v ∧ RelV c w := by
  cases r with
  | cons r1 r =>
    cases r with
    | cons r2 r =>
      cases r with
      | cons r3 r =>
        cases r
        exact ⟨_, _, _, rfl, r1, r2, r3⟩
theorem pe_listZ3 {X : Cx} {e e2 e3 : Expr} {ta : TA} {p pz pos pos2 : Pos} (calm : X.calm = true) (gL : Gl X "list") (z_list : X.mg "list" = none) (gZ : Gl X "zip") (z_zip : X.mg "zip" = none) (ha : PA X [e, e2, e3] ta)
    (hs : starEach [e, e2, e3] X.env = (false, eval e X.env) :: starEach [e2, e3] X.env := by rfl) (np : (backTo pos2 (starEach [e2, e3] X.env)).any (·.1) = false := by rfl)
    (hs2 : starEach [.Call (.Name "zip" pz) [e, e2, e3] [] pos2] X.env = (false, eval (.Call (.Name "zip" pz) [e, e2, e3] [] pos2) X.env) :: starEach [] X.env := by rfl) :
    PE X (.Call (.Name "list" p) [.Call (.Name "zip" pz) [e, e2, e3] [] pos2] [] pos) (tLZ ta) := by
  refine ⟨fun pins s σ H Q I h => Call_ (ld_blt I gL z_list PyProof.Rows.boot_list (PyProof.Rows.callWith_type1 ?_ hs2 rfl))⟩
  rw [hs2]
  show wpAny _ _ (spliced ((false, eval (.Call (.Name "zip" pz) [e, e2, e3] [] pos2) X.env) :: backTo pos (starEach [] X.env))) _ _ s
  refine Calls.spliced_cons (Call_ (ld_blt I gZ z_zip PyProof.Rows.boot_zip (PyProof.Rows.callWith_type1 (thn (ha.run pos2 pins s σ H _ I h) fun us s1 ⟨vs, H1, J, rv, q⟩ => ?_) hs np)))
  obtain ⟨a, b, c, xs, ys, us, rfl, hA, hB, hC, n1, n2, nz, q⟩ := q
  obtain ⟨u1, u2, u3, rfl, r1, r2, r3⟩ := vals3 rv
  cases r1
  cases r2
  cases r3
  obtain ⟨ps, _, pu, _⟩ := J.list (SqL.of (K := X.K) hA)
  obtain ⟨qs, _, pv, _⟩ := J.list (SqL.of (K := X.K) hB)
  obtain ⟨rs, _, pw, _⟩ := J.list (SqL.of (K := X.K) hC)
  refine zip_begins3 (begins_list a ps.toArray) (begins_list b qs.toArray) (begins_list c rs.toArray) pu.isList pv.isList pw.isList fun h' z1 t1 t2 g1 g2 g3 sz kp => Calls.spliced_nil ?_
  have N := s1.heap.objs.size
  have st : AtZ a b c s1.heap.objs.size 0 h' := ⟨⟨.none, false, .inl rfl, z1⟩, t1, ⟨_, _, _, t2⟩, ⟨_, g1, rfl, rfl⟩, ⟨_, g2, rfl, rfl⟩, ⟨_, g3, rfl, rfl⟩⟩
  have J2 : Inv X pins σ H1 { s1 with heap := h' } := J.kept (t' := s1.toks) kp
  have hh : X.A.in1.handled = none := J.ok.hd calm
  have sm_ : 1000 ≤ sizeLine := by decide
  refine callType_codes (Q₁ := fun ob s2 => ob = .ref h'.objs.size ∧ s2 = { s1 with heap := h'.push { cls := .type "list", data := .seq #[] } }) F.called_list (F.typeCall_list_1 _) F.entry_list_init (code_list_new _ ⟨rfl, rfl⟩) fun ob s2 k2 => ?_
  obtain ⟨rfl, rfl⟩ := k2
  have zS : h'.objs.size ≠ s1.heap.objs.size + 5 := Nat.ne_of_gt (Heap.lt_size z1)
  have hS : (h'.push { cls := .type "list", data := .seq #[] }).get? h'.objs.size = some { cls := .type "list", data := .seq #[] } := Heap.get?_push_size _ rfl
  refine ⟨⟨_, hS, rfl⟩, F.args_list_init_2 _ _, ?_⟩
  show wpAny _ X.A.in1.in1 (Builtin.List.listItems (.ref h'.objs.size) >>= fun old => Builtin.List.listUpdate (.ref h'.objs.size) (fun _ => #[]) >>= fun _ => letGo old.toList.reverse >>= fun _ => Builtin.List.listExtendWith (.ref h'.objs.size) (.ref (s1.heap.objs.size + 5)) .none) _ _ _
  refine wpAny_bind ?_
  unfold Builtin.List.listItems
  refine wpAny_bind (wpAny_seqItems hS rfl (wpAny_pure ?_))
  refine wpAny_bind ?_
  show wpAny _ X.A.in1.in1 (updateSeq h'.objs.size fun _ => #[]) _ _ _
  refine wpAny_updateSeq hS rfl (wpAny_bind (wpAny_letGo ?_))
  have hS2 := Heap.get?_update_self (Obj.mapSeq (fun _ => (#[] : Array Value))) hS rfl
  have up : ∀ (h : Heap) (f : Obj → Obj), (∀ d o, h'.get? d = some o → h.get? d = some o) → ∀ d o, h'.get? d = some o → (h.update h'.objs.size f).get? d = some o := fun h f q d o e =>
    (Heap.get?_update_other _ _ (Ne.symm (Nat.ne_of_lt (Heap.lt_size e)))).trans (q d o e)
  have k1 : ∀ d o, h'.get? d = some o → (h'.push { cls := .type "list", data := .seq #[] }).get? d = some o := fun d o e => Heap.get?_push_of_some _ e
  have k2 := up _ (Obj.mapSeq (fun _ => (#[] : Array Value))) k1
  have ty : ∀ {h : Heap} {tk : Nat}, (∀ d o, h'.get? d = some o → h.get? d = some o) → Shared.TypeIs { s1 with heap := h } (.ref (s1.heap.objs.size + 5)) "zip" := fun q => ⟨_, q _ _ z1, rfl⟩
  unfold Builtin.List.listExtendWith
  refine wpAny_bind (wpAny_typeOf (ty (tk := 0) k2) ?_)
  have h1 : Builtin.List.listSameRef (.ref h'.objs.size) (.ref (s1.heap.objs.size + 5)) = false := by simp [Builtin.List.listSameRef, zS]
  have h2 : (Value.type "zip" == Value.type "list") = false := by decide
  have h3 : (Value.type "zip" == Value.type "tuple") = false := by decide
  simp only [h1, h2, h3, Bool.or_false, Bool.false_eq_true, if_false]
  refine wpAny_bind (wpAny_pyIter_zip (k2 _ _ z1) (wpAny_bind (wpAny_holding ?_)))
  unfold Builtin.List.listLengthHint
  refine wpAny_bind (wpAny_specialOf (ty (tk := 0) k2) zip_no_len ?_)
  show wpAny _ X.A.in1.in1 (specialOf (Value.ref (s1.heap.objs.size + 5)) (Str.ofString "__length_hint__") >>= _) _ _ _
  refine wpAny_bind (wpAny_specialOf (ty (tk := 0) k2) zip_no_hint (wpAny_pure ?_))
  show wpAny _ X.A.in1.in1 (rule "list.extend.makes-room" >>= fun _ => Builtin.List.listTouch (.ref h'.objs.size) >>= fun _ => again (.builtin "list.extend.loop" ⟨[.ref h'.objs.size, .ref (s1.heap.objs.size + 5), .none], []⟩)) _ _ _
  refine wpAny_bind (wpAny_rule (wpAny_bind ?_))
  show wpAny _ X.A.in1.in1 (updateSeq h'.objs.size (·.push .none) >>= fun _ => updateSeq h'.objs.size (·.pop)) _ _ _
  refine wpAny_bind (wpAny_updateSeq hS2 rfl ?_)
  have hS3 := Heap.get?_update_self (Obj.mapSeq (·.push Value.none)) hS2 rfl
  refine wpAny_updateSeq (hz := by seq_fits) hS3 rfl ?_
  have hS4 := Heap.get?_update_self (Obj.mapSeq (·.pop)) hS3 rfl
  have k4 := up _ (Obj.mapSeq (·.pop)) (up _ (Obj.mapSeq (·.push Value.none)) k2)
  refine wpAny_pure ⟨plainId_quiet F.plain_extend_loop _, ?_⟩
  have nS : H1 h'.objs.size = none := J2.hok.fresh (Nat.le_refl _)
  have J3 := J2.laid (t' := s1.toks) (o := .lst []) k4 (Nat.le_refl _) ⟨Nat.zero_le _, [], _, .nil, hS4⟩
  have ltz : ∀ d ∈ fpZ s1.heap.objs.size, d < h'.objs.size := st.lt
  refine drainZ (H0 := H1) pu.lt pv.lt pw.lt hh n1 n2 (by omega) hA hB hC nS (fun s H Ts I sm lT hL tr => ⟨rfl, .ref h'.objs.size, H, I, rfl, q H _ Ts sm nS hL lT tr⟩) xs.length 0 _ _ [] (Nat.zero_add _) J3 (fun d hd => ?_) (st.keep fun d _ o e => k4 d o e) (same_new nS) rfl upd_same (fun j T x y u e => by simp at e)
  · have le : s1.heap.objs.size ≤ d := by
      rcases fpZ_mem hd with rfl | rfl | rfl | rfl | rfl | rfl
      · exact Nat.le_add_right _ 5
      · exact Nat.le_add_right _ 3
      · exact Nat.le_add_right _ 4
      · exact Nat.le_refl _
      · exact Nat.le_add_right _ 1
      · exact Nat.le_add_right _ 2
    have f := J.fpOk le (J.hok.fresh le)
    refine ⟨?_, f.2⟩
    rw [upd_ne (Nat.ne_of_lt (ltz d hd))]
    exact f.1
end XV
set_option Elab.async false
set_option linter.all false
set_option maxRecDepth 100000
set_option maxHeartbeats 800000
/-! comprehensions: two clauses (a list, a range within), enumerate(list), enumerate(zip(a, b)). -/
namespace XV
open PySem PySem.Spec PyProof.Rows L2
theorem lc2_LR {K : PySem.W.Frag} {a : Addr} {xs : List V} {g g1 : TG} {tt tt1 : TT} {wi1 : TI} {te : TE} {vs vs1 : List Nat} {σ : L2.St} {H1 : Hp} {D : Addr} {Qd : Hp → Prop} (Pv : Nat → Hp → Prop) (h0 : Pv 0 (upd H1 D (.lst []))) (hl : ∀ i H, i ≤ xs.length → Pv i H → SqL K H a xs)
    (hs : ∀ i x H, xs[i]? = some x → Pv i H → g x (wipe σ vs) H fun σ2 H2 => wipe σ2 vs = wipe σ vs ∧ tt σ2 H2 fun b H3 => if b = true then wi1 σ2 H3 fun J1 H4 => ∃ W1 : Nat → Nat → Hp → Prop, (∃ m, W1 0 m H4) ∧ ∀ j k H, W1 j k H →
      (J1.stop j H ∧ Pv (i + 1) H) ∨ (J1.go j H ∧ ∃ N1 : Hp → Prop, (∀ H', N1 H' → ∃ k', k' < k ∧ W1 (j + 1) k' H') ∧ ∀ x H', J1.yld j H x H' → g1 x (wipe σ2 vs1) H' fun σ3 H5 => wipe σ3 vs1 = wipe σ2 vs1 ∧ tt1 σ3 H5 fun b H6 =>
        if b = true then te σ3 H6 fun y H7 => ∃ acc, H7 D = some (.lst acc) ∧ acc.length < sizeLine ∧ N1 (upd H7 D (.lst (acc ++ [y]))) else N1 H6) else Pv (i + 1) H3)
    (hd : ∀ H, Pv xs.length H → Qd H) :
    ∃ W : Nat → Nat → Hp → Prop, (∃ m, W 0 m (upd H1 D (.lst []))) ∧ ∀ i m H, W i m H →
      ((Itl K a).stop i H ∧ Qd H) ∨ ((Itl K a).go i H ∧ ∃ N : Hp → Prop, (∀ H', N H' → ∃ m', m' < m ∧ W (i + 1) m' H') ∧ ∀ x H', (Itl K a).yld i H x H' → g x (wipe σ vs) H' fun σ2 H2 => wipe σ2 vs = wipe σ vs ∧ tt σ2 H2 fun b H3 =>
        if b = true then wi1 σ2 H3 fun J1 H4 => ∃ W1 : Nat → Nat → Hp → Prop, (∃ m, W1 0 m H4) ∧ ∀ j k H, W1 j k H →
          (J1.stop j H ∧ N H) ∨ (J1.go j H ∧ ∃ N1 : Hp → Prop, (∀ H', N1 H' → ∃ k', k' < k ∧ W1 (j + 1) k' H') ∧ ∀ x H', J1.yld j H x H' → g1 x (wipe σ2 vs1) H' fun σ3 H5 => wipe σ3 vs1 = wipe σ2 vs1 ∧ tt1 σ3 H5 fun b H6 =>
            if b = true then te σ3 H6 fun y H7 => ∃ acc, H7 D = some (.lst acc) ∧ acc.length < sizeLine ∧ N1 (upd H7 D (.lst (acc ++ [y]))) else N1 H6) else N H3) := by
  refine ⟨fun i m H => m + i = xs.length ∧ Pv i H, ⟨xs.length, rfl, h0⟩, ?_⟩
  rintro i m H ⟨em, pv⟩
  have q := hl i H (by omega) pv
  cases m with
  | zero =>
    obtain rfl : i = xs.length := by omega
    exact .inl ⟨⟨xs, q, Nat.le_refl _⟩, hd H pv⟩
  | succ m =>
    have li : i < xs.length := by omega
    refine .inr ⟨⟨xs, _, q, List.getElem?_eq_getElem li⟩, Pv (i + 1), fun H' p' => ⟨m, Nat.lt_succ_self m, by omega, p'⟩, ?_⟩
    rintro x H' ⟨rfl, y⟩
    exact hs i x _ (y xs q) pv
theorem in_rng {n : Nat} {g1 : TG} {tt1 : TT} {te : TE} {vs1 : List Nat} {σ2 : L2.St} {H4 : Hp} {D : Addr} {N : Hp → Prop} (Pv : Nat → Hp → Prop) (h0 : Pv 0 H4)
    (hs : ∀ j H, j < n → Pv j H → g1 (.int (0 + (j : Nat))) (wipe σ2 vs1) H fun σ3 H5 => wipe σ3 vs1 = wipe σ2 vs1 ∧ tt1 σ3 H5 fun b H6 =>
      if b = true then te σ3 H6 fun y H7 => ∃ acc, H7 D = some (.lst acc) ∧ acc.length < sizeLine ∧ Pv (j + 1) (upd H7 D (.lst (acc ++ [y]))) else Pv (j + 1) H6) (hd : ∀ H, Pv n H → N H) :
    ∃ W1 : Nat → Nat → Hp → Prop, (∃ m, W1 0 m H4) ∧ ∀ j k H, W1 j k H → ((Itr 0 n).stop j H ∧ N H) ∨ ((Itr 0 n).go j H ∧ ∃ N1 : Hp → Prop, (∀ H', N1 H' → ∃ k', k' < k ∧ W1 (j + 1) k' H') ∧ ∀ x H', (Itr 0 n).yld j H x H' → g1 x (wipe σ2 vs1) H' fun σ3 H5 => wipe σ3 vs1 = wipe σ2 vs1 ∧ tt1 σ3 H5 fun b H6 =>
      if b = true then te σ3 H6 fun y H7 => ∃ acc, H7 D = some (.lst acc) ∧ acc.length < sizeLine ∧ N1 (upd H7 D (.lst (acc ++ [y]))) else N1 H6) := by
  refine ⟨fun j k H => k + j = n ∧ Pv j H, ⟨n, rfl, h0⟩, ?_⟩
  rintro j k H ⟨em, pv⟩
  cases k with
  | zero =>
    obtain rfl : j = n := by omega
    exact .inl ⟨Nat.le_refl _, hd H pv⟩
  | succ k =>
    have lj : j < n := by omega
    refine .inr ⟨lj, Pv (j + 1), fun H' p' => ⟨k, Nat.lt_succ_self k, by omega, p'⟩, ?_⟩
    rintro x H' ⟨rfl, rfl⟩
    exact hs j _ lj pv
/-- [.. for i, x in enumerate(xs)] -/
theorem lc_enum {K : PySem.W.Frag} {a : Addr} {xs : List V} {g : TG} {tt : TT} {te : TE} {vs : List Nat} {σ : L2.St} {H1 : Hp} {D : Addr} {Qd : Hp → Prop} (Pv : Nat → Hp → Prop) (h0 : Pv 0 (upd H1 D (.lst []))) (hl : ∀ i H, Pv i H → SqL K H a xs)
    (hs : ∀ (i : Nat) (x : V) (T : Addr) (H : Hp), xs[i]? = some x → Pv i H → H T = none → g (.ref T) (wipe σ vs) (upd H T (.tup [.int (i : Nat), x])) fun σ2 H2 => wipe σ2 vs = wipe σ vs ∧ tt σ2 H2 fun c H3 =>
      if c = true then te σ2 H3 fun r H4 => ∃ acc, H4 D = some (.lst acc) ∧ acc.length < sizeLine ∧ Pv (i + 1) (upd H4 D (.lst (acc ++ [r]))) else Pv (i + 1) H3) (hd : ∀ H, Pv xs.length H → Qd H) :
    ∃ W : Nat → Nat → Hp → Prop, (∃ m, W 0 m (upd H1 D (.lst []))) ∧ ∀ i m H, W i m H →
      ((Ite K a).stop i H ∧ Qd H) ∨ ((Ite K a).go i H ∧ ∃ N : Hp → Prop, (∀ H', N H' → ∃ m', m' < m ∧ W (i + 1) m' H') ∧ ∀ x H', (Ite K a).yld i H x H' → g x (wipe σ vs) H' fun σ2 H2 => wipe σ2 vs = wipe σ vs ∧ tt σ2 H2 fun c H3 =>
        if c = true then te σ2 H3 fun r H4 => ∃ acc, H4 D = some (.lst acc) ∧ acc.length < sizeLine ∧ N (upd H4 D (.lst (acc ++ [r]))) else N H3) := by
  refine ⟨fun i m H => m + i = xs.length ∧ Pv i H, ⟨xs.length, rfl, h0⟩, ?_⟩
  rintro i m H ⟨em, pv⟩
  have q := hl i H pv
  cases m with
  | zero =>
    obtain rfl : i = xs.length := by omega
    exact .inl ⟨⟨xs, q, Nat.le_refl _⟩, hd H pv⟩
  | succ m =>
    have li : i < xs.length := by omega
    have g1 := List.getElem?_eq_getElem li
    refine .inr ⟨⟨xs, _, q, g1⟩, Pv (i + 1), fun H' p' => ⟨m, Nat.lt_succ_self m, by omega, p'⟩, ?_⟩
    rintro v H' ⟨T, x, rfl, nT, rfl, f1⟩
    exact hs i x T H (f1 xs q) pv nT
/-- [.. for i, (x, y) in enumerate(zip(xs, ys))] of lists of one length -/
theorem lc_enumZ {K : PySem.W.Frag} {a b : Addr} {xs ys : List V} {g : TG} {tt : TT} {te : TE} {vs : List Nat} {σ : L2.St} {H1 : Hp} {D : Addr} {Qd : Hp → Prop} (eq : xs.length = ys.length) (Pv : Nat → Hp → Prop) (h0 : Pv 0 (upd H1 D (.lst []))) (hl : ∀ i H, Pv i H → SqL K H a xs ∧ SqL K H b ys)
    (hs : ∀ (i : Nat) (x y : V) (T U : Addr) (H : Hp), xs[i]? = some x → ys[i]? = some y → Pv i H → H T = none → H U = none → U ≠ T → g (.ref U) (wipe σ vs) (upd (upd H T (.tup [x, y])) U (.tup [.int (i : Nat), .ref T])) fun σ2 H2 => wipe σ2 vs = wipe σ vs ∧ tt σ2 H2 fun c H3 =>
      if c = true then te σ2 H3 fun r H4 => ∃ acc, H4 D = some (.lst acc) ∧ acc.length < sizeLine ∧ Pv (i + 1) (upd H4 D (.lst (acc ++ [r]))) else Pv (i + 1) H3) (hd : ∀ H, Pv xs.length H → Qd H) :
    ∃ W : Nat → Nat → Hp → Prop, (∃ m, W 0 m (upd H1 D (.lst []))) ∧ ∀ i m H, W i m H →
      ((Itez K a b).stop i H ∧ Qd H) ∨ ((Itez K a b).go i H ∧ ∃ N : Hp → Prop, (∀ H', N H' → ∃ m', m' < m ∧ W (i + 1) m' H') ∧ ∀ x H', (Itez K a b).yld i H x H' → g x (wipe σ vs) H' fun σ2 H2 => wipe σ2 vs = wipe σ vs ∧ tt σ2 H2 fun c H3 =>
        if c = true then te σ2 H3 fun r H4 => ∃ acc, H4 D = some (.lst acc) ∧ acc.length < sizeLine ∧ N (upd H4 D (.lst (acc ++ [r]))) else N H3) := by
  refine ⟨fun i m H => m + i = xs.length ∧ Pv i H, ⟨xs.length, rfl, h0⟩, ?_⟩
  rintro i m H ⟨em, pv⟩
  obtain ⟨q1, q2⟩ := hl i H pv
  cases m with
  | zero =>
    obtain rfl : i = xs.length := by omega
    exact .inl ⟨⟨xs, q1, Nat.le_refl _⟩, hd H pv⟩
  | succ m =>
    have l1 : i < xs.length := by omega
    have l2 : i < ys.length := by omega
    refine .inr ⟨⟨xs, ys, _, _, q1, q2, List.getElem?_eq_getElem l1, List.getElem?_eq_getElem l2⟩, Pv (i + 1), fun H' p' => ⟨m, Nat.lt_succ_self m, by omega, p'⟩, ?_⟩
    rintro v H' ⟨T, U, x, y, rfl, nT, nU, ne, rfl, f1, f2⟩
    exact hs i x y T U H (f1 xs q1) (f2 ys q2) pv nT nU ne
end XV
set_option Elab.async false
set_option linter.all false
set_option maxRecDepth 100000
set_option maxHeartbeats 4000000
/-! max(list of whole numbers, default = d). -/
namespace XV
open PySem PySem.Spec PyProof.Rows L2
def mxD : List Int → Int → Int
  | [], d => d
  | n :: ns, _ => ns.foldl max n
theorem dpI {K : PySem.W.Frag} {H : Hp} : ∀ l : List Int, DpAll K H (l.map V.int) (l.map PyData.int)
  | [] => .nil
  | x :: l => .cons (.int x) (dpI l)
theorem depI : ∀ l : List Int, PyData.depthAll (l.map PyData.int) = 0
  | [] => by simp [PyData.depthAll]
  | x :: l => by simp [PyData.depthAll, PyData.depth, depI l]
def rMaxDef (K : PySem.W.Frag) : List V → List V → Hp → VK → Prop := fun vs zs H Q => ∃ (a : Addr) (ns : List Int) (d : Int), vs = [.ref a] ∧ zs = [.int d] ∧ SqL K H a (ns.map V.int) ∧ Q (.int (mxD ns d)) H
theorem cr_maxDef {X : Cx} (hc : X.calm = true) (hu : X.A.units + 1 < cLine) : CallRK X (.builtin "max") ["default"] (rMaxDef X.K) := by
  intro pins s σ H xs zs us ws Q I r rz h
  obtain ⟨a, ns, d, rfl, rfl, hs, q⟩ := h
  obtain ⟨its, rv, hl, hz⟩ := I.list hs
  obtain ⟨u, rfl, ru⟩ := vals1 r
  obtain rfl : u = Value.ref a := ru
  obtain ⟨u2, rfl, ru2⟩ := vals1 rz
  obtain ⟨as, rd⟩ := Dp.readsAll I (ns.map PyData.int) _ _ (dpI ns) rv
  have key := PySem.W.max_list_default (prog := X.prog) (w := X.w) (A := X.A) (E := X.xe) (s := s) (l := a) (vs := its.toArray) (xs := ns.map PyData.int) (as := as) (d := u2) (Q := EP X pins σ Q) (I.ok.hd hc) hl.isList (by simpa using rd) ⟨fun x hx y hy => ?_, fun x hx => ?_⟩ (by rw [depI]; omega) (fun e h' tk hk => ?_) (fun y ys i v h' tk bs e hv hr hk => ?_)
  · exact key
  · obtain ⟨i, _, rfl⟩ := List.mem_map.mp hx
    obtain ⟨j, _, rfl⟩ := List.mem_map.mp hy
    rfl
  · obtain ⟨i, _, rfl⟩ := List.mem_map.mp hx
    intro z
    cases z
  · have : ns = [] := List.map_eq_nil_iff.mp e
    subst this
    exact ⟨.int d, H, I.kept hk, ru2, q⟩
  · cases ns with
    | nil => cases e
    | cons n ns =>
      rw [List.map_cons] at e
      injection e with e1 e2
      subst e1 e2
      rw [PySem.W.maxD_ints] at hr
      cases hr with
      | int i t => exact ⟨.int _, H, I.kept hk, ⟨_, rfl⟩, q⟩
theorem pi_tupK {X : Cx} {K : PySem.W.Frag} {tg l : Expr} {tl : TE} (e : X.K = K) (hl : PE X l tl) : PI X tg l (iTup K tl) := by
  subst e
  exact pi_tup hl
/-- any(list of whole numbers) -/
def rAnyI (K : PySem.W.Frag) : List V → Hp → VK → Prop := fun vs H Q => ∃ (a : Addr) (ns : List Int), vs = [V.ref a] ∧ SqL K H a (ns.map V.int) ∧ Q (.bl (ns.any fun n => decide (n ≠ 0))) H
theorem call_anyIK {X : Cx} {K : PySem.W.Frag} (e : X.K = K) (hc : X.calm = true) : CallR X (.builtin "any") (rAnyI K) := by
  subst e
  intro pins s σ H vs us Q I r h
  obtain ⟨a, ns, rfl, hs, q⟩ := h
  obtain ⟨its, rv, hl, _⟩ := I.list hs
  obtain ⟨u, rfl, ru⟩ := vals1 r
  obtain rfl : u = Value.ref a := ru
  obtain ⟨as, hr⟩ := Dp.readsAll I (ns.map PyData.int) _ its (dpI ns) rv
  have pl : ∀ l : List Int, PyData.plainAll (l.map PyData.int) = true := fun l => by
    induction l with
    | nil => simp [PyData.plainAll]
    | cons x xs ih => simp [PyData.plainAll, PyData.plain, ih]
  have tr : ∀ l : List Int, ((l.map PyData.int).any PyData.truthy) = l.any fun n => decide (n ≠ 0) := fun l => by
    induction l with
    | nil => rfl
    | cons x xs ih =>
      rw [List.map_cons, List.any_cons, List.any_cons, ih]
      by_cases h : x = 0
      · simp [PyData.truthy, h]
      · simp [PyData.truthy, h]
  refine PySem.W.any_list_data (as := as) (I.ok.hd hc) (vs := its.toArray) (l := a) hl.isList (xs := ns.map PyData.int) (by simpa using hr) (pl ns) (fun d hd => ?_) fun h' tk k => ?_
  · obtain ⟨x, _, rfl⟩ := List.mem_map.mp hd
    trivial
  · rw [tr]
    exact ⟨.bl _, H, I.kept (t' := tk) k, rfl, q⟩
/-- the second clause over a tuple -/
theorem in_tup {K : PySem.W.Frag} {a D : Addr} {xs : List V} {g1 : TG} {tt1 : TT} {te : TE} {vs1 : List Nat} {σ2 : L2.St} {H4 : Hp} {N : Hp → Prop} (Pv : Nat → Hp → Prop) (start : Pv 0 H4) (stays : ∀ j Hc, Pv j Hc → SqT K Hc a xs)
    (turn : ∀ (j : Nat) x Hc, xs[j]? = some x → Pv j Hc → g1 x (wipe σ2 vs1) Hc fun σ3 H5 => wipe σ3 vs1 = wipe σ2 vs1 ∧ tt1 σ3 H5 fun b H6 =>
      if b = true then te σ3 H6 fun y H7 => ∃ acc, H7 D = some (.lst acc) ∧ acc.length < sizeLine ∧ Pv (j + 1) (upd H7 D (.lst (acc ++ [y]))) else Pv (j + 1) H6) (after : ∀ Hc, Pv xs.length Hc → N Hc) :
    ∃ W1 : Nat → Nat → Hp → Prop, (∃ m, W1 0 m H4) ∧ ∀ j k H, W1 j k H → ((Itt K a).stop j H ∧ N H) ∨ ((Itt K a).go j H ∧ ∃ N1 : Hp → Prop, (∀ H', N1 H' → ∃ k', k' < k ∧ W1 (j + 1) k' H') ∧
      ∀ x H', (Itt K a).yld j H x H' → g1 x (wipe σ2 vs1) H' fun σ3 H5 => wipe σ3 vs1 = wipe σ2 vs1 ∧ tt1 σ3 H5 fun b H6 => if b = true then te σ3 H6 fun y H7 => ∃ acc, H7 D = some (.lst acc) ∧ acc.length < sizeLine ∧ N1 (upd H7 D (.lst (acc ++ [y]))) else N1 H6) := by
  refine ⟨fun j k Hc => k + j = xs.length ∧ Pv j Hc, ⟨xs.length, rfl, start⟩, fun j k Hc ⟨e, p⟩ => ?_⟩
  have q := stays j Hc p
  match k, e with
  | 0, e =>
    have e : j = xs.length := by omega
    subst e
    exact .inl ⟨⟨xs, q, Nat.le_refl _⟩, after Hc p⟩
  | k + 1, e =>
    have lt : j < xs.length := by omega
    refine .inr ⟨⟨xs, xs[j], q, List.getElem?_eq_getElem lt⟩, Pv (j + 1), fun Hd p2 => ⟨k, Nat.lt_succ_self k, by omega, p2⟩, fun x Hd y => ?_⟩
    obtain ⟨rfl, y⟩ := y
    exact turn j x _ (y xs q) p
end XV
set_option Elab.async false
set_option linter.all false
set_option maxRecDepth 100000
set_option maxHeartbeats 4000000
namespace K5
open PySem PySem.Spec PyProof.Rows L2 XV NP
/-! ### spread, unknowns -/
abbrev sSpread : Stmt := top 49
abbrev sUnk : Stmt := top 50
abbrev nSpread : List Str := ["text", "_", "form", "number"]
abbrev nUnk : List Str := ["text", "at", "_", "form"]
theorem scSpread : FnScope nSpread ["text"] (defScope sSpread) := ⟨rfl, rfl, rfl, by decide +kernel, rfl, by decide +kernel, by decide +kernel⟩
theorem scUnk : FnScope nUnk ["text"] (defScope sUnk) := ⟨rfl, rfl, rfl, by decide +kernel, rfl, by decide +kernel, by decide +kernel⟩
abbrev scU1 : Scope := { kind := .function, names := [(Str.ofString ".0", .local), (Str.ofString "at", .cell), (Str.ofString "any", .globalImplicit), (Str.ofString "powers", .globalImplicit), (Str.ofString "text", .cell)], isGenerator := false, isCoroutine := false }
abbrev scU2 : Scope := { kind := .function, names := [(Str.ofString ".0", .local), (Str.ofString "_", .local), (Str.ofString "form", .local), (Str.ofString "at", .free)], isGenerator := false, isCoroutine := false }
theorem blk_u : BlkOk nUnk scU1 scU2 [("_", 2), ("form", 3)] := blkOk_by (by decide +kernel)
def gm (ps : List Pc) : Int := mxD ((powP ps).flatMap fm) 0
def unkB (ps : List Pc) (j : Nat) : Bool := (powP ps).any fun p => decide (fj p (j + 1) ≠ 0)
def unk (m : Nat) (ps : List Pc) : List Nat := (List.range m).filter (unkB ps)
def spSpread (K : PySem.W.Frag) (C : Addr) : Sp := fun vs H Q _ => ∃ x m done, vs = [.ref x] ∧ Tx C H x m done ∧ m ≤ 3 ∧ Dn m 800 done ∧ done.length ≤ 90 ∧ ∀ H', Same H H' → Q (.int (1 + gm done)) H'
def spUnk (K : PySem.W.Frag) (C : Addr) : Sp := fun vs H Q _ => ∃ x m done, vs = [.ref x] ∧ Tx C H x m done ∧ m ≤ 3 ∧ Dn m 800 done ∧ done.length ≤ 90 ∧ ∀ (H' : Hp) (l : Addr), Same H H' → H' l = some (.lst ((unk m done).map fun (j : Nat) => V.int (j : Int))) → Q (.ref l) H'
theorem powP_mem {ps : List Pc} {p : Pc} (h : p ∈ powP ps) : p ∈ ps := (List.mem_filter.mp h).1
theorem fms_len {m k : Nat} : ∀ {ps : List Pc}, (∀ p ∈ ps, Pz m k p) → (ps.flatMap fm).length = (m + 1) * ps.length
  | [], _ => by simp
  | p :: ps, h => by
    have ih := fms_len (ps := ps) fun q hq => h q (List.mem_cons_of_mem _ hq)
    have e := (h p List.mem_cons_self).l
    rw [List.flatMap_cons, List.length_append, ih, List.length_cons, Nat.mul_add, Nat.mul_one, Nat.add_comm]
    show (m + 1) * ps.length + (p.2.2.length + 1) = _
    rw [e]
section
variable {P : Program} {w : World} {K : PySem.W.Frag} {mg : Str → Option Value} {base : Heap} {f : Addr} {fd : FuncData} {C : Addr}
theorem ok_spread (F : FnP K "spread" sSpread f fd) (T : TT K mg C) (o_text : OkX P w K mg base "require_text" 3 ["text"] (spReqText K C)) (o_powers : Ok P w K mg base "powers" 2 ["text"] (cm (spPowers C))) (z_max : mg "max" = none) : FnOk P w K mg base (L2.CX P w) 4 f fd ["text"] (spSpread K C) := by
  have nd := scSpread.nd
  refine F.ok scSpread (fun vs H Q E h => ?_) (fun cdv A outer s H vs Q E hr h => ?_)
  · obtain ⟨x, m, done, rfl, _⟩ := h
    rfl
  · obtain ⟨x, m, done, rfl, hx, hm, dn, l90, q⟩ := h
    have szl := sizeLine_eq
    have hu := hr.units
    have hu2 : (A.deeper (envOfC "spread" (defScope sSpread) s.heap.objs.size f cdv)).units + 1 < cLine := by omega
    have r3 : Room 3 (A.deeper (envOfC "spread" (defScope sSpread) s.heap.objs.size f cdv)) := hr
    have r2 := r3.mono (by decide : 2 ≤ 3)
    refine ⟨_, pss_cons (ps_expr (pe_callX (E := E) o_text (takes_of rfl rfl rfl rfl) r3 (by rfl) (pa_cons (pv 0) pa_nil)))
      (pss_one (ps_ret (pe_op op_add pe_int (pe_callBK (cr_maxDef rfl hu2) (by rfl) z_max (by decide +kernel) (pa_cons
        (pe_lc2 (own := [("_", 1), ("form", 2), ("number", 3)]) (vs1 := [3]) (g := gTup K 2 (gCons (gName 1) (gCons (gName 2) gNil))) (g1 := gName 3) (by rfl) nd (pi_list (pe_callO o_powers r2 (by rfl) (pa_cons (pv 0) pa_nil))) (blkOk_by (N := nSpread) (sc := defScope sSpread) (own := [("_", 1), ("form", 2), ("number", 3)]) (by decide +kernel)) (by decide)
          (fun _ _ _ _ _ => pg_tup rfl (pgs_cons (pg_name (i := 1) nd rfl (Or.inl rfl)) (pgs_cons (pg_name (i := 2) nd rfl (Or.inl rfl)) pgs_nil))) (fun _ _ _ _ _ => pts_nil) (fun _ _ _ _ _ => pi_tupK (K := K) rfl (pv 2)) (fun _ _ _ _ _ => pg_name (i := 3) nd rfl (Or.inl rfl)) (fun _ _ _ _ _ => pts_nil)
          (fun _ _ _ _ _ => pv 3)) pa_nil) (pk_cons pe_int pk_nil))))), ?_⟩
    refine ⟨_, rfl, .ref x, rfl, .inl ⟨x, m, done, rfl, hx, ?_⟩⟩
    refine ⟨_, rfl, x, m, done, rfl, hx, hm, dn, l90, fun H1 l s1 nl ⟨xs, hl, hP⟩ => ⟨l, rfl, ⟨_, SqL.of hl⟩, fun D nD => ?_⟩⟩
    have lx := hP.len
    have lP : (powP done).length ≤ 90 := Nat.le_trans (List.length_filter_le _ _) l90
    have zP : ∀ p ∈ powP done, Pz m 800 p := fun p hp => dn.z p (powP_mem hp)
    refine lc2_LR (K := K) (a := l) (xs := xs) (fun i H' => Same H1 H' ∧ H' D = some (.lst ((((powP done).take i).flatMap fm).map V.int))) ⟨same_new nD, upd_same⟩ (fun i H' _ p => SqL.of (p.1 _ _ hl)) ?_ ?_
    · rintro i y H' hi ⟨sm, hD⟩
      obtain ⟨p, ep, ⟨t, f1, rfl, ht, hf1⟩⟩ := hP.get hi
      have pz := zP p (List.mem_of_getElem? ep)
      have li : i < (powP done).length := (List.getElem?_eq_some_iff.mp ep).1
      have ln : (((powP done).take i).flatMap fm).length ≤ 4 * 90 := by
        rw [fms_len fun p hp => zP p (List.mem_of_mem_take hp), List.length_take]
        exact Nat.mul_le_mul (by omega) (by omega)
      have lf : (fm p).length ≤ 4 := by
        show p.2.2.length + 1 ≤ 4
        rw [pz.l]
        omega
      refine ⟨t, _, rfl, SqT.of (sm _ _ ht), rfl, _, _, rfl, _, _, rfl, rfl, rfl, ?_⟩
      refine ⟨_, rfl, f1, rfl, ⟨_, SqT.of (sm _ _ hf1)⟩, ?_⟩
      refine in_tup (K := K) (a := f1) (xs := (fm p).map V.int) (fun j Hc => Same H1 Hc ∧ Hc D = some (.lst ((((powP done).take i).flatMap fm ++ (fm p).take j).map V.int))) ⟨sm, ?_⟩ (fun j Hc p => SqT.of (p.1 _ _ hf1)) ?_ ?_
      · rw [List.take_zero, List.append_nil]
        exact hD
      · rintro j v Hc hj ⟨sm2, hD2⟩
        rw [List.getElem?_map] at hj
        obtain ⟨n, en, rfl⟩ := Option.map_eq_some_iff.mp hj
        refine ⟨rfl, ?_⟩
        refine ⟨_, rfl, _, hD2, ?_, fun b o e => ?_, ?_⟩
        · rw [List.length_map, List.length_append, List.length_take]
          omega
        · rw [upd_ne (ne_of_none (H := H1) e nD)]
          exact sm2 _ _ e
        · rw [upd_same, List.take_add_one, en, ← List.append_assoc]
          simp
      · rintro Hc ⟨sm2, hD2⟩
        refine ⟨sm2, ?_⟩
        rw [List.length_map, List.take_length] at hD2
        rw [hD2, List.take_add_one, ep, List.flatMap_append]
        simp
    · rintro H' ⟨sm, hD⟩
      rw [lx, List.take_length] at hD
      exact ⟨D, _, 0, rfl, rfl, SqL.of hD, _, _, rfl, rfl, q H' (s1.trans sm)⟩
theorem ok_unk (F : FnP K "unknowns" sUnk f fd) (T : TT K mg C) (o_text : OkX P w K mg base "require_text" 3 ["text"] (spReqText K C)) (o_many : OkMt P w K mg base C "many" (spManyT C)) (o_powers : Ok P w K mg base "powers" 2 ["text"] (cm (spPowers C))) (z_range : mg "range" = none) (z_any : mg "any" = none) : FnOk P w K mg base (L2.CX P w) 4 f fd ["text"] (spUnk K C) := by
  have nd := scUnk.nd
  refine F.ok scUnk (fun vs H Q E h => ?_) (fun cdv A outer s H vs Q E hr h => ?_)
  · obtain ⟨x, m, done, rfl, _⟩ := h
    rfl
  · obtain ⟨x, m, done, rfl, hx, hm, dn, l90, q⟩ := h
    have szl := sizeLine_eq
    have r3 : Room 3 (A.deeper (envOfC "unknowns" (defScope sUnk) s.heap.objs.size f cdv)) := hr
    have r2 := r3.mono (by decide : 2 ≤ 3)
    have r1 := r3.mono (by decide : 1 ≤ 3)
    refine ⟨_, pss_cons (ps_expr (pe_callX (E := E) o_text (takes_of rfl rfl rfl rfl) r3 (by rfl) (pa_cons (pv 0) pa_nil)))
      (pss_one (ps_ret (pe_lc (own := [("at", 1)]) (g := gName 1) (by rfl) nd (pi_range1 (by rfl) z_range (pa_cons (pe_manyT o_many T (pv 0) r1) pa_nil)) (blkOk_by (N := nUnk) (sc := defScope sUnk) (own := [("at", 1)]) (by decide +kernel)) (fun _ _ _ _ _ => pg_name (i := 1) nd rfl (Or.inr rfl))
        (fun _ _ _ _ _ => pts_one (pt_val (pe_callB (call_anyIK (K := K) rfl rfl) (by rfl) z_any (by decide +kernel) (pa_cons
          (pe_lc (own := [("_", 2), ("form", 3)]) (g := gTup K 2 (gCons (gName 2) (gCons (gName 3) gNil))) (by rfl) nd (pi_listK (K := K) rfl (pe_callO o_powers r2 (by rfl) (pa_cons (pv 0) pa_nil))) blk_u
            (fun _ _ _ _ _ => pg_tup rfl (pgs_cons (pg_name (i := 2) nd rfl (Or.inl rfl)) (pgs_cons (pg_name (i := 3) nd rfl (Or.inl rfl)) pgs_nil))) (fun _ _ _ _ _ => pts_nil)
            (fun _ _ _ _ _ => pe_ix (ix_tupK (K := K) rfl) (pv 3) (pe_op op_add (pv 1) pe_int) (fun _ _ => rfl))) pa_nil))))
        (fun _ _ _ _ _ => pv 1)))), ?_⟩
    refine ⟨_, rfl, .ref x, rfl, .inl ⟨x, m, done, rfl, hx, ?_⟩⟩
    have eM : ((m : Nat) : Int).toNat = m := by omega
    refine ⟨_, rfl, x, m, done, rfl, hx, (m : Int), rfl, by omega, by omega, fun D nD => ?_⟩
    rw [eM]
    refine lc_range (lo := 0) (n := m) (fun i H' => Same H H' ∧ H' D = some (.lst (((List.range i).filter (unkB done)).map fun (j : Nat) => V.int (j : Int)))) ⟨same_new nD, upd_same⟩ ?_ ?_
    · rintro i H' hi ⟨sm, hD⟩
      rw [Int.zero_add]
      refine ⟨rfl, ?_⟩
      refine ⟨_, rfl, x, m, done, rfl, hx.keep sm, hm, dn, l90, fun H1 l s1 nl ⟨xs, hl, hP⟩ => ⟨l, rfl, ⟨_, SqL.of hl⟩, fun D2 nD2 => ?_⟩⟩
      have lx := hP.len
      have lP : (powP done).length ≤ 90 := Nat.le_trans (List.length_filter_le _ _) l90
      refine lc_list (K := K) (a := l) (xs := xs) (fun k Hc => Same H1 Hc ∧ Hc D2 = some (.lst ((((powP done).take k).map fun p => fj p (i + 1)).map V.int))) ⟨same_new nD2, upd_same⟩ (fun k Hc _ p => SqL.of (p.1 _ _ hl)) ?_ ?_
      · rintro k y Hc hk ⟨sm2, hD2⟩
        obtain ⟨p, ep, ⟨t, f1, rfl, ht, hf1⟩⟩ := hP.get hk
        have pz := dn.z p (powP_mem (List.mem_of_getElem? ep))
        have lk : k < (powP done).length := (List.getElem?_eq_some_iff.mp ep).1
        have at1 : atI ((fm p).map V.int) ((i : Int) + 1) = some (V.int (fj p (i + 1))) := by
          have e : ((i : Int) + 1) = ((i + 1 : Nat) : Int) := by omega
          rw [e, at_ints (l := fm p) (j := i + 1) (by show i + 1 < p.2.2.length + 1; rw [pz.l]; omega)]
          rfl
        refine ⟨t, _, rfl, SqT.of (sm2 _ _ ht), rfl, _, _, rfl, _, _, rfl, rfl, rfl, ?_⟩
        refine ⟨_, rfl, _, rfl, _, _, rfl, rfl, f1, _, _, _, rfl, rfl, SqT.of (sm2 _ _ hf1), at1, _, hD2, ?_, fun b o e => ?_, ?_⟩
        · rw [List.length_map, List.length_map, List.length_take]
          omega
        · rw [upd_ne (ne_of_none (H := H1) e nD2)]
          exact sm2 _ _ e
        · rw [upd_same, List.take_add_one, ep, List.map_append, List.map_append]
          rfl
      · rintro Hc ⟨sm2, hD2⟩
        rw [lx, List.take_length] at hD2
        have eb : (((powP done).map fun p => fj p (i + 1)).any fun n => decide (n ≠ 0)) = unkB done i := by
          unfold unkB
          rw [List.any_map]
          rfl
        have hDc := sm2 _ _ (s1 _ _ hD)
        have S := (sm.trans s1).trans sm2
        refine ⟨D2, _, rfl, SqL.of hD2, unkB done i, congrArg V.bl eb, ?_⟩
        cases e : unkB done i with
        | true =>
          refine iteT ⟨_, rfl, _, hDc, ?_, fun b o e => ?_, ?_⟩
          · rw [List.length_map]
            exact small1000 (Nat.le_trans (List.length_filter_le _ _) (by rw [List.length_range]; omega))
          · rw [upd_ne (ne_of_none (H := H) e nD)]
            exact S _ _ e
          · rw [upd_same, List.range_succ, List.filter_append, List.map_append, List.filter_cons, e]
            rfl
        | false =>
          refine iteF ⟨S, ?_⟩
          rw [List.range_succ, List.filter_append, List.filter_cons, e]
          show Hc D = some (.lst (((List.range i).filter (unkB done) ++ []).map _))
          rw [List.append_nil]
          exact hDc
    · rintro H' ⟨sm, hD⟩
      exact q H' D sm hD
end
end K5
set_option Elab.async false
set_option linter.all false
set_option maxRecDepth 100000
set_option maxHeartbeats 4000000
namespace K5
open PySem PySem.Spec PyProof.Rows L2 XV NP
/-! ### the pieces that the law draws -/
abbrev sLPiece : Stmt := top 71
abbrev sLPieces : Stmt := top 72
abbrev nLPiece : List Str := ["_law_generator_here", "_law_base", "_law_many", "_law_great", "_law_kind", "_law_by", "_law_word_here", "_law_form", "_law_at", "_law_number"]
theorem scLPiece : FnScope nLPiece ["_law_generator_here", "_law_base", "_law_many", "_law_great"] (defScope sLPiece) := ⟨rfl, rfl, rfl, by decide +kernel, rfl, by decide +kernel, by decide +kernel⟩
abbrev nLPieces : List Str := ["_law_generator_here", "_law_many", "_law_most", "_law_great", "_law_base", "_law_turn"]
theorem scLPieces : FnScope nLPieces ["_law_generator_here", "_law_many", "_law_most", "_law_great"] (defScope sLPieces) := ⟨rfl, rfl, rfl, by decide +kernel, rfl, by decide +kernel, by decide +kernel⟩
theorem dr_neK {H : Hp} {g p : Addr} {n : Nat} (d : Dr H g n) (np : H p = none) : g ≠ p := by
  obtain ⟨a, b, c, e, r⟩ := d
  exact ne_of_none e np
theorem dr_updK {H : Hp} {g p : Addr} {n : Nat} {o : HO} (d : Dr H g n) (h : g ≠ p) : Dr (L2.upd H p o) g n := by
  obtain ⟨a, b, c, e, r⟩ := d
  exact ⟨a, b, c, by rw [upd_ne h]; exact e, r⟩
theorem dr_newK {H : Hp} {g p : Addr} {n : Nat} {o : HO} (d : Dr H g n) (np : H p = none) : Dr (L2.upd H p o) g n := dr_updK d (dr_neK d np)
theorem dr_same {H H' : Hp} {g : Addr} {n : Nat} (d : Dr H g n) (s : Same H H') : Dr H' g n := by
  obtain ⟨a, b, c, e, r⟩ := d
  exact ⟨a, b, c, s _ _ e, r⟩
theorem dr_tupK {H H' : Hp} {g p : Addr} {n : Nat} {xs : List L2.V} (d : Dr H g n) (b : But H H' g) (h : H p = some (.tup xs)) : H' p = some (.tup xs) := by
  obtain ⟨_, _, _, e, _⟩ := d
  exact b _ _ (fun z => by rw [z, e] at h; cases h) h
theorem IsPc.but {H H' : Hp} {g : Addr} {n : Nat} (d : Dr H g n) (b : But H H' g) {x : L2.V} {p : Pc} (h : IsPc H x p) : IsPc H' x p := by
  obtain ⟨a, f, e, t, u⟩ := h
  exact ⟨a, f, e, dr_tupK d b t, dr_tupK d b u⟩
theorem Pcs.but {H H' : Hp} {g : Addr} {n : Nat} (d : Dr H g n) (b : But H H' g) : ∀ {xs : List L2.V} {P : List Pc}, Pcs H xs P → Pcs H' xs P
  | _, _, .nil => .nil
  | _, _, .cons h r => .cons (h.but d b) (Pcs.but d b r)
/-- a piece that the law draws -/
structure Pk (m : Nat) (p : Pc) : Prop where
  w : AB p.1
  l : (cs p.1).length ≤ 10
  c0 : 0 ≤ p.2.1
  c2 : p.2.1 ≤ 2
  m : p.2.2.length = m
  x : ∀ x ∈ p.2.2, Sz 100 x
theorem Pk.pz {m : Nat} {p : Pc} (h : Pk m p) : Pz m 200 p := ⟨⟨h.c0, Int.lt_of_le_of_lt h.c2 (by decide +kernel)⟩, h.m, fun x hx => Sz.le (h.x x hx) (by decide)⟩
theorem sum_le {α : Type} {f : α → Int} {b : Int} : ∀ {ps : List α}, (∀ p ∈ ps, f p ≤ b) → (ps.map f).sum ≤ b * (ps.length : Int)
  | [], _ => by simp
  | p :: ps, h => by
    have a := h p List.mem_cons_self
    have r := sum_le (ps := ps) fun q hq => h q (List.mem_cons_of_mem _ hq)
    rw [List.map_cons, List.sum_cons, List.length_cons, Int.natCast_add, Int.mul_add]
    omega
theorem Pk.ten {m : Nat} {p : Pc} (h : Pk m p) {k : Int} (h0 : 0 ≤ k) : ((cs p.1).length : Int) * k ≤ 10 * k := Int.mul_le_mul_of_nonneg_right (by have := h.l; omega) h0
theorem pks_ps {m : Nat} {ps : List Pc} (h : ∀ p ∈ ps, Pk m p) (l : ps.length ≤ 5) : Ps m 200 ps := by
  refine ⟨by decide, fun p hp => (h p hp).pz, fun p hp => ⟨(h p hp).w, by have := (h p hp).l; omega⟩, by omega, ?_⟩
  have := sum_le (f := fun p => cn tt p.1 * fj p 0) (b := 20) (ps := ps) fun p hp => by
    show cn tt p.1 * p.2.1 ≤ 20
    rw [cn_tt]
    have a := (h p hp).ten (h p hp).c0
    have b := (h p hp).c2
    omega
  show (ps.map fun p => cn tt p.1 * fj p 0).sum ≤ 2000
  omega
theorem pks_meas {m : Nat} {ps : List Pc} (h : ∀ p ∈ ps, Pk m p) (l : ps.length ≤ 5) : meas ps ≤ 2000 := by
  have := sum_le (f := me1) (b := 30) (ps := ps) fun p hp => by
    unfold me1
    rw [cs_len]
    have b := (h p hp).c2
    have c := (h p hp).c0
    split
    · have a := (h p hp).ten (k := p.2.1 + 0) (by omega)
      omega
    · have a := (h p hp).ten (k := p.2.1 + 1) (by omega)
      omega
  unfold meas
  omega
def spLPiece : Sp := fun vs H Q _ => ∃ (g : Addr) (n m : Nat) (base : Str), vs = [.ref g, .str base, .int m, .bl true] ∧ AB base ∧ 1 ≤ (cs base).length ∧ (cs base).length ≤ 5 ∧ m ≤ 3 ∧ Dr H g n ∧ n ≤ 500000 ∧
  ∀ (H' : Hp) (v : L2.V) (p : Pc), IsPc H' v p → Pk m p → But H H' g → Dr H' g (n + 1000) → Q v H'
def spLPieces : Sp := fun vs H Q _ => ∃ (g : Addr) (n m k : Nat), vs = [.ref g, .int m, .int k, .bl true] ∧ k ≤ 5 ∧ m ≤ 3 ∧ Dr H g n ∧ n ≤ 400000 ∧
  ∀ (H' : Hp) (pl : Addr) (ps : List Pc), H pl = none → PL H' pl ps → (∀ p ∈ ps, Pk m p) → ps.length ≤ k → But H H' g → Dr H' g (n + 10000) → Q (.ref pl) H'
theorem ab_app {x y : Str} (hx : AB x) (hy : AB y) : AB (x ++ y) := fun c hc => by
  rw [cs_app] at hc
  rcases List.mem_append.mp hc with h | h
  · exact hx c h
  · exact hy c h
section
variable {P : Program} {w : World} {K : PySem.W.Frag} {mg : Str → Option Value} {base : Heap} {f : Addr} {fd : FuncData}
theorem ok_lpiece (F : FnP K "_law_piece" sLPiece f fd) (o_rand : Ok P w K mg base "_law_random" 2 ["_law_generator_here", "_law_bound"] spRand) (o_word : Ok P w K mg base "_law_word" 3 ["_law_generator_here", "_law_most"] spLWord) (z_len : mg "len" = none) (z_tuple : mg "tuple" = none) (z_range : mg "range" = none) :
    FnOk P w K mg base CX0 4 f fd ["_law_generator_here", "_law_base", "_law_many", "_law_great"] spLPiece := by
  have nd := scLPiece.nd
  refine F.ok scLPiece (fun vs H Q E h => ?_) (fun cdv A outer s H vs Q E hr h => ?_)
  · obtain ⟨g, n, m, b, rfl, _⟩ := h
    rfl
  · obtain ⟨g, n, m, b, rfl, hb, b1, b5, hm, dr, hn, q⟩ := h
    have szl := sizeLine_eq
    have lb := cs_len b
    have r3 : Room 3 (A.deeper (envOfC "_law_piece" (defScope sLPiece) s.heap.objs.size f cdv)) := hr
    have r2 := r3.mono (by decide : 2 ≤ 3)
    refine ⟨_, PSs.nox (pss_cons (ps_par (i := 4) (j := 5) rfl nd rfl rfl (by decide) rfl rfl (pa_cons (pe_callO o_rand r2 (by rfl) (pa_cons (pv 0) (pa_cons pe_int pa_nil))) (pa_cons (pe_callO o_rand r2 (by rfl) (pa_cons (pv 0) (pa_cons (pe_callB call_len_str (by rfl) z_len boot_len (pa_cons (pv 1) pa_nil)) pa_nil))) pa_nil)) (by rfl))
      (pss_cons (ps_set (i := 6) nd rfl (Or.inl rfl) (pe_op op_add_str (pe_slice sl_str (pv 1) (po_some (pv 5)) po_none) (pe_slice sl_str (pv 1) po_none (po_some (pv 5)))))
      (C8.pss_cut (ps_if (pt_cmpR op_eq (pv 4) pe_int (nomark _)) (pss_one (ps_set (i := 6) nd rfl (Or.inl rfl) (pe_op op_add_str (pv 6) (pv 6))))
        (pss_one (ps_if (pt_cmpR op_eq (pv 4) pe_int (nomark _)) (pss_one (ps_set (i := 6) nd rfl (Or.inl rfl) (pe_slice sl_str (pv 1) po_none (po_some (pv 5)))))
          (pss_one (ps_if (pt_cmpR op_lt (pv 4) pe_int (nomark _)) (pss_one (ps_set (i := 6) nd rfl (Or.inl rfl) (pe_callO o_word r3 (by rfl) (pa_cons (pv 0) (pa_cons pe_int pa_nil))))) pss_nil)))))
      (pss_cons (ps_set (i := 7) nd rfl (Or.inl rfl) (pe_lst (pa_cons (pe_callO o_rand r2 (by rfl) (pa_cons (pv 0) (pa_cons pe_int pa_nil))) pa_nil)))
      (pss_cons (ps_for PassesOwn.never rfl (pi_range1 (by rfl) z_range (pa_cons (pv 2) pa_nil)) (pg_name (i := 8) nd rfl (Or.inl rfl))
        (pss_cons (ps_set (i := 9) nd rfl (Or.inl rfl) (pe_callO o_rand r2 (by rfl) (pa_cons (pv 0) (pa_cons pe_int pa_nil))))
        (C8.pss_cut (ps_if (PW.pt (pw_and (pt_val (pv 3)) (pw_and (pt_cmpR op_gt (pv 9) pe_int (nomark _)) (pw_and1 (pt_cmpR op_eq (pe_callO o_rand r2 (by rfl) (pa_cons (pv 0) (pa_cons pe_int pa_nil))) pe_int (nomark _))))))
            (pss_one (ps_set (i := 9) nd rfl (Or.inl rfl) (pe_op op_add (pe_callO o_rand r2 (by rfl) (pa_cons (pv 0) (pa_cons (pe_op op_pow pe_int pe_int) pa_nil))) pe_int))) pss_nil)
        (pss_one (ps_expr (pe_bm PySem.F.plainAttrs_list PySem.F.slot_list_append PySem.F.type_list_append mt_append (pv 7) (pa_cons (pe_ifExp (pt_cmpR op_eq (pe_callO o_rand r2 (by rfl) (pa_cons (pv 0) (pa_cons pe_int pa_nil))) pe_int (nomark _)) (pv 9) pe_int) pa_nil)))))))
      (pss_one (ps_ret (pe_tup (pa_cons (pv 6) (pa_cons (pe_callTy call_tuple_of (by rfl) z_tuple (by decide +kernel) (pa_cons (pv 7) pa_nil)) pa_nil)))))))))), ?_⟩
    refine ⟨_, rfl, g, n, 6, rfl, dr, by omega, by decide, by decide +kernel, fun H1 kd k0 k6 bt1 d1 => ⟨_, rfl, _, rfl, b, rfl, by omega, g, n + 20, _, rfl, d1, by omega, by omega, Int.lt_of_le_of_lt (b := 5) (by omega) (by decide +kernel), fun H2 by_ y0 y1 bt2 d2 => ⟨_, _, rfl, ?_⟩⟩⟩
    obtain ⟨y, rfl⟩ := Int.eq_ofNat_of_zero_le y0
    have hy : y ≤ (cs b).length := by omega
    have eF := cut_from b y hy
    have eT := cut_to b y hy
    have abF : AB (cutS b (some (y : Int)) none) := fun c hc => hb c (by
      rw [eF] at hc
      exact List.mem_of_mem_drop hc)
    have abT : AB (cutS b none (some (y : Int))) := fun c hc => hb c (by
      rw [eT] at hc
      exact List.mem_of_mem_take hc)
    have lF : (cutS b (some (y : Int)) none).length = (cs b).length - y := by rw [cs_len, eF, List.length_drop]
    have lT : (cutS b none (some (y : Int))).length = y := by rw [cs_len, eT, List.length_take]; omega
    refine ⟨_, rfl, _, rfl, _, rfl, _, rfl, by omega, _, rfl, _, rfl, _, rfl, _, rfl, by omega, _, _, rfl, rfl, by rw [lF, lT]; omega, ?_⟩
    have abW := ab_app abF abT
    have lW : (cs (cutS b (some (y : Int)) none ++ cutS b none (some (y : Int)))).length = (cs b).length := by
      rw [cs_app, List.length_append, ← cs_len, ← cs_len, lF, lT]
      omega
    have lW2 := cs_len (cutS b (some (y : Int)) none ++ cutS b none (some (y : Int)))
    have bt12 := bt1.trans bt2
    refine ⟨fun σ' H' => ∃ z : Str, AB z ∧ (cs z).length ≤ 10 ∧ σ' = [some (.ref g), some (.str b), some (.int m), some (.bl true), some (.int kd), some (.int (y : Int)), some (.str z), none, none, none] ∧ But H H' g ∧ Dr H' g (n + 340), ?_, ?_⟩
    · refine ⟨_, rfl, rfl, _, rfl, ite2 (fun _ => ?_) (fun _ => ?_)⟩
      · refine ⟨_, rfl, _, rfl, _, _, rfl, rfl, by omega, _, ab_app abW abW, ?_, rfl, bt12, d2.mono (by omega)⟩
        rw [cs_app, List.length_append]
        omega
      · refine ⟨_, rfl, rfl, _, rfl, ite2 (fun _ => ?_) (fun _ => ?_)⟩
        · exact ⟨_, rfl, _, rfl, _, rfl, _, rfl, by omega, _, abT, by rw [← cs_len, lT]; omega, rfl, bt12, d2.mono (by omega)⟩
        · refine ⟨_, rfl, _, _, rfl, rfl, _, rfl, ite2 (fun _ => ?_) (fun _ => ?_)⟩
          · exact ⟨_, rfl, g, n + 40, 4, rfl, d2, by omega, by decide, fun H3 z az lz bt3 d3 => ⟨z, az, by omega, rfl, bt12.trans bt3, d3.mono (by omega)⟩⟩
          · exact ⟨_, abW, by omega, rfl, bt12, d2.mono (by omega)⟩
    · rintro σ' H3 ⟨z, az, lz, rfl, bt3, d3⟩
      refine ⟨_, rfl, g, n + 340, 3, rfl, d3, by omega, by decide, by decide +kernel, fun H4 c c0 c3 bt4 d4 => ⟨(by show 1 ≤ sizeLine; omega), fun fl nfl => ?_⟩⟩
      have gfl := dr_neK d4 nfl
      have bt4 := bt3.trans bt4
      refine ⟨_, rfl, (m : Int), rfl, by omega, by omega, ?_⟩
      have eN : ((m : Int)).toNat = m := by omega
      rw [eN]
      refine for_range (lo := 0) (n := m) (fun i σ H' => But H4 H' g ∧ Dr H' g (n + 360 + 100 * i) ∧ ∃ (xs : List Int) (x8 x9 : Option L2.V), σ = [some (.ref g), some (.str b), some (.int m), some (.bl true), some (.int kd), some (.int (y : Int)), some (.str z), some (.ref fl), x8, x9] ∧ xs.length = i ∧ (∀ x ∈ xs, Sz 100 x) ∧ H' fl = some (.lst ((c :: xs).map V.int)))
        ⟨Same.but (same_new nfl), (dr_newK d4 nfl).mono (by omega), [], _, _, rfl, rfl, fun x hx => (by cases hx), upd_same⟩ ?_ ?_
      · rintro i σ H5 hi ⟨bt5, d5, xs, x8, x9, rfl, lx, sx, h5⟩
        refine ⟨_, rfl, g, n + 360 + 100 * i, 3, rfl, d5, by omega, by decide, by decide +kernel, fun H6 x x0 x3 bt6 d6 => ?_⟩
        have h6 := bt6 _ _ (Ne.symm gfl) h5
        have bt6 := bt5.trans bt6
        refine ⟨fun σ' H' => But H4 H' g ∧ Dr H' g (n + 360 + 100 * i + 60) ∧ H' fl = some (.lst ((c :: xs).map V.int)) ∧ ∃ x' : Int, Sz 100 x' ∧ σ' = [some (.ref g), some (.str b), some (.int m), some (.bl true), some (.int kd), some (.int (y : Int)), some (.str z), some (.ref fl), some (.int (0 + (i : Int))), some (.int x')], ?_, ?_⟩
        · have keep : ∀ H', But H4 H' g → Dr H' g (n + 360 + 100 * i + 60) → H' fl = some (.lst ((c :: xs).map V.int)) → (But H4 H' g ∧ Dr H' g (n + 360 + 100 * i + 60) ∧ H' fl = some (.lst ((c :: xs).map V.int)) ∧ ∃ x' : Int, Sz 100 x' ∧ ([some (.ref g), some (.str b), some (.int m), some (.bl true), some (.int kd), some (.int (y : Int)), some (.str z), some (.ref fl), some (.int (0 + (i : Int))), some (.int x)] : L2.St) = [some (.ref g), some (.str b), some (.int m), some (.bl true), some (.int kd), some (.int (y : Int)), some (.str z), some (.ref fl), some (.int (0 + (i : Int))), some (.int x')]) :=
            fun H' a b c => ⟨a, b, c, x, ⟨x0, Int.lt_of_lt_of_le x3 (by decide +kernel)⟩, rfl⟩
          refine ⟨_, rfl, true, rfl, iteT ⟨_, rfl, _, _, rfl, rfl, _, rfl, ite2 (fun _ => ?_) (fun _ => iteF (keep H6 bt6 (d6.mono (by omega)) h6))⟩⟩
          refine ⟨_, rfl, g, n + 360 + 100 * i + 20, 6, rfl, d6, by omega, by decide, by decide +kernel, fun H7 u u0 u6 bt7 d7 => ⟨rfl, _, rfl, ite2 (fun _ => ?_) (fun _ => ?_)⟩⟩
          · have h7 := bt7 _ _ (Ne.symm gfl) h6
            refine ⟨_, rfl, _, _, rfl, rfl, ⟨by decide, by decide, by decide⟩, g, n + 360 + 100 * i + 40, _, rfl, d7, by omega, (by show (0 : Int) < 10 ^ 18; decide), (by show (10 : Int) ^ 18 < 10 ^ 100; decide), fun H8 r r0 r1 bt8 d8 => ?_⟩
            refine ⟨_, _, rfl, rfl, (bt6.trans bt7).trans bt8, d8, bt8 _ _ (Ne.symm gfl) h7, r + 1, ⟨by omega, ?_⟩, rfl⟩
            have e18 : (10 : Int) ^ (18 : Int).toNat + 1 ≤ 2 ^ 100 := by decide +kernel
            have r1 : r < (10 : Int) ^ (18 : Int).toNat := r1
            omega
          · exact keep H7 (bt6.trans bt7) (d7.mono (by omega)) (bt7 _ _ (Ne.symm gfl) h6)
        · rintro σ' H7 ⟨bt7, d7, h7, x', sx', rfl⟩
          refine ⟨_, rfl, .inl ⟨rfl, _, SqL.of h7⟩, _, rfl, g, n + 360 + 100 * i + 60, 2, rfl, d7, by omega, by decide, by decide +kernel, fun H8 u u0 u2 bt8 d8 => ⟨rfl, _, rfl, ?_⟩⟩
          have h8 := bt8 _ _ (Ne.symm gfl) h7
          have fin : ∀ x : Int, Sz 100 x → But H4 (upd H8 fl (.lst ((c :: xs).map V.int ++ [.int x]))) g ∧ Dr (upd H8 fl (.lst ((c :: xs).map V.int ++ [.int x]))) g (n + 360 + 100 * (i + 1)) ∧ ∃ (xs' : List Int) (x8 x9 : Option L2.V), ([some (.ref g), some (.str b), some (.int m), some (.bl true), some (.int kd), some (.int (y : Int)), some (.str z), some (.ref fl), some (.int (0 + (i : Int))), some (.int x')] : L2.St) = [some (.ref g), some (.str b), some (.int m), some (.bl true), some (.int kd), some (.int (y : Int)), some (.str z), some (.ref fl), x8, x9] ∧ xs'.length = i + 1 ∧ (∀ x ∈ xs', Sz 100 x) ∧ (upd H8 fl (.lst ((c :: xs).map V.int ++ [.int x]))) fl = some (.lst ((c :: xs').map V.int)) := fun x hx => by
            refine ⟨fun b o nb e => ?_, dr_updK (d8.mono (by omega)) gfl, xs ++ [x], _, _, rfl, by rw [List.length_append, lx]; rfl, fun v hv => ?_, ?_⟩
            · rw [upd_ne (ne_of_none e nfl)]
              exact bt8 _ _ nb (bt7 _ _ nb e)
            · rcases List.mem_append.mp hv with h | h
              · exact sx v h
              · rw [List.mem_singleton.mp h]
                exact hx
            · rw [upd_same, List.map_cons, List.map_cons, List.map_append]
              rfl
          have ln : ((c :: xs).map V.int).length < sizeLine := by
            rw [List.length_map, List.length_cons]
            omega
          refine ite2 (fun _ => ?_) (fun _ => ?_)
          · exact ⟨_, rfl, fl, _, _, rfl, rfl, h8, ln, fin x' sx'⟩
          · exact ⟨fl, _, _, rfl, rfl, h8, ln, fin 0 ⟨Int.le_refl 0, by decide +kernel⟩⟩
      · rintro σ H5 ⟨bt5, d5, xs, x8, x9, rfl, lx, sx, h5⟩
        refine ⟨_, rfl, _, rfl, fl, _, rfl, .inl ⟨SqL.of h5, fun t nt => ⟨(by show 2 ≤ sizeLine; omega), fun u nu => ?_⟩⟩⟩
        have st := same_new (o := .tup ((c :: xs).map V.int)) nt
        have su := same_new (o := .tup [.str z, .ref t]) nu
        refine q _ _ (z, c, xs) ⟨u, t, rfl, upd_same, su _ _ upd_same⟩ ⟨az, lz, c0, by show c ≤ 2; omega, lx, sx⟩ ((bt4.trans bt5).trans (Same.but (st.trans su))) (dr_same (d5.mono (by omega)) (st.trans su))
theorem ok_lpieces (F : FnP K "_law_pieces" sLPieces f fd) (o_rand : Ok P w K mg base "_law_random" 2 ["_law_generator_here", "_law_bound"] spRand) (o_piece : Ok P w K mg base "_law_piece" 4 ["_law_generator_here", "_law_base", "_law_many", "_law_great"] spLPiece) (z_range : mg "range" = none) :
    FnOk P w K mg base CX0 5 f fd ["_law_generator_here", "_law_many", "_law_most", "_law_great"] spLPieces := by
  have nd := scLPieces.nd
  refine F.ok scLPieces (fun vs H Q E h => ?_) (fun cdv A outer s H vs Q E hr h => ?_)
  · obtain ⟨g, n, m, k, rfl, _⟩ := h
    rfl
  · obtain ⟨g, n, m, k, rfl, hk, hm, dr, hn, q⟩ := h
    have szl := sizeLine_eq
    have r4 : Room 4 (A.deeper (envOfC "_law_pieces" (defScope sLPieces) s.heap.objs.size f cdv)) := hr
    have r2 := r4.mono (by decide : 2 ≤ 4)
    refine ⟨_, PSs.nox (pss_cons (ps_set (i := 4) nd rfl (Or.inr rfl) (pe_ix ix_list (pe_lst (pa_cons pe_str (pa_cons pe_str (pa_cons pe_str (pa_cons pe_str (pa_cons pe_str pa_nil)))))) (pe_callO o_rand r2 (by rfl) (pa_cons (pv 0) (pa_cons pe_int pa_nil))) (fun _ _ => rfl)))
      (pss_one (ps_ret (pe_lc (own := [("_law_turn", 5)]) (g := gName 5) (by rfl) nd (pi_range1 (by rfl) z_range (pa_cons (pe_callO o_rand r2 (by rfl) (pa_cons (pv 0) (pa_cons (pe_op op_add (pv 2) pe_int) pa_nil))) pa_nil)) (blkOk_by (N := nLPieces) (sc := defScope sLPieces) (own := [("_law_turn", 5)]) (by decide +kernel))
        (fun _ _ _ _ _ => pg_name (i := 5) nd rfl (Or.inl rfl)) (fun _ _ _ _ _ => pts_nil)
        (fun _ _ _ _ _ => pe_callO o_piece r4 (by rfl) (pa_cons (pv 0) (pa_cons (pv 4) (pa_cons (pv 1) (pa_cons (pv 3) pa_nil))))))))), ?_⟩
    refine ⟨(by show 5 ≤ sizeLine; omega), fun l nl => ?_⟩
    have sl := same_new (o := .lst [.str "ab", .str "aab", .str "a", .str "abb", .str "aabab"]) nl
    have d0 := dr_newK (o := .lst [.str "ab", .str "aab", .str "a", .str "abb", .str "aabab"]) dr nl
    have gl := dr_neK dr nl
    refine ⟨_, rfl, g, n, 5, rfl, d0, by omega, by decide, by decide +kernel, fun H1 r r0 r5 bt1 d1 => ?_⟩
    have hl1 := bt1 _ _ (Ne.symm gl) (upd_same (H := H) (a := l) (o := .lst [.str "ab", .str "aab", .str "a", .str "abb", .str "aabab"]))
    obtain ⟨bs, eb, ab, l1, l5⟩ : ∃ bs : Str, atI [L2.V.str "ab", .str "aab", .str "a", .str "abb", .str "aabab"] r = some (.str bs) ∧ AB bs ∧ 1 ≤ (cs bs).length ∧ (cs bs).length ≤ 5 := by
      have ok : ∀ z : Str, ((cs z).all fun c => decide (c = 97) || decide (c = 98)) = true → AB z := fun z h c hc => by
        have := List.all_eq_true.mp h c hc
        simpa using this
      have e : r = 0 ∨ r = 1 ∨ r = 2 ∨ r = 3 ∨ r = 4 := by omega
      rcases e with rfl | rfl | rfl | rfl | rfl
      · exact ⟨"ab", rfl, ok _ (by decide +kernel), by decide +kernel, by decide +kernel⟩
      · exact ⟨"aab", rfl, ok _ (by decide +kernel), by decide +kernel, by decide +kernel⟩
      · exact ⟨"a", rfl, ok _ (by decide +kernel), by decide +kernel, by decide +kernel⟩
      · exact ⟨"abb", rfl, ok _ (by decide +kernel), by decide +kernel, by decide +kernel⟩
      · exact ⟨"aabab", rfl, ok _ (by decide +kernel), by decide +kernel, by decide +kernel⟩
    refine ⟨l, _, r, _, rfl, rfl, SqL.of hl1, eb, ?_⟩
    have bt0 : But H H1 g := (Same.but sl).trans bt1
    refine ⟨_, rfl, _, rfl, _, _, rfl, rfl, g, n + 20, (k : Int) + 1, rfl, d1, by omega, by omega, Int.lt_of_le_of_lt (b := 6) (by omega) (by decide +kernel), fun H2 t t0 tk bt2 d2 => ⟨t, rfl, by omega, by omega, fun D nD => ?_⟩⟩
    have gD := dr_neK d2 nD
    have nD0 : H D = none := by
      cases e : H D with
      | none => rfl
      | some o =>
        have := bt2 _ _ (Ne.symm gD) (bt0 _ _ (Ne.symm gD) e)
        rw [nD] at this
        cases this
    refine lc_range (lo := 0) (n := t.toNat) (fun i H' => But H2 H' g ∧ Dr H' g (n + 40 + 1000 * i) ∧ ∃ (xs : List L2.V) (ps : List Pc), H' D = some (.lst xs) ∧ Pcs H' xs ps ∧ ps.length = i ∧ ∀ p ∈ ps, Pk m p) ⟨Same.but (same_new nD), dr_newK (d2.mono (by omega)) nD, [], [], upd_same, .nil, rfl, fun p hp => (by cases hp)⟩ ?_ ?_
    · rintro i H3 hi ⟨bt3, d3, xs, ps, hD, hP, lp, hk⟩
      have lx := hP.len
      refine ⟨rfl, ?_⟩
      refine ⟨_, rfl, _, rfl, _, rfl, _, rfl, g, n + 40 + 1000 * i, m, bs, rfl, ab, l1, l5, hm, d3, by omega, fun H4 v p ip pk bt4 d4 => ?_⟩
      have hD4 := bt4 _ _ (Ne.symm gD) hD
      refine ⟨xs, hD4, small1000 (by omega), fun b o nb e => ?_, dr_updK (d4.mono (by omega)) gD, xs ++ [v], ps ++ [p], upd_same, Pcs.updL hD4 (Pcs.snoc ip (hP.but d3 bt4)), by rw [List.length_append, lp]; rfl, fun p' hp => ?_⟩
      · rw [upd_ne (ne_of_none e nD)]
        exact bt4 _ _ nb (bt3 _ _ nb e)
      · rcases List.mem_append.mp hp with h | h
        · exact hk p' h
        · rw [List.mem_singleton.mp h]
          exact pk
    · rintro H3 ⟨bt3, d3, xs, ps, hD, hP, lp, hk⟩
      exact q H3 D ps nD0 ⟨xs, hD, hP⟩ hk (by omega) ((bt0.trans bt2).trans bt3) (d3.mono (by omega))
end
end K5
set_option Elab.async false
set_option linter.all false
set_option maxRecDepth 100000
set_option maxHeartbeats 4000000
/-! sum and max of a tuple of whole numbers; rules with the part of the heap told. -/
namespace XV
open PySem PySem.Spec PyProof.Rows L2
def rSumT (K : PySem.W.Frag) : List V → Hp → VK → Prop := fun vs H Q => ∃ (a : Addr) (ns : List Int), vs = [.ref a] ∧ SqT K H a (ns.map V.int) ∧ Q (.int ns.sum) H
theorem cr_sumTK {X : Cx} {K : PySem.W.Frag} (e : X.K = K) (hc : X.calm = true) : CallR X (.builtin "sum") (rSumT K) := by
  subst e
  intro pins s σ H vs us Q I r h
  obtain ⟨a, ns, rfl, hs, q⟩ := h
  obtain ⟨its, rv, ht, _⟩ := I.tuple hs
  obtain ⟨u, rfl, ru⟩ := vals1 r
  obtain rfl : u = Value.ref a := ru
  have hi : IntsAre its ns := rv.ints
  obtain ⟨xs, hx⟩ := hi.allInts.items
  have hn : numsOf its.toArray.toList = ns := by rw [show its.toArray.toList = its from rfl, hi.numsOf]
  have ht : s.heap.IsTuple a its.toArray := ht
  rw [hx] at ht hn
  rw [nums_intItems] at hn
  refine PySem.W.ktm_sumG (I.ok.hd hc) ht fun h' tk t' hk => ?_
  have e : preSum (numAt xs) xs.size = ns.sum := by rw [preSum_eq, List.take_of_length_le (by simp), hn]
  rw [e]
  exact ⟨.int _, H, I.kept (t' := tk) hk, ⟨_, rfl⟩, q⟩
def rMaxT (K : PySem.W.Frag) : List V → Hp → VK → Prop := fun vs H Q => ∃ (a : Addr) (n : Int) (ns : List Int), vs = [.ref a] ∧ SqT K H a ((n :: ns).map V.int) ∧ Q (.int (ns.foldl max n)) H
theorem alikeI (l : List Int) : PySem.W.AlikeAll (l.map PyData.int) := ⟨fun x hx y hy => by
  obtain ⟨i, _, rfl⟩ := List.mem_map.mp hx
  obtain ⟨j, _, rfl⟩ := List.mem_map.mp hy
  rfl, fun x hx => by
  obtain ⟨i, _, rfl⟩ := List.mem_map.mp hx
  intro z
  cases z⟩
theorem cr_maxTK {X : Cx} {K : PySem.W.Frag} (e : X.K = K) (hc : X.calm = true) (hu : X.A.units + 1 < cLine) : CallR X (.builtin "max") (rMaxT K) := by
  subst e
  intro pins s σ H vs us Q I r h
  obtain ⟨a, n, ns, rfl, hs, q⟩ := h
  obtain ⟨its, rv, ht, _⟩ := I.tuple hs
  obtain ⟨u, rfl, ru⟩ := vals1 r
  obtain rfl : u = Value.ref a := ru
  obtain ⟨as, rd⟩ := Dp.readsAll I ((n :: ns).map PyData.int) _ _ (dpI (n :: ns)) rv
  have ht : s.heap.IsTuple a its.toArray := ht
  refine PySem.W.max_tuple_data (vs := its.toArray) (x := .int n) (xs := ns.map PyData.int) (as := as) (I.ok.hd hc) ht (by simpa using rd) (alikeI (n :: ns)) (by rw [show (PyData.int n :: ns.map PyData.int) = (n :: ns).map PyData.int from rfl, depI]; omega) fun i v h' tk bs hv hr hk => ?_
  rw [PySem.W.maxD_ints] at hr
  cases hr with
  | int i t => exact ⟨.int _, H, I.kept (t' := tk) hk, ⟨_, rfl⟩, q⟩
/-- max of a list that is not empty -/
def rMaxL (K : PySem.W.Frag) : List V → Hp → VK → Prop := fun vs H Q => ∃ (a : Addr) (n : Int) (ns : List Int), vs = [.ref a] ∧ SqL K H a ((n :: ns).map V.int) ∧ Q (.int (ns.foldl max n)) H
theorem cr_maxLK {X : Cx} {K : PySem.W.Frag} (e : X.K = K) (hc : X.calm = true) (hu : X.A.units + 1 < cLine) : CallR X (.builtin "max") (rMaxL K) := by
  subst e
  intro pins s σ H vs us Q I r h
  obtain ⟨a, n, ns, rfl, hs, q⟩ := h
  obtain ⟨its, rv, hl, _⟩ := I.list hs
  obtain ⟨u, rfl, ru⟩ := vals1 r
  obtain rfl : u = Value.ref a := ru
  obtain ⟨as, rd⟩ := Dp.readsAll I ((n :: ns).map PyData.int) _ _ (dpI (n :: ns)) rv
  refine PySem.W.max_list_data (vs := its.toArray) (x := .int n) (xs := ns.map PyData.int) (as := as) (I.ok.hd hc) hl.isList (by simpa using rd) (alikeI (n :: ns)) (by rw [show (PyData.int n :: ns.map PyData.int) = (n :: ns).map PyData.int from rfl, depI]; omega) fun i v h' tk bs hv hr hk => ?_
  rw [PySem.W.maxD_ints] at hr
  cases hr with
  | int i t => exact ⟨.int _, H, I.kept (t' := tk) hk, ⟨_, rfl⟩, q⟩
theorem foldl_max_le : ∀ (ns : List Int) (n b : Int), ns.foldl max n ≤ b ↔ n ≤ b ∧ ∀ x ∈ ns, x ≤ b
  | [], n, b => by simp
  | x :: ns, n, b => by
    rw [List.foldl_cons, foldl_max_le ns (max n x) b]
    simp only [List.mem_cons, forall_eq_or_imp]
    exact ⟨fun ⟨h1, h2⟩ => ⟨by omega, by omega, h2⟩, fun ⟨h1, h2, h3⟩ => ⟨by omega, h3⟩⟩
theorem foldl_max_eq {ns : List Int} {n m : Int} (h : ∀ b, ns.foldl max n ≤ b ↔ m ≤ b) : ns.foldl max n = m := by
  have a := (h (ns.foldl max n)).mp (Int.le_refl _)
  have b := (h m).mpr (Int.le_refl _)
  omega
end XV
set_option Elab.async false
set_option linter.all false
set_option maxRecDepth 100000
set_option maxHeartbeats 4000000
namespace K5
open PySem PySem.Spec PyProof.Rows L2 XV NP
/-! ### the law's measure, its written, its led -/
theorem sum_nn : ∀ {l : List Int}, (∀ x ∈ l, 0 ≤ x) → 0 ≤ l.sum
  | [], _ => by simp
  | x :: l, h => by
    have a := h x List.mem_cons_self
    have b := sum_nn fun y hy => h y (List.mem_cons_of_mem _ hy)
    rw [List.sum_cons]
    omega
theorem sum_pos {l : List Int} (h : ∀ x ∈ l, 0 ≤ x) : (l.sum > 0) ↔ ¬ ∀ x ∈ l, x = 0 := by
  induction l with
  | nil => simp
  | cons x l ih =>
    have a := h x List.mem_cons_self
    have hl : ∀ y ∈ l, 0 ≤ y := fun y hy => h y (List.mem_cons_of_mem _ hy)
    have b := sum_nn hl
    have ih := ih hl
    rw [List.sum_cons]
    simp only [List.mem_cons, forall_eq_or_imp]
    by_cases c : ∀ y ∈ l, y = 0
    · have z : ¬ l.sum > 0 := fun z => (ih.mp z) c
      constructor
      · intro p q
        have := q.1
        omega
      · intro p
        by_cases e : x = 0
        · exact absurd ⟨e, c⟩ p
        · omega
    · have z := ih.mpr c
      exact ⟨fun _ q => c q.2, fun _ => by omega⟩
abbrev sLMeas : Stmt := top 75
abbrev sLWritten : Stmt := top 74
abbrev sLLed : Stmt := top 76
theorem scLMeas : FnScope ["_law_pieces_here", "_law_piece_here"] ["_law_pieces_here"] (defScope sLMeas) := ⟨rfl, rfl, rfl, by decide +kernel, rfl, by decide +kernel, by decide +kernel⟩
theorem scLWritten : FnScope ["_law_pieces_here", "_law_point", "_law_piece_here"] ["_law_pieces_here", "_law_point"] (defScope sLWritten) := ⟨rfl, rfl, rfl, by decide +kernel, rfl, by decide +kernel, by decide +kernel⟩
def spLMeas : Sp := fun vs H Q _ => ∃ (m kb : Nat) (pl : Addr) (ps : List Pc), vs = [.ref pl] ∧ m ≤ 3 ∧ PL H pl ps ∧ Pq m kb ps ∧ ∀ H', Same H H' → Q (.int (meas ps)) H'
def spLWritten : Sp := fun vs H Q _ => ∃ (m : Nat) (pl bp : Addr) (ps : List Pc) (ys : List Int), vs = [.ref pl, .ref bp] ∧ m ≤ 3 ∧ PL H pl ps ∧ (∀ p ∈ ps, Pk m p) ∧ ps.length ≤ 8 ∧ H bp = some (.lst (ys.map V.int)) ∧ ys.length = m ∧ (∀ y ∈ ys, Sz 400 y) ∧ (∀ p ∈ ps, 0 ≤ tms p ys ∧ tms p ys ≤ 1000) ∧
  ∀ (H' : Hp) (z : Str), Same H H' → cs z = NP.V ys ps → Q (.str z) H'
theorem mulOk0 {n : Int} (h0 : 0 ≤ n) (h1 : n ≤ 1000) : MulOk "" n := by
  refine ⟨?_, fun _ h => ?_, fun _ h => ?_⟩
  · rw [decide_eq_false (by omega), decide_eq_false (by omega)]
    rfl
  · rw [show ("" : Str).length = 0 by decide +kernel] at h
    simp at h
  · rw [show ("" : Str).length = 0 by decide +kernel] at h
    simp at h
theorem V_take (ys : List Int) (i : Nat) (ps : List Pc) {p : Pc} (e : ps[i]? = some p) : NP.V ys (ps.take (i + 1)) = NP.V ys (ps.take i) ++ pw (cs p.1) (tms p ys).toNat := by
  rw [List.take_add_one, e, V_app]
  exact congrArg _ (V_one ys p)
theorem V_len {b c : Nat} (ys : List Int) : ∀ {ps : List Pc}, (∀ p ∈ ps, (cs p.1).length ≤ b) → (∀ p ∈ ps, tms p ys ≤ (c : Int)) → (NP.V ys ps).length ≤ b * c * ps.length
  | [], _, _ => Nat.zero_le _
  | p :: ps, h, g => by
    have ih := V_len ys (ps := ps) (fun q hq => h q (List.mem_cons_of_mem _ hq)) fun q hq => g q (List.mem_cons_of_mem _ hq)
    have e : NP.V ys (p :: ps) = pw (cs p.1) (tms p ys).toNat ++ NP.V ys ps := rfl
    have a := h p List.mem_cons_self
    have t : (tms p ys).toNat ≤ c := by
      have := g p List.mem_cons_self
      omega
    rw [e, List.length_append, pw_len, List.length_cons, Nat.mul_add, Nat.mul_one]
    have := Nat.mul_le_mul t a
    rw [Nat.mul_comm c b] at this
    omega
section
variable {P : Program} {w : World} {K : PySem.W.Frag} {mg : Str → Option Value} {base : Heap} {f : Addr} {fd : FuncData} {C : Addr}
theorem pc0 (p : Pc) (f1 : Addr) : atI [V.str p.1, V.ref f1] ((0 : Nat) : Int) = some (V.str p.1) := atI_nat rfl
theorem pc1 (p : Pc) (f1 : Addr) : atI [V.str p.1, V.ref f1] ((1 : Nat) : Int) = some (V.ref f1) := atI_nat rfl
theorem ok_lmeas (F : FnP K "_law_measure" sLMeas f fd) (z_sum : mg "sum" = none) (z_len : mg "len" = none) : FnOk P w K mg base CX0 1 f fd ["_law_pieces_here"] spLMeas := by
  have nd := scLMeas.nd
  refine F.ok scLMeas (fun vs H Q E h => ?_) (fun cdv A outer s H vs Q E hr h => ?_)
  · obtain ⟨m, kb, pl, ps, rfl, _⟩ := h
    rfl
  · obtain ⟨m, kb, pl, ps, rfl, hm, ⟨xs, hp, hP⟩, hq, q⟩ := h
    have lx := hP.len
    have l90 := hq.l
    have hkk := hq.kk
    have szl := sizeLine_eq
    refine ⟨_, PSs.nox (pss_one (ps_ret (pe_callB (cr_sum rfl) (by rfl) z_sum (by decide +kernel) (pa_cons
      (pe_lc (own := [("_law_piece_here", 1)]) (g := gName 1) (by rfl) nd (pi_list (pv 0)) (blkOk_by (N := ["_law_pieces_here", "_law_piece_here"]) (sc := defScope sLMeas) (own := [("_law_piece_here", 1)]) (by decide +kernel)) (fun _ _ _ _ _ => pg_name (i := 1) nd rfl (Or.inl rfl)) (fun _ _ _ _ _ => pts_nil)
        (fun _ _ _ _ _ => pe_op op_mulW (pe_callB call_len_str (by rfl) z_len boot_len (pa_cons (pe_ix (ix_tupK (K := K) rfl) (pv 1) pe_int (fun _ _ => rfl)) pa_nil))
          (pe_op op_add (pe_ix (ix_tupK (K := K) rfl) (pe_ix (ix_tupK (K := K) rfl) (pv 1) pe_int (fun _ _ => rfl)) pe_int (fun _ _ => rfl))
            (pe_ifExp (pt_cmpR op_gt (pe_callB (cr_sumTK (K := K) rfl rfl) (by rfl) z_sum (by decide +kernel) (pa_cons (pe_slice sl_tupS (pe_ix (ix_tupK (K := K) rfl) (pv 1) pe_int (fun _ _ => rfl)) (po_some pe_int) po_none) pa_nil)) pe_int (nomark _)) pe_int pe_int)))) pa_nil)))), ?_⟩
    refine ⟨_, rfl, pl, rfl, ⟨_, SqL.of hp⟩, fun D nD => lc_list (K := K) (a := pl) (xs := xs) (fun k H' => Same H H' ∧ H' D = some (.lst (((ps.take k).map me1).map V.int))) ⟨same_new nD, upd_same⟩ (fun k H' _ p => SqL.of (p.1 _ _ hp)) ?_ ?_⟩
    · rintro k y H' hk ⟨sm, hD⟩
      obtain ⟨p, ep, ⟨t, f1, rfl, ht, hf⟩⟩ := (hP.keep sm).get hk
      have pz := hq.z p (List.mem_of_getElem? ep)
      obtain ⟨_, l2⟩ := hq.w p (List.mem_of_getElem? ep)
      have lk : k < ps.length := (List.getElem?_eq_some_iff.mp ep).1
      have lz := cs_len p.1
      have at0 : atI ((p.2.1 :: p.2.2).map V.int) ((0 : Nat) : Int) = some (V.int p.2.1) := atI_nat rfl
      have hf : H' f1 = some (.tup ((p.2.1 :: p.2.2).map V.int)) := hf
      refine ⟨rfl, ?_⟩
      refine ⟨_, rfl, t, _, _, _, rfl, rfl, SqT.of ht, pc0 p f1, p.1, rfl, by omega, ?_⟩
      refine ⟨_, rfl, t, _, _, _, rfl, rfl, SqT.of ht, pc1 p f1, f1, _, _, _, rfl, rfl, SqT.of hf, at0, ?_⟩
      refine ⟨_, rfl, t, _, _, _, rfl, rfl, SqT.of ht, pc1 p f1, _, rfl, f1, _, rfl, hf, fun H2 u s2 hu => ?_⟩
      have hu : H2 u = some (.tup (p.2.2.map V.int)) := by
        rw [hu]
        exact congrArg (fun z => some (HO.tup z)) (cut_rest _ _)
      refine ⟨u, p.2.2, rfl, SqT.of hu, _, _, rfl, rfl, _, rfl, ?_⟩
      have fin : ∀ z : Int, z = (if (∀ x ∈ p.2.2, x = 0) then 0 else 1) → ∃ i j : Int, V.int p.2.1 = .int i ∧ V.int z = .int j ∧ ∃ i' j' : Int, V.int ((p.1.length : Nat) : Int) = .int i' ∧ V.int (i + j) = .int j' ∧ CMulW i' j' ∧ ∃ acc, H2 D = some (.lst acc) ∧ acc.length < sizeLine ∧ (Same H (upd H2 D (.lst (acc ++ [.int (i' * j')]))) ∧ (upd H2 D (.lst (acc ++ [.int (i' * j')]))) D = some (.lst (((ps.take (k + 1)).map me1).map V.int))) := by
        rintro z rfl
        refine ⟨_, _, rfl, rfl, _, _, rfl, rfl, ?_, _, s2 _ _ hD, ?_, fun b o e => ?_, ?_⟩
        · have s1 : Sz 12 ((p.1.length : Nat) : Int) := ⟨by omega, Int.lt_of_le_of_lt (b := 2000) (by omega) (by decide)⟩
          have s2 : Sz (kb + 1 + 1) (p.2.1 + if (∀ x ∈ p.2.2, x = 0) then 0 else 1) := Sz.add (Sz.le pz.c (by omega)) (by
            split
            · exact Sz.zero _
            · exact Sz.one kb)
          exact s1.mulW s2 (by omega)
        · rw [List.length_map, List.length_map]
          exact small1000 (Nat.le_trans (List.length_take_le _ _) (by omega))
        · rw [upd_ne (ne_of_none (H := H) e nD)]
          exact s2 _ _ (sm _ _ e)
        · rw [upd_same, List.take_add_one, ep, List.map_append, List.map_append]
          rfl
      have pos := sum_pos fun x hx => (pz.x x hx).1
      refine ite2 (fun c => ?_) (fun c => ?_)
      · exact fin 1 (by rw [if_neg (pos.mp (of_decide_eq_true c))])
      · exact fin 0 (by rw [if_pos (Classical.not_not.mp fun z => c (decide_eq_true (pos.mpr z)))])
    · rintro H' ⟨sm, hD⟩
      rw [lx, List.take_length] at hD
      exact ⟨D, _, rfl, SqL.of hD, q H' sm⟩
theorem ok_lwritten (F : FnP K "_law_written" sLWritten f fd) (o_val : Ok P w K mg base "_law_value" 1 ["_law_form", "_law_point"] spFormValue) : FnOk P w K mg base CX0 2 f fd ["_law_pieces_here", "_law_point"] spLWritten := by
  have nd := scLWritten.nd
  refine F.ok scLWritten (fun vs H Q E h => ?_) (fun cdv A outer s H vs Q E hr h => ?_)
  · obtain ⟨m, pl, bp, ps, ys, rfl, _⟩ := h
    rfl
  · obtain ⟨m, pl, bp, ps, ys, rfl, hm, ⟨xs, hp, hP⟩, hk, l8, hb, ly, sy, ht, q⟩ := h
    have lx := hP.len
    have szl := sizeLine_eq
    have r1 : Room 1 (A.deeper (envOfC "_law_written" (defScope sLWritten) s.heap.objs.size f cdv)) := hr
    refine ⟨_, PSs.nox (pss_one (ps_ret (pe_join pe_str
      (pe_lc (own := [("_law_piece_here", 2)]) (g := gName 2) (by rfl) nd (pi_list (pv 0)) (blkOk_by (N := ["_law_pieces_here", "_law_point", "_law_piece_here"]) (sc := defScope sLWritten) (own := [("_law_piece_here", 2)]) (by decide +kernel)) (fun _ _ _ _ _ => pg_name (i := 2) nd rfl (Or.inl rfl)) (fun _ _ _ _ _ => pts_nil)
        (fun _ _ _ _ _ => pe_op op_mulS (pe_ix (ix_tupK (K := K) rfl) (pv 2) pe_int (fun _ _ => rfl)) (pe_callO o_val r1 (by rfl) (pa_cons (pe_ix (ix_tupK (K := K) rfl) (pv 2) pe_int (fun _ _ => rfl)) (pa_cons (pv 1) pa_nil)))))))), ?_⟩
    refine ⟨⟨_, rfl⟩, _, rfl, pl, rfl, ⟨_, SqL.of hp⟩, fun D nD => lc_list (K := K) (a := pl) (xs := xs) (fun k H' => Same H H' ∧ ∃ zs : List Str, H' D = some (.lst (zs.map V.str)) ∧ zs.length ≤ k ∧ zs.flatMap cs = NP.V ys (ps.take k)) ⟨same_new nD, [], upd_same, Nat.le_refl _, rfl⟩ (fun k H' _ p => SqL.of (p.1 _ _ hp)) ?_ ?_⟩
    · rintro k y H' hk2 ⟨sm, zs, hD, lzs, hzs⟩
      obtain ⟨p, ep, ⟨t, f1, rfl, htp, hf⟩⟩ := (hP.keep sm).get hk2
      have pk := hk p (List.mem_of_getElem? ep)
      obtain ⟨t0, t1⟩ := ht p (List.mem_of_getElem? ep)
      have lk : k < ps.length := (List.getElem?_eq_some_iff.mp ep).1
      refine ⟨rfl, ?_⟩
      refine ⟨_, rfl, t, _, _, _, rfl, rfl, SqT.of htp, pc0 p f1, _, rfl, t, _, _, _, rfl, rfl, SqT.of htp, pc1 p f1, _, rfl, f1, bp, p.2.1, p.2.2, ys, rfl, hf, sm _ _ hb, by rw [pk.m, ly], by rw [pk.m]; omega, fun x hx => Sz.le (pk.x x hx) (by decide), fun y hy => Sz.le (sy y hy) (by decide), fun H3 s3 => ⟨p.1, tms p ys, rfl, rfl, ?_, _, s3 _ _ hD, ?_, fun b o e => ?_, zs ++ [Txt.mul p.1 (tms p ys)], ?_, ?_, ?_⟩⟩
      · by_cases c : cs p.1 = []
        · rw [cs_nil c]
          exact mulOk0 t0 t1
        · refine mulOk t0 c ?_
          have := Nat.mul_le_mul pk.l (show (tms p ys).toNat ≤ 1000 by omega)
          omega
      · rw [List.length_map]
        exact small1000 (by omega)
      · rw [upd_ne (ne_of_none (H := H) e nD)]
        exact s3 _ _ (sm _ _ e)
      · rw [upd_same, List.map_append]
        rfl
      · rw [List.length_append, List.length_singleton]
        omega
      · rw [List.flatMap_append, hzs, V_take ys k ps ep, List.flatMap_cons, List.flatMap_nil, List.append_nil, cs_mul _ t0]
    · rintro H3 ⟨s3, zs, hD, lzs, hzs⟩
      rw [lx, List.take_length] at hzs
      have lv := V_len (b := 10) (c := 1000) ys (fun p hp => (hk p hp).l) (fun p hp => (ht p hp).2)
      have lv2 : 10 * 1000 * ps.length ≤ 10 * 1000 * 8 := Nat.mul_le_mul_left _ l8
      refine ⟨_, D, zs, rfl, rfl, .inl (SqL.of hD), ?_, q H3 _ s3 ((join0 zs).trans hzs)⟩
      rw [sum_len, hzs, show ("" : Str).length = 0 by decide +kernel, Nat.mul_zero]
      omega
end
end K5
set_option Elab.async false
set_option linter.all false
set_option maxRecDepth 100000
set_option maxHeartbeats 4000000
namespace K5
open PySem PySem.Spec PyProof.Rows L2 XV NP
/-! ### the law's led -/
abbrev nLLed : List Str := ["_law_pieces_here", "_law_many", "_law_forms", "_law_found", "_law_word_here", "_law_form", "_law_numbers", "_law_place", "_law_at"]
theorem scLLed : FnScope nLLed ["_law_pieces_here", "_law_many", "_law_forms"] (defScope sLLed) := ⟨rfl, rfl, rfl, by decide +kernel, rfl, by decide +kernel, by decide +kernel⟩
def zs (xs : List Int) (fl : List (List Int)) (j i : Nat) : Int := xs.getD i 0 * (fl.getD i []).getD j 0
def dz (xs : List Int) (fl : List (List Int)) (j : Nat) : Int := (List.zipWith (fun x n => n.getD j 0 * x) xs fl).sum
theorem zs_zip {xs : List Int} {fl : List (List Int)} (h : xs.length = fl.length) (j : Nat) : (List.range fl.length).map (zs xs fl j) = List.zipWith (fun x n => n.getD j 0 * x) xs fl := by
  apply List.ext_getElem?
  intro i
  rw [List.getElem?_map, List.getElem?_zipWith]
  by_cases c : i < fl.length
  · have c2 : i < xs.length := by omega
    rw [List.getElem?_range c, List.getElem?_eq_getElem c, List.getElem?_eq_getElem c2]
    show some (zs xs fl j i) = some (fl[i].getD j 0 * xs[i])
    unfold zs
    rw [List.getD_eq_getElem?_getD, List.getElem?_eq_getElem c2, List.getD_eq_getElem?_getD (l := fl), List.getElem?_eq_getElem c]
    exact congrArg some (Int.mul_comm _ _)
  · rw [List.getElem?_eq_none (by rw [List.length_range]; omega), List.getElem?_eq_none (l := fl) (by omega)]
    cases xs[i]? <;> rfl
theorem dz_sum {xs : List Int} {fl : List (List Int)} (h : xs.length = fl.length) (j : Nat) : ((List.range fl.length).map (zs xs fl j)).sum = dz xs fl j := by
  rw [zs_zip h]
  rfl
theorem range_snoc {α : Type} (f : Nat → α) (i : Nat) : (List.range (i + 1)).map f = (List.range i).map f ++ [f i] := by
  rw [List.range_succ, List.map_append]
  rfl
def spLLed : Sp := fun vs H Q _ => ∃ (m m0 kb : Nat) (pl la : Addr) (ps : List Pc) (fs : List (Addr × List Int)), vs = [.ref pl, .int m, .ref la] ∧ m ≤ 3 ∧ m0 ≤ 3 ∧ PL H pl ps ∧ Pq m0 kb ps ∧ Fs H la m fs ∧ fs.length = m0 ∧
  ∀ (H' : Hp) (l : Addr), Same H H' → H l = none → PL H' l (ps.map (led m (fls fs))) → Q (.ref l) H'
section
variable {P : Program} {w : World} {K : PySem.W.Frag} {mg : Str → Option Value} {base : Heap} {f : Addr} {fd : FuncData} {C : Addr}
theorem ok_lled (F : FnP K "_law_led" sLLed f fd) (z_sum : mg "sum" = none) (z_len : mg "len" = none) (z_range : mg "range" = none) (z_tuple : mg "tuple" = none) : FnOk P w K mg base CX0 1 f fd ["_law_pieces_here", "_law_many", "_law_forms"] spLLed := by
  have nd := scLLed.nd
  refine F.ok scLLed (fun vs H Q E h => ?_) (fun cdv A outer s H vs Q E hr h => ?_)
  · obtain ⟨m, m0, kb, pl, la, ps, fs, rfl, _⟩ := h
    rfl
  · obtain ⟨m, m0, kb, pl, la, ps, fs, rfl, hm, hm0, ⟨xs, hp, hP⟩, hq, hF, lf, q⟩ := h
    have lx := hP.len
    have l90 := hq.l
    have hkk := hq.kk
    have szl := sizeLine_eq
    refine ⟨_, PSs.nox (pss_cons (ps_set (i := 3) nd rfl (Or.inl rfl) (pe_lst pa_nil))
      (pss_cons (ps_for PassesOwn.never rfl (pi_list (pv 0)) (pg_tup rfl (pgs_cons (pg_name (i := 4) nd rfl (Or.inl rfl)) (pgs_cons (pg_name (i := 5) nd rfl (Or.inr rfl)) pgs_nil)))
        (pss_cons (ps_set (i := 6) nd rfl (Or.inl rfl) (pe_lst (pa_cons (pe_op op_add (pe_ix ix_tup (pv 5) pe_int (fun _ _ => rfl)) (pe_callB (cr_sum rfl) (by rfl) z_sum (by decide +kernel) (pa_cons
            (pe_lc (own := [("_law_at", 8)]) (g := gName 8) (by rfl) nd (pi_range1 (by rfl) z_range (pa_cons (pe_callB call_len (by rfl) z_len boot_len (pa_cons (pv 2) pa_nil)) pa_nil)) (blkOk_by (N := nLLed) (sc := defScope sLLed) (own := [("_law_at", 8)]) (by decide +kernel)) (fun _ _ _ _ _ => pg_name (i := 8) nd rfl (Or.inl rfl)) (fun _ _ _ _ _ => pts_nil)
              (fun _ _ _ _ _ => pe_op op_mulW (pe_ix (ix_tupK (K := K) rfl) (pv 5) (pe_op op_add (pv 8) pe_int) (fun _ _ => rfl)) (pe_ix (ix_tupK (K := K) rfl) (pe_ix (ix_listK (K := K) rfl) (pv 2) (pv 8) (fun _ _ => rfl)) pe_int (fun _ _ => rfl)))) pa_nil))) pa_nil)))
        (C8.pss_cut (ps_for PassesOwn.never rfl (pi_range1 (by rfl) z_range (pa_cons (pv 1) pa_nil)) (pg_name (i := 7) nd rfl (Or.inr rfl))
          (pss_one (ps_expr (pe_bm PySem.F.plainAttrs_list PySem.F.slot_list_append PySem.F.type_list_append mt_append (pv 6) (pa_cons (pe_callB (cr_sum rfl) (by rfl) z_sum (by decide +kernel) (pa_cons
            (pe_lc (own := [("_law_at", 8)]) (g := gName 8) (by rfl) nd (pi_range1 (by rfl) z_range (pa_cons (pe_callB call_len (by rfl) z_len boot_len (pa_cons (pv 2) pa_nil)) pa_nil)) (blkOk_by (N := nLLed) (sc := defScope sLLed) (own := [("_law_at", 8)]) (by decide +kernel)) (fun _ _ _ _ _ => pg_name (i := 8) nd rfl (Or.inl rfl)) (fun _ _ _ _ _ => pts_nil)
              (fun _ _ _ _ _ => pe_op op_mulW (pe_ix (ix_tupK (K := K) rfl) (pv 5) (pe_op op_add (pv 8) pe_int) (fun _ _ => rfl)) (pe_ix (ix_tupK (K := K) rfl) (pe_ix (ix_listK (K := K) rfl) (pv 2) (pv 8) (fun _ _ => rfl)) (pe_op op_add (pv 7) pe_int) (fun _ _ => rfl)))) pa_nil)) pa_nil)))))
        (pss_one (ps_expr (pe_bm PySem.F.plainAttrs_list PySem.F.slot_list_append PySem.F.type_list_append mt_append (pv 3) (pa_cons (pe_tup (pa_cons (pv 4) (pa_cons (pe_callTy call_tuple_of (by rfl) z_tuple (by decide +kernel) (pa_cons (pv 6) pa_nil)) pa_nil))) pa_nil)))))))
      (pss_one (ps_ret (pv 3))))), ?_⟩
    refine ⟨(by show 0 ≤ sizeLine; decide), fun D nD => ?_⟩
    have s1 := same_new (o := .lst []) nD
    -- what the inner sums are made of
    have parts : ∀ {p : Pc} {f1 : Addr} {H' : Hp} {i j : Nat}, p ∈ ps → i < m0 → j < m + 1 → Same H H' → H' f1 = some (.tup ((fm p).map V.int)) → ∃ fa n, fs[i]? = some (fa, n) ∧ atI ((fm p).map V.int) ((i : Int) + 1) = some (V.int (p.2.2.getD i 0)) ∧ atI (fs.map fun p => V.ref p.1) (i : Int) = some (V.ref fa) ∧ H' fa = some (.tup (n.map V.int)) ∧
        atI (n.map V.int) (j : Int) = some (V.int (n.getD j 0)) ∧ p.2.2.getD i 0 * n.getD j 0 = zs p.2.2 (fls fs) j i ∧ CMulW (p.2.2.getD i 0) (n.getD j 0) := fun {p f1 H' i j} hp1 hi hj sm hf1 => by
      have pz := hq.z p hp1
      have ei : fs[i]? = some fs[i] := List.getElem?_eq_getElem (by omega)
      obtain ⟨h1, h2, h3⟩ := hF.2 fs[i] (List.mem_of_getElem? ei)
      refine ⟨fs[i].1, fs[i].2, ei, ?_, ?_, sm _ _ h1, at_ints (by omega), ?_, ?_⟩
      · have e : ((i : Int) + 1) = ((i + 1 : Nat) : Int) := by omega
        rw [e, at_ints (l := fm p) (j := i + 1) (by show i + 1 < p.2.2.length + 1; rw [pz.l]; omega)]
        rfl
      · exact atI_nat (by rw [List.getElem?_map, ei]; rfl)
      · unfold zs fls
        rw [List.getD_eq_getElem?_getD (l := fs.map _), List.getElem?_map, ei]
        rfl
      · have a : Sz 600 (p.2.2.getD i 0) := by
          rw [List.getD_eq_getElem?_getD]
          cases e : p.2.2[i]? with
          | none => exact Sz.zero _
          | some x => exact Sz.le (pz.x x (List.mem_of_getElem? e)) hkk
        have b : Sz 1000 (fs[i].2.getD j 0) := by
          rw [List.getD_eq_getElem?_getD]
          cases e : fs[i].2[j]? with
          | none => exact Sz.zero _
          | some x => exact h3 x (List.mem_of_getElem? e)
        exact a.mulW b (by decide)
    have lfl : (fls fs).length = m0 := by
      unfold fls
      rw [List.length_map, lf]
    refine ⟨_, rfl, pl, rfl, ⟨_, SqL.of (s1 _ _ hp)⟩, for_list (K := K) (a := pl) (xs := xs) (fun k σ H' => (∃ x4 x5 x6 x7 : Option L2.V, σ = [some (.ref pl), some (.int m), some (.ref la), some (.ref D), x4, x5, x6, x7, none]) ∧ Same H H' ∧ ∃ acc, H' D = some (.lst acc) ∧ Pcs H' acc ((ps.take k).map (led m (fls fs)))) ⟨⟨_, _, _, _, rfl⟩, s1, [], upd_same, .nil⟩ (fun k σ H' _ z => SqL.of (z.2.1 _ _ hp)) ?_ ?_⟩
    · rintro k y σ H1 hk ⟨⟨x4, x5, x6, x7, rfl⟩, sm1, acc, hD, hA⟩
      obtain ⟨p, ep, ⟨t, f1, rfl, ht, hf1⟩⟩ := hP.get hk
      have hp1 := List.mem_of_getElem? ep
      have pz := hq.z p hp1
      have lk : k < ps.length := (List.getElem?_eq_some_iff.mp ep).1
      have lacc := hA.len
      rw [List.length_map, List.length_take] at lacc
      have at0 : atI ((fm p).map V.int) ((0 : Nat) : Int) = some (V.int p.2.1) := atI_nat rfl
      refine ⟨t, _, rfl, SqT.of (sm1 _ _ ht), rfl, _, _, rfl, _, _, rfl, rfl, ?_⟩
      refine ⟨_, rfl, f1, _, _, _, rfl, rfl, SqT.of (sm1 _ _ hf1), at0, ?_⟩
      have eN : ((((fs.map fun p => V.ref p.1).length : Nat) : Int)).toNat = m0 := by
        rw [List.length_map]
        omega
      refine ⟨_, rfl, _, _, rfl, .inl ⟨_, SqL.of (sm1 _ _ hF.1), rfl⟩, _, rfl, by omega, by rw [List.length_map]; omega, fun L1 nL1 => ?_⟩
      rw [eN]
      refine lc_range (lo := 0) (n := m0) (fun i H' => Same H1 H' ∧ H' L1 = some (.lst (((List.range i).map (zs p.2.2 (fls fs) 0)).map V.int))) ⟨same_new nL1, upd_same⟩ ?_ ?_
      · rintro i H' hi ⟨sm, hL⟩
        rw [Int.zero_add]
        obtain ⟨fa, n, ei, e1, e2, e3, e4, e5, e6⟩ := parts (j := 0) hp1 hi (by omega) (sm1.trans sm) (sm _ _ (sm1 _ _ hf1))
        refine ⟨rfl, ?_⟩
        refine ⟨_, rfl, _, rfl, _, _, rfl, rfl, f1, _, _, _, rfl, rfl, SqT.of (sm _ _ (sm1 _ _ hf1)), e1, ?_⟩
        refine ⟨_, rfl, _, rfl, la, _, _, _, rfl, rfl, SqL.of (sm _ _ (sm1 _ _ hF.1)), e2, fa, _, _, _, rfl, rfl, SqT.of e3, e4, _, _, rfl, rfl, e6, _, hL, ?_, fun b o e => ?_, ?_⟩
        · rw [List.length_map, List.length_map, List.length_range]
          exact small1000 (by omega)
        · rw [upd_ne (ne_of_none (H := H1) e nL1)]
          exact sm _ _ e
        · rw [upd_same, range_snoc, List.map_append, ← e5]
          rfl
      rintro H2 ⟨sm2, hL1⟩
      refine ⟨L1, _, rfl, SqL.of hL1, ?_⟩
      have ez : ∀ j, ((List.range m0).map (zs p.2.2 (fls fs) j)).sum = dz p.2.2 (fls fs) j := fun j => by
        have := dz_sum (xs := p.2.2) (fl := fls fs) (by rw [pz.l, lfl]) j
        rw [lfl] at this
        exact this
      rw [ez]
      refine ⟨_, _, rfl, rfl, (by show 1 ≤ sizeLine; omega), fun L6 nL6 => ?_⟩
      have s3 := same_new (o := .lst [.int (p.2.1 + dz p.2.2 (fls fs) 0)]) nL6
      have h6 : (upd H2 L6 (.lst [.int (p.2.1 + dz p.2.2 (fls fs) 0)])) L6 = some (.lst [.int (p.2.1 + dz p.2.2 (fls fs) 0)]) := upd_same
      have hD2 := sm2 _ _ hD
      have DL6 : D ≠ L6 := ne_of_none hD2 nL6
      have S3 : Same H1 (upd H2 L6 (.lst [.int (p.2.1 + dz p.2.2 (fls fs) 0)])) := sm2.trans s3
      generalize upd H2 L6 (.lst [.int (p.2.1 + dz p.2.2 (fls fs) 0)]) = H3 at *
      have n6 : H1 L6 = none := Same.none sm2 nL6
      refine ⟨fun σ' H' => (∃ x7 : Option L2.V, σ' = [some (.ref pl), some (.int m), some (.ref la), some (.ref D), some (.str p.1), some (.ref f1), some (.ref L6), x7, none]) ∧ Same H1 H' ∧ H' L6 = some (.lst ((fm (led m (fls fs) p)).map V.int)), ?_, ?_⟩
      · have eM : ((m : Nat) : Int).toNat = m := by omega
        refine ⟨_, rfl, (m : Int), rfl, by omega, by omega, ?_⟩
        rw [eM]
        refine for_range (lo := 0) (n := m) (fun i σ' H' => (∃ x7 : Option L2.V, σ' = [some (.ref pl), some (.int m), some (.ref la), some (.ref D), some (.str p.1), some (.ref f1), some (.ref L6), x7, none]) ∧ Same H1 H' ∧ H' L6 = some (.lst (((List.range (i + 1)).map (withV p.2.1 p.2.2 (fls fs))).map V.int))) ⟨⟨_, rfl⟩, S3, ?_⟩ ?_ ?_
        · rw [h6]
          have : withV p.2.1 p.2.2 (fls fs) 0 = p.2.1 + dz p.2.2 (fls fs) 0 := rfl
          rw [← this]
          rfl
        · rintro i σ H4 hi ⟨⟨x7, rfl⟩, sm4, hL6⟩
          rw [Int.zero_add]
          refine ⟨_, rfl, .inl ⟨rfl, _, SqL.of hL6⟩, _, rfl, _, _, rfl, .inl ⟨_, SqL.of (sm4 _ _ (sm1 _ _ hF.1)), rfl⟩, _, rfl, by omega, by rw [List.length_map]; omega, fun L2a nL2 => ?_⟩
          rw [eN]
          refine lc_range (lo := 0) (n := m0) (fun j H' => Same H4 H' ∧ H' L2a = some (.lst (((List.range j).map (zs p.2.2 (fls fs) (i + 1))).map V.int))) ⟨same_new nL2, upd_same⟩ ?_ ?_
          · rintro j H' hj ⟨sm, hL⟩
            rw [Int.zero_add]
            have smA := (sm1.trans sm4).trans sm
            have hf2 := sm _ _ (sm4 _ _ (sm1 _ _ hf1))
            obtain ⟨fa, n, ei, e1, e2, e3, e4, e5, e6⟩ := parts (j := i + 1) hp1 hj (by omega) smA hf2
            have e4 : atI (n.map V.int) ((i : Int) + 1) = some (V.int (n.getD (i + 1) 0)) := by
              rw [show ((i : Int) + 1) = ((i + 1 : Nat) : Int) by omega]
              exact e4
            refine ⟨rfl, ?_⟩
            refine ⟨_, rfl, _, rfl, _, _, rfl, rfl, f1, _, _, _, rfl, rfl, SqT.of hf2, e1, ?_⟩
            refine ⟨_, rfl, _, rfl, la, _, _, _, rfl, rfl, SqL.of (smA _ _ hF.1), e2, _, rfl, _, _, rfl, rfl, fa, _, _, _, rfl, rfl, SqT.of e3, e4, _, _, rfl, rfl, e6, _, hL, ?_, fun b o e => ?_, ?_⟩
            · rw [List.length_map, List.length_map, List.length_range]
              exact small1000 (by omega)
            · rw [upd_ne (ne_of_none (H := H4) e nL2)]
              exact sm _ _ e
            · rw [upd_same, range_snoc, List.map_append, ← e5]
              rfl
          · rintro H5 ⟨sm5, hL2⟩
            refine ⟨L2a, _, rfl, SqL.of hL2, ?_⟩
            rw [ez]
            refine ⟨L6, _, _, rfl, rfl, sm5 _ _ hL6, ?_, ⟨_, rfl⟩, fun b o e => ?_, ?_⟩
            · rw [List.length_map, List.length_map, List.length_range]
              exact small1000 (by omega)
            · rw [upd_ne (ne_of_none (H := H1) e n6)]
              exact sm5 _ _ (sm4 _ _ e)
            · rw [upd_same, range_snoc (withV p.2.1 p.2.2 (fls fs)) (i + 1), List.map_append]
              have : withV p.2.1 p.2.2 (fls fs) (i + 1) = dz p.2.2 (fls fs) (i + 1) := by
                unfold withV dz
                rw [if_neg (Nat.succ_ne_zero i), Int.zero_add]
              rw [this]
              rfl
        · rintro σ H4 ⟨h7, sm4, hL6⟩
          refine ⟨h7, sm4, ?_⟩
          rw [hL6, fm_led]
      rintro σ' H4 ⟨⟨x7', rfl⟩, sm4, hL6⟩
      have lfm : (fm (led m (fls fs) p)).length = m + 1 := by
        rw [fm_led, List.length_map, List.length_range]
      refine ⟨_, rfl, .inl ⟨rfl, _, SqL.of (sm4 _ _ hD)⟩, _, rfl, _, rfl, L6, _, rfl, .inl ⟨SqL.of hL6, fun t6 nt6 => ⟨(by show 2 ≤ sizeLine; omega), fun u nu => ?_⟩⟩⟩
      have s5 := same_new (o := .tup ((fm (led m (fls fs) p)).map V.int)) nt6
      have s6 := same_new (o := .tup [.str p.1, .ref t6]) nu
      have S := (sm4.trans s5).trans s6
      have hDu := S _ _ hD
      refine ⟨D, _, _, rfl, rfl, hDu, small1000 (by omega), ⟨_, _, _, _, rfl⟩, fun b o e => ?_, acc ++ [.ref u], upd_same, ?_⟩
      · rw [upd_ne (ne_of_none (H := H) e nD)]
        exact S _ _ (sm1 _ _ e)
      · rw [List.take_add_one, ep, List.map_append]
        exact Pcs.updL hDu (Pcs.snoc (m := led m (fls fs) p) ⟨u, t6, rfl, upd_same, s6 _ _ upd_same⟩ (hA.keep S))
    · rintro σ H1 ⟨⟨x4, x5, x6, x7, rfl⟩, sm1, acc, hD, hA⟩
      rw [lx, List.take_length] at hA
      exact ⟨_, rfl, q H1 D sm1 nD ⟨acc, hD, hA⟩⟩
end
end K5
set_option Elab.async false
set_option linter.all false
set_option maxRecDepth 100000
set_option maxHeartbeats 4000000
/-! The measure of a normal list is not above that of the list; its powers have no constant. No program. -/
namespace N5
open NP
section
variable {α : Type} [DecidableEq α]
/-- the letters of an item -/
def ml : It α (List Int) → Nat
  | .fix w => w.length
  | .pow r _ => r.length
def mls (d : List (It α (List Int))) : Nat := (d.map ml).sum
theorem mls_app (a b : List (It α (List Int))) : mls (a ++ b) = mls a + mls b := by
  unfold mls
  rw [List.map_append, List.sum_append_nat]
theorem mls_addF (d : List (It α (List Int))) (w : List α) : mls (addF d w) = mls d + w.length := by
  unfold addF
  by_cases c : w = []
  · rw [if_pos c, c]
    rfl
  · rw [if_neg c, mls_app]
    rfl
theorem mls_addP (d : List (It α (List Int))) (r : List α) (xs : List Int) : mls (addP plus d r xs) ≤ mls d + r.length := by
  rcases addP_or plus d r xs with e | ⟨d0, u, e1, e2⟩
  · rw [e, mls_app]
    exact Nat.le_refl _
  · rw [e2, e1, mls_app, mls_app]
    exact Nat.le_add_right _ _
theorem mls_step (st : List (It α (List Int)) × List α) (x : It α (List Int)) : mls (step plus st x).1 + (step plus st x).2.length ≤ mls st.1 + st.2.length + ml x := by
  cases x with
  | fix w =>
    show mls st.1 + (st.2 ++ w).length ≤ mls st.1 + st.2.length + w.length
    rw [List.length_append]
    omega
  | pow r v =>
    show mls (addP plus (addF st.1 (st.2.take (st.2.length - cend st.2 r))) (tn r (cend st.2 r)) v) + (st.2.drop (st.2.length - cend st.2 r)).length ≤ mls st.1 + st.2.length + r.length
    have a := mls_addP (addF st.1 (st.2.take (st.2.length - cend st.2 r))) (tn r (cend st.2 r)) v
    rw [mls_addF, tn_len] at a
    have b : (st.2.take (st.2.length - cend st.2 r)).length + (st.2.drop (st.2.length - cend st.2 r)).length = st.2.length := by
      rw [← List.length_append, List.take_append_drop]
    omega
theorem mls_P : ∀ (b : List (It α (List Int))) (st : List (It α (List Int)) × List α), mls (P plus b st).1 + (P plus b st).2.length ≤ mls st.1 + st.2.length + mls b
  | [], st => Nat.le_refl _
  | x :: b, st => by
    have a := mls_step st x
    have c := mls_P b (step plus st x)
    have e : mls (x :: b) = ml x + mls b := by
      unfold mls
      rw [List.map_cons, List.sum_cons]
    have e2 : P plus (x :: b) st = P plus b (step plus st x) := rfl
    rw [e2, e]
    omega
theorem mls_norm (b : List (It α (List Int))) : mls (norm plus b) ≤ mls b := by
  unfold norm
  rw [mls_addF]
  have := mls_P b (([] : List (It α (List Int))), ([] : List α))
  exact Nat.le_trans this (by
    show 0 + 0 + mls b ≤ mls b
    omega)
def mea (p : Pi α) : Int := (p.1.length : Int) * (p.2.1 + if plainB p.2.2 = true then 0 else 1)
def meas (ps : List (Pi α)) : Int := (ps.map mea).sum
theorem mls_items {m : Nat} {p : Pi α} (h : Ok m p) : (mls (items p) : Int) ≤ mea p := by
  have c0 := h.c
  have l0 : (0 : Int) ≤ (p.1.length : Int) := by omega
  unfold items
  by_cases c1 : p.1 = [] ∨ (p.2.1 = 0 ∧ plainB p.2.2 = true)
  · rw [if_pos c1]
    show (0 : Int) ≤ _
    unfold mea
    refine Int.mul_nonneg l0 ?_
    split <;> omega
  · rw [if_neg c1]
    by_cases c2 : plainB p.2.2 = true
    · rw [if_pos c2]
      unfold mea
      rw [if_pos c2]
      show (((pw p.1 p.2.1.toNat).length + 0 : Nat) : Int) ≤ _
      rw [pw_len, Nat.add_zero, Int.natCast_mul, Int.toNat_of_nonneg c0, Int.add_zero, Int.mul_comm]
      exact Int.le_refl _
    · rw [if_neg c2]
      have hw : p.1 ≠ [] := fun e => c1 (Or.inl e)
      have tp := times_pos hw
      obtain ⟨_, e2⟩ := rootOf_prim hw
      have el : p.1.length = times p.1 * (rootOf p.1).length := by
        have := congrArg List.length e2
        rw [pw_len] at this
        exact this
      unfold mea
      rw [if_neg c2]
      show (((rootOf p.1).length + ((pw (rootOf p.1) (p.2.1 * (times p.1 : Int)).toNat).length + 0) : Nat) : Int) ≤ _
      have nn : 0 ≤ p.2.1 * (times p.1 : Int) := Int.mul_nonneg c0 (by omega)
      have e3 : ((((rootOf p.1).length + ((pw (rootOf p.1) (p.2.1 * (times p.1 : Int)).toNat).length + 0) : Nat)) : Int) = ((rootOf p.1).length : Int) + (p.1.length : Int) * p.2.1 := by
        rw [pw_len, Nat.add_zero, Int.natCast_add, Int.natCast_mul, Int.toNat_of_nonneg nn]
        have : (p.1.length : Int) = (times p.1 : Int) * ((rootOf p.1).length : Int) := by rw [← Int.natCast_mul, ← el]
        rw [this, Int.mul_comm p.2.1, Int.mul_assoc, Int.mul_assoc, Int.mul_comm p.2.1]
      have e4 : (rootOf p.1).length ≤ p.1.length := by
        have := Nat.mul_le_mul_right (rootOf p.1).length tp
        omega
      rw [e3, Int.mul_add, Int.mul_one]
      omega
theorem mls_flat {m : Nat} : ∀ {ps : List (Pi α)}, (∀ p ∈ ps, Ok m p) → (mls (ps.flatMap items) : Int) ≤ meas ps
  | [], _ => by
    show ((0 : Nat) : Int) ≤ 0
    omega
  | p :: ps, h => by
    have a := mls_items (h p List.mem_cons_self)
    have b := mls_flat fun q hq => h q (List.mem_cons_of_mem _ hq)
    have e : meas (p :: ps) = mea p + meas ps := by
      unfold meas
      rw [List.map_cons, List.sum_cons]
    rw [List.flatMap_cons, mls_app, e, Int.natCast_add]
    omega
theorem plain_zeros (m : Nat) : plainB (List.replicate m (0 : Int)) = true := (plain_iff _).mpr fun x hx => (List.mem_replicate.mp hx).2
theorem mea_back {m : Nat} {i : It α (List Int)} (h : Good m i) : mea (back m i) = (ml i : Int) := by
  cases i with
  | fix w =>
    show ((w.length : Nat) : Int) * (1 + if plainB (List.replicate m 0) = true then 0 else 1) = _
    rw [if_pos (plain_zeros m), Int.add_zero, Int.mul_one]
    rfl
  | pow r xs =>
    show ((r.length : Nat) : Int) * (0 + if plainB xs = true then 0 else 1) = _
    rw [if_neg (by rw [h.2.2.2]; decide), Int.zero_add, Int.mul_one]
    rfl
theorem meas_back {m : Nat} : ∀ {l : List (It α (List Int))}, (∀ i ∈ l, Good m i) → meas (l.map (back m)) = (mls l : Int)
  | [], _ => rfl
  | x :: l, h => by
    have a := mea_back (h x List.mem_cons_self)
    have b := meas_back fun i hi => h i (List.mem_cons_of_mem _ hi)
    have e : meas ((x :: l).map (back m)) = mea (back m x) + meas (l.map (back m)) := by
      unfold meas
      rw [List.map_cons, List.map_cons, List.sum_cons]
    have e2 : mls (x :: l) = ml x + mls l := by
      unfold mls
      rw [List.map_cons, List.sum_cons]
    rw [e, a, b, e2, Int.natCast_add]
theorem meas_nrmC {m : Nat} {ps : List (Pi α)} (h : ∀ p ∈ ps, Ok m p) : meas (nrmC m ps) ≤ meas ps := by
  rw [nrmC_eq h]
  unfold nrm
  rw [meas_back (norm_good h)]
  have := mls_norm (ps.flatMap items)
  have := mls_flat h
  omega
/-- powers have no constant -/
theorem nrmC_zero {m : Nat} {ps : List (Pi α)} (h : ∀ p ∈ ps, Ok m p) : ∀ p ∈ nrmC m ps, plainB p.2.2 = false → p.2.1 = 0 := by
  rw [nrmC_eq h]
  intro p hp c
  obtain ⟨i, hi, rfl⟩ := List.mem_map.mp hp
  cases i with
  | fix w =>
    have : plainB (List.replicate m (0 : Int)) = false := c
    rw [plain_zeros] at this
    cases this
  | pow r xs => rfl
end
end N5
set_option Elab.async false
set_option linter.all false
set_option maxRecDepth 100000
set_option maxHeartbeats 8000000
namespace K5
open PySem PySem.Spec PyProof.Rows L2 XV NP
/-! ### a text that is seen to be right: the sums -/
def one (m : Nat) : List Int := List.replicate m 1
theorem dot_one : ∀ (xs : List Int), NP.dot xs (one xs.length) = xs.sum
  | [] => rfl
  | x :: xs => by
    have ih := dot_one xs
    have e : NP.dot (x :: xs) (one (x :: xs).length) = x * 1 + NP.dot xs (one xs.length) := rfl
    rw [e, ih, List.sum_cons, Int.mul_one]
theorem tms_one {m : Nat} {p : Pc} (h : p.2.2.length = m) : tms p (one m) = (fm p).sum := by
  unfold tms
  rw [← h, dot_one]
  rfl
theorem sum_addL {α : Type} (f g : α → Int) : ∀ L : List α, (L.map fun j => f j + g j).sum = (L.map f).sum + (L.map g).sum
  | [] => rfl
  | x :: L => by
    rw [List.map_cons, List.map_cons, List.map_cons, List.sum_cons, List.sum_cons, List.sum_cons, sum_addL f g L]
    omega
theorem sum_mulL {α : Type} (c : Int) (f : α → Int) : ∀ L : List α, (L.map fun j => c * f j).sum = c * (L.map f).sum
  | [] => by simp
  | x :: L => by
    rw [List.map_cons, List.map_cons, List.sum_cons, List.sum_cons, sum_mulL c f L, Int.mul_add]
theorem range_getD {m : Nat} {xs : List Int} (h : xs.length = m) : ((List.range m).map fun j => xs.getD j 0) = xs := by
  apply List.ext_getElem (by simp [h])
  intro i h1 h2
  rw [List.getElem_map, List.getElem_range, List.getD_eq_getElem?_getD, List.getElem?_eq_getElem h2]
  rfl
theorem fj_range {m : Nat} {p : Pc} (h : p.2.2.length = m) : (List.range (m + 1)).map (fj p) = fm p := by
  have e := range_getD (m := m + 1) (xs := fm p) (by show p.2.2.length + 1 = m + 1; rw [h])
  have e2 : (fun j => (fm p).getD j 0) = fj p := funext fun j => by cases j <;> rfl
  rw [e2] at e
  exact e
theorem lin_one_sum {m : Nat} : ∀ {ps : List Pc}, (∀ p ∈ ps, p.2.2.length = m) → ((List.range (m + 1)).map fun j => lin tt j ps).sum = lenR (ps.map (rn (one m)))
  | [], _ => by
    show ((List.range (m + 1)).map fun j => (0 : Int)).sum = 0
    have : ∀ L : List Nat, (L.map fun _ => (0 : Int)).sum = 0 := fun L => by
      induction L with
      | nil => rfl
      | cons x L ih => rw [List.map_cons, List.sum_cons, ih]; rfl
    exact this _
  | p :: ps, h => by
    have ih := lin_one_sum fun q hq => h q (List.mem_cons_of_mem _ hq)
    have hp := h p List.mem_cons_self
    have e : (fun j => lin tt j (p :: ps)) = fun j => NP.cn tt p.1 * fj p j + lin tt j ps := funext fun j => by
      unfold lin
      rw [List.map_cons, List.sum_cons]
    have e2 : lenR ((p :: ps).map (rn (one m))) = (p.1.length : Int) * tms p (one m) + lenR (ps.map (rn (one m))) := by
      unfold lenR
      rw [List.map_cons, List.map_cons, List.sum_cons]
      rfl
    rw [e, sum_addL, sum_mulL, ih, e2, tms_one hp, fj_range hp, cn_tt, cs_len]
theorem one_flat (m : Nat) : (List.replicate m [V.int 1]).flatten = (one m).map V.int := by
  unfold one
  induction m with
  | zero => rfl
  | succ m ih =>
    rw [List.replicate_succ, List.flatten_cons, ih, List.replicate_succ, List.map_cons]
    rfl
theorem one_sz (m : Nat) : ∀ y ∈ one m, Sz 400 y := fun y hy => by
  rw [(List.mem_replicate.mp hy).2]
  exact ⟨by decide, by decide +kernel⟩
/-- the greatest of numbers and 0 -/
def mp (xs : List Int) : Int := match xs ++ [0] with
  | n :: ns => ns.foldl max n
  | [] => 0
theorem mp_le (xs : List Int) (b : Int) : mp xs ≤ b ↔ (∀ x ∈ xs, x ≤ b) ∧ 0 ≤ b := by
  unfold mp
  cases xs with
  | nil =>
    show (0 : Int) ≤ b ↔ _
    simp
  | cons x xs =>
    show (xs ++ [0]).foldl max x ≤ b ↔ _
    rw [foldl_max_le]
    simp only [List.mem_cons, List.mem_append, List.not_mem_nil, or_false, forall_eq_or_imp]
    constructor
    · rintro ⟨h1, h2⟩
      exact ⟨⟨h1, fun y hy => h2 y (.inl hy)⟩, h2 0 (.inr rfl)⟩
    · rintro ⟨⟨h1, h2⟩, h3⟩
      refine ⟨h1, fun y hy => ?_⟩
      rcases hy with hy | rfl
      · exact h2 y hy
      · exact h3
theorem mp_cons (xs : List Int) : ∃ n ns, xs ++ [0] = n :: ns ∧ mp xs = ns.foldl max n := by
  cases xs with
  | nil => exact ⟨0, [], rfl, rfl⟩
  | cons x xs => exact ⟨x, xs ++ [0], rfl, rfl⟩
/-- the greatest number of all, as the law counts it -/
def gr (ps : List Pc) : Int := (ps.map fun p => mp p.2.2).foldl max 0
theorem gr_le (ps : List Pc) (b : Int) : gr ps ≤ b ↔ 0 ≤ b ∧ ∀ p ∈ ps, ∀ x ∈ p.2.2, x ≤ b := by
  unfold gr
  rw [foldl_max_le]
  constructor
  · rintro ⟨h0, h⟩
    exact ⟨h0, fun p hp => ((mp_le p.2.2 b).mp (h _ (List.mem_map_of_mem hp))).1⟩
  · rintro ⟨h0, h⟩
    refine ⟨h0, fun y hy => ?_⟩
    obtain ⟨p, hp, rfl⟩ := List.mem_map.mp hy
    exact (mp_le p.2.2 b).mpr ⟨h p hp, h0⟩
theorem mxD_le {l : List Int} (nn : ∀ x ∈ l, 0 ≤ x) (b : Int) : mxD l 0 ≤ b ↔ 0 ≤ b ∧ ∀ x ∈ l, x ≤ b := by
  cases l with
  | nil => simp [mxD]
  | cons n ns =>
    show ns.foldl max n ≤ b ↔ _
    rw [foldl_max_le]
    have h0 := nn n List.mem_cons_self
    simp only [List.mem_cons, forall_eq_or_imp]
    exact ⟨fun ⟨h1, h2⟩ => ⟨by omega, h1, h2⟩, fun ⟨_, h1, h2⟩ => ⟨h1, h2⟩⟩
theorem powP_in {ps : List Pc} {p : Pc} : p ∈ powP ps ↔ p ∈ ps ∧ ¬ ∀ x ∈ p.2.2, x = 0 := by
  unfold powP
  rw [List.mem_filter]
  simp
theorem gm_gr {m k : Nat} {ps : List Pc} (hz : ∀ p ∈ ps, Pz m k p) (h0 : ∀ p ∈ ps, (¬ ∀ x ∈ p.2.2, x = 0) → p.2.1 = 0) : gm ps = gr ps := by
  have nn : ∀ x ∈ (powP ps).flatMap fm, 0 ≤ x := fun x hx => by
    obtain ⟨p, hp, hx⟩ := List.mem_flatMap.mp hx
    have pz := hz p (powP_mem hp)
    rcases List.mem_cons.mp hx with rfl | hx
    · exact pz.c.1
    · exact (pz.x x hx).1
  have key : ∀ b, gm ps ≤ b ↔ gr ps ≤ b := fun b => by
    unfold gm
    rw [mxD_le nn, gr_le]
    constructor
    · rintro ⟨b0, h⟩
      refine ⟨b0, fun p hp x hx => ?_⟩
      by_cases c : ∀ x ∈ p.2.2, x = 0
      · rw [c x hx]
        exact b0
      · exact h x (List.mem_flatMap.mpr ⟨p, powP_in.mpr ⟨hp, c⟩, List.mem_cons_of_mem _ hx⟩)
    · rintro ⟨b0, h⟩
      refine ⟨b0, fun x hx => ?_⟩
      obtain ⟨p, hp, hx⟩ := List.mem_flatMap.mp hx
      obtain ⟨h1, h2⟩ := powP_in.mp hp
      rcases List.mem_cons.mp hx with rfl | hx
      · rw [h0 p h1 h2]
        exact b0
      · exact h p h1 x hx
  have a := (key (gm ps)).mp (Int.le_refl _)
  have b := (key (gr ps)).mpr (Int.le_refl _)
  omega
/-- unknowns, as the law finds them -/
theorem unk_any {m k : Nat} {ps : List Pc} (hz : ∀ p ∈ ps, Pz m k p) (j : Nat) : unkB ps j = ps.any fun p => decide (fj p (j + 1) > 0) := by
  unfold unkB
  apply Bool.eq_iff_iff.mpr
  rw [List.any_eq_true, List.any_eq_true]
  constructor
  · rintro ⟨p, hp, h⟩
    have h := of_decide_eq_true h
    have h1 := powP_mem hp
    refine ⟨p, h1, decide_eq_true ?_⟩
    have : 0 ≤ fj p (j + 1) := getD_nn (fun x hx => ((hz p h1).x x hx).1) j
    omega
  · rintro ⟨p, hp, h⟩
    have h := of_decide_eq_true h
    refine ⟨p, powP_in.mpr ⟨hp, fun z => ?_⟩, decide_eq_true (by omega)⟩
    have : fj p (j + 1) = 0 := by
      show p.2.2.getD j 0 = 0
      rw [List.getD_eq_getElem?_getD]
      cases e : p.2.2[j]? with
      | none => rfl
      | some x => exact z x (List.mem_of_getElem? e)
    omega
theorem lin_take (k : Nat → Bool) (j i : Nat) (ps : List Pc) {p : Pc} (e : ps[i]? = some p) : ((ps.take (i + 1)).map fun p => NP.cn k p.1 * fj p j) = ((ps.take i).map fun p => NP.cn k p.1 * fj p j) ++ [NP.cn k p.1 * fj p j] := by
  rw [List.take_add_one, e, List.map_append]
  rfl
theorem Pz.at {m k : Nat} {p : Pc} (h : Pz m k p) {j : Nat} (hj : j < m + 1) : atI ((fm p).map V.int) (j : Int) = some (.int (fj p j)) := by
  have e : (fm p).getD j 0 = fj p j := by cases j <;> rfl
  have := at_ints (l := fm p) (j := j) (by show j < p.2.2.length + 1; rw [h.l]; exact hj)
  rw [e] at this
  exact this
theorem Pz.fj {m k : Nat} {p : Pc} (h : Pz m k p) (j : Nat) : Sz k (fj p j) := by
  cases j with
  | zero => exact h.c
  | succ j =>
    show Sz k (p.2.2.getD j 0)
    rw [List.getD_eq_getElem?_getD]
    cases e : p.2.2[j]? with
    | none => exact Sz.zero _
    | some x => exact h.x x (List.mem_of_getElem? e)
theorem cn_sz {p : Pc} (l : (cs p.1).length ≤ 2000) (k : Nat → Bool) : Sz 12 (NP.cn k p.1) := by
  have a := List.countP_le_length (p := k) (l := cs p.1)
  refine ⟨by unfold NP.cn; omega, ?_⟩
  unfold NP.cn
  exact Int.lt_of_le_of_lt (b := 2000) (by omega) (by decide +kernel)
theorem depI_sh (l : List Int) : SeqAt.shaped (.tuple (l.map PyData.int)) = true := by simp [SeqAt.shaped, PyData.canLay0, lay_ints, PyData.depth, depth_ints]
theorem lst_sh (l : List Int) : SeqAt.shaped (.list (l.map PyData.int)) = true := by simp [SeqAt.shaped, PyData.canLay0, lay_ints, PyData.depth, depth_ints]
theorem eqv_tt {d : PyData} (h : SeqAt.shaped d = true) : PyData.eqv d d = true := SeqAt.eqv_refl _ (SeqAt.canLay_of_shaped h)
end K5
set_option Elab.async false
set_option linter.all false
set_option maxRecDepth 100000
set_option maxHeartbeats 16000000
namespace K5
open PySem PySem.Spec PyProof.Rows L2 XV NP
/-! ### a text that is seen to be right -/
abbrev sSeen : Stmt := top 78
abbrev nSeen : List Str := ["_law_text", "_law_due", "_law_many", "_law_point", "_law_whole", "_law_some", "_law_greatest", "_law_word_here", "_law_piece_here", "_law_at"]
theorem scSeen : FnScope nSeen ["_law_text", "_law_due"] (defScope sSeen) := ⟨rfl, rfl, rfl, by decide +kernel, rfl, by decide +kernel, by decide +kernel⟩
abbrev scS1 : Scope := { kind := .function, names := [(Str.ofString ".0", .local), (Str.ofString "_law_at", .cell), (Str.ofString "sum", .globalImplicit), (Str.ofString "_law_due", .cell)], isGenerator := false, isCoroutine := false }
abbrev scS2 : Scope := { kind := .function, names := [(Str.ofString ".0", .local), (Str.ofString "_law_piece_here", .local), (Str.ofString "len", .globalImplicit), (Str.ofString "_law_at", .free)], isGenerator := false, isCoroutine := false }
abbrev scS4 : Scope := { kind := .function, names := [(Str.ofString ".0", .local), (Str.ofString "_law_piece_here", .local), (Str.ofString "_law_at", .free)], isGenerator := false, isCoroutine := false }
abbrev scS5 : Scope := { kind := .function, names := [(Str.ofString ".0", .local), (Str.ofString "_law_at", .cell), (Str.ofString "_law_due", .cell)], isGenerator := false, isCoroutine := false }
theorem blk_s1 : BlkOk nSeen scS1 scS2 [("_law_piece_here", 8)] := blkOk_by (by decide +kernel)
theorem blk_s2 : BlkOk nSeen scS1 scS4 [("_law_piece_here", 8)] := blkOk_by (by decide +kernel)
theorem blk_s3 : BlkOk nSeen scS5 scS4 [("_law_piece_here", 8)] := blkOk_by (by decide +kernel)
structure Ne (m : Nat) (done : List Pc) : Prop where
  m3 : m ≤ 3
  d : Dn m 800 done
  l : done.length ≤ 90
  z : ∀ p ∈ done, (¬ ∀ x ∈ p.2.2, x = 0) → p.2.1 = 0
def spSeen (C : Addr) : Sp := fun vs H Q _ => ∃ (x l : Addr) (m : Nat) (done : List Pc), vs = [.ref x, .ref l] ∧ Tx C H x m done ∧ PL H l done ∧ Ne m done ∧ ∀ H', Same H H' → Q (.bl true) H'
section
variable {P : Program} {w : World} {K : PySem.W.Frag} {mg : Str → Option Value} {base : Heap} {f : Addr} {fd : FuncData} {C : Addr}
theorem ok_seen (F : FnP K "_law_seen_good" sSeen f fd) (T : TT K mg C) (o_many : OkMt P w K mg base C "many" (spManyT C)) (o_pieces : OkMt P w K mg base C "pieces" (spPiecesT C)) (o_size : Ok P w K mg base "size" 4 ["text"] (cm (spSize K C))) (o_len : Ok P w K mg base "length" 4 ["text"] (cm (spLength K C)))
    (o_lets : Ok P w K mg base "letters" 4 ["text", "letter"] (cm (spLettersT K C))) (o_spread : Ok P w K mg base "spread" 4 ["text"] (cm (spSpread K C))) (o_unk : Ok P w K mg base "unknowns" 4 ["text"] (cm (spUnk K C))) (o_wr : Ok P w K mg base "written" 5 ["text", "point"] (cm (spWritten K C))) (o_tl : Ok P w K mg base "text_letter" 5 ["text", "point", "at"] (cm (spTLetter K C)))
    (z_sum : mg "sum" = none) (z_len : mg "len" = none) (z_range : mg "range" = none) (z_tuple : mg "tuple" = none) (z_max : mg "max" = none) : FnOk P w K mg base CX0 6 f fd ["_law_text", "_law_due"] (spSeen C) := by
  have nd := scSeen.nd
  refine F.ok scSeen (fun vs H Q E h => ?_) (fun cdv A outer s H vs Q E hr h => ?_)
  · obtain ⟨x, l, m, done, rfl, _⟩ := h
    rfl
  · obtain ⟨x, l, m, done, rfl, hx, ⟨xs, hp, hP⟩, ne, q⟩ := h
    have lx := hP.len
    have m3 := ne.m3
    have dn := ne.d
    have l90 := ne.l
    have szl := sizeLine_eq
    have hu := hr.units
    have hu2 : (A.deeper (envOfC "_law_seen_good" (defScope sSeen) s.heap.objs.size f cdv)).units + 1 < cLine := by omega
    have hu66 : (A.deeper (envOfC "_law_seen_good" (defScope sSeen) s.heap.objs.size f cdv)).units + 66 < cLine := by
      have := hr.un
      omega
    have r5 : Room 5 (A.deeper (envOfC "_law_seen_good" (defScope sSeen) s.heap.objs.size f cdv)) := hr
    have r4 := r5.mono (by decide : 4 ≤ 5)
    have r1 := r5.mono (by decide : 1 ≤ 5)
    refine ⟨_, PSs.nox (pss_cons (ps_par (i := 2) (j := 3) rfl nd rfl rfl (by decide) rfl rfl (pa_cons (pe_manyT o_many T (pv 0) r1) (pa_cons (pe_op op_rep (pe_lst (pa_cons pe_int pa_nil)) (pe_manyT o_many T (pv 0) r1)) pa_nil)) (by rfl))
      (pss_cons (ps_if (PW.pt (pw_or (pt_cmpR (op_neD hu) (pe_piecesT o_pieces T (pv 0) r1) (pv 1) (nomark _)) (pw_or1 (pt_cmpR op_ne (pe_callO o_size r4 (by rfl) (pa_cons (pv 0) pa_nil)) (pe_callB (cr_sum rfl) (by rfl) z_sum (by decide +kernel) (pa_cons
          (pe_lc (own := [("_law_piece_here", 8)]) (g := gName 8) (by rfl) nd (pi_list (pv 1)) (blkOk_by (N := nSeen) (sc := defScope sSeen) (own := [("_law_piece_here", 8)]) (by decide +kernel)) (fun _ _ _ _ _ => pg_name (i := 8) nd rfl (Or.inl rfl)) (fun _ _ _ _ _ => pts_nil)
            (fun _ _ _ _ _ => pe_callB call_len_str (by rfl) z_len boot_len (pa_cons (pe_ix (ix_tupK (K := K) rfl) (pv 8) pe_int (fun _ _ => rfl)) pa_nil))) pa_nil)) (nomark _))))) (pss_one (ps_ret pe_bl)) pss_nil)
      (pss_cons (ps_set (i := 4) nd rfl (Or.inl rfl) (pe_callTy call_tuple_of (by rfl) z_tuple (by decide +kernel) (pa_cons (pe_lc (own := [("_law_at", 9)]) (g := gName 9) (by rfl) nd (pi_range1 (by rfl) z_range (pa_cons (pe_op op_add (pv 2) pe_int) pa_nil)) (blkOk_by (N := nSeen) (sc := defScope sSeen) (own := [("_law_at", 9)]) (by decide +kernel)) (fun _ _ _ _ _ => pg_name (i := 9) nd rfl (Or.inr rfl)) (fun _ _ _ _ _ => pts_nil)
        (fun _ _ _ _ _ => pe_callB (cr_sumK (K := K) rfl rfl) (by rfl) z_sum (by decide +kernel) (pa_cons (pe_lc (own := [("_law_piece_here", 8)]) (g := gName 8) (by rfl) nd (pi_listK (K := K) rfl (pv 1)) blk_s1 (fun _ _ _ _ _ => pg_name (i := 8) nd rfl (Or.inl rfl)) (fun _ _ _ _ _ => pts_nil)
          (fun _ _ _ _ _ => pe_op op_mulW (pe_callB call_len_str (by rfl) z_len boot_len (pa_cons (pe_ix (ix_tupK (K := K) rfl) (pv 8) pe_int (fun _ _ => rfl)) pa_nil)) (pe_ix (ix_tupK (K := K) rfl) (pe_ix (ix_tupK (K := K) rfl) (pv 8) pe_int (fun _ _ => rfl)) (pv 9) (fun _ _ => rfl)))) pa_nil))) pa_nil)))
      (pss_cons (ps_set (i := 5) nd rfl (Or.inl rfl) (pe_callTy call_tuple_of (by rfl) z_tuple (by decide +kernel) (pa_cons (pe_lc (own := [("_law_at", 9)]) (g := gName 9) (by rfl) nd (pi_range1 (by rfl) z_range (pa_cons (pe_op op_add (pv 2) pe_int) pa_nil)) (blkOk_by (N := nSeen) (sc := defScope sSeen) (own := [("_law_at", 9)]) (by decide +kernel)) (fun _ _ _ _ _ => pg_name (i := 9) nd rfl (Or.inr rfl)) (fun _ _ _ _ _ => pts_nil)
        (fun _ _ _ _ _ => pe_callB (cr_sumK (K := K) rfl rfl) (by rfl) z_sum (by decide +kernel) (pa_cons (pe_lc (own := [("_law_piece_here", 8)]) (g := gName 8) (by rfl) nd (pi_listK (K := K) rfl (pv 1)) blk_s2 (fun _ _ _ _ _ => pg_name (i := 8) nd rfl (Or.inl rfl)) (fun _ _ _ _ _ => pts_nil)
          (fun _ _ _ _ _ => pe_op op_mulW (pe_m1 PySem.F.slot_str_count PySem.F.type_str_count mt_count (pe_ix (ix_tupK (K := K) rfl) (pv 8) pe_int (fun _ _ => rfl)) pe_str) (pe_ix (ix_tupK (K := K) rfl) (pe_ix (ix_tupK (K := K) rfl) (pv 8) pe_int (fun _ _ => rfl)) (pv 9) (fun _ _ => rfl)))) pa_nil))) pa_nil)))
      (pss_cons (ps_set (i := 6) nd rfl (Or.inl rfl) (pe_callB (cr_maxLK (K := K) rfl rfl hu2) (by rfl) z_max (by decide +kernel) (pa_cons (pe_op op_cat (pe_lst (pa_cons pe_int pa_nil))
        (pe_lc (own := [("_law_piece_here", 8)]) (g := gName 8) (by rfl) nd (pi_list (pv 1)) (blkOk_by (N := nSeen) (sc := defScope sSeen) (own := [("_law_piece_here", 8)]) (by decide +kernel)) (fun _ _ _ _ _ => pg_name (i := 8) nd rfl (Or.inl rfl)) (fun _ _ _ _ _ => pts_nil)
          (fun _ _ _ _ _ => pe_callB (cr_maxTK (K := K) rfl rfl hu2) (by rfl) z_max (by decide +kernel) (pa_cons (pe_op op_catS (pe_slice sl_tupS (pe_ix (ix_tupK (K := K) rfl) (pv 8) pe_int (fun _ _ => rfl)) (po_some pe_int) po_none) (pe_tup (pa_cons pe_int pa_nil))) pa_nil)))) pa_nil)))
      (pss_cons (ps_if (PW.pt (pw_or (pt_cmpR (op_neD hu) (pe_callO o_len r4 (by rfl) (pa_cons (pv 0) pa_nil)) (pv 4) (nomark _)) (pw_or (pt_cmpR (op_neD hu) (pe_callO o_lets r4 (by rfl) (pa_cons (pv 0) (pa_cons pe_str pa_nil))) (pv 5) (nomark _)) (pw_or1 (pt_cmpR op_ne (pe_callO o_spread r4 (by rfl) (pa_cons (pv 0) pa_nil)) (pe_op op_add (pv 6) pe_int) (nomark _)))))) (pss_one (ps_ret pe_bl)) pss_nil)
      (pss_cons (ps_if (pt_cmpR (op_neD hu) (pe_callO o_unk r4 (by rfl) (pa_cons (pv 0) pa_nil))
        (pe_lc (own := [("_law_at", 9)]) (g := gName 9) (by rfl) nd (pi_range1 (by rfl) z_range (pa_cons (pv 2) pa_nil)) (blkOk_by (N := nSeen) (sc := defScope sSeen) (own := [("_law_at", 9)]) (by decide +kernel)) (fun _ _ _ _ _ => pg_name (i := 9) nd rfl (Or.inr rfl))
          (fun _ _ _ _ _ => pts_one (pt_cmpR (op_neE hu66) (pe_lc (own := [("_law_piece_here", 8)]) (g := gName 8) (by rfl) nd (pi_listK (K := K) rfl (pv 1)) blk_s3 (fun _ _ _ _ _ => pg_name (i := 8) nd rfl (Or.inl rfl))
            (fun _ _ _ _ _ => pts_one (pt_cmpR op_gt (pe_ix (ix_tupK (K := K) rfl) (pe_ix (ix_tupK (K := K) rfl) (pv 8) pe_int (fun _ _ => rfl)) (pe_op op_add (pv 9) pe_int) (fun _ _ => rfl)) pe_int (nomark _))) (fun _ _ _ _ _ => pv 8)) (pe_lst pa_nil) (nomark _)))
          (fun _ _ _ _ _ => pv 9)) (nomark _)) (pss_one (ps_ret pe_bl)) pss_nil)
      (pss_cons (ps_if (pt_cmpR op_gt (pe_callB (cr_sumTK (K := K) rfl rfl) (by rfl) z_sum (by decide +kernel) (pa_cons (pv 4) pa_nil)) pe_int (nomark _)) (pss_one (ps_ret pe_bl)) pss_nil)
      (pss_cons (ps_set (i := 7) nd rfl (Or.inl rfl) (pe_join pe_str (pe_lc (own := [("_law_piece_here", 8)]) (g := gName 8) (by rfl) nd (pi_list (pv 1)) (blkOk_by (N := nSeen) (sc := defScope sSeen) (own := [("_law_piece_here", 8)]) (by decide +kernel)) (fun _ _ _ _ _ => pg_name (i := 8) nd rfl (Or.inl rfl)) (fun _ _ _ _ _ => pts_nil)
        (fun _ _ _ _ _ => pe_op op_mulS (pe_ix (ix_tupK (K := K) rfl) (pv 8) pe_int (fun _ _ => rfl)) (pe_callB (cr_sumTK (K := K) rfl rfl) (by rfl) z_sum (by decide +kernel) (pa_cons (pe_ix (ix_tupK (K := K) rfl) (pv 8) pe_int (fun _ _ => rfl)) pa_nil))))))
      (pss_one (ps_ret (pe_and (pe_cmpR op_eq (pe_callO o_wr r5 (by rfl) (pa_cons (pv 0) (pa_cons (pv 3) pa_nil))) (pv 7) (nomark _)) (pe_one (pe_or (pe_cmpR op_eq (pv 7) pe_str (nomark _))
        (pe_one (pe_cmpR op_eq (pe_callO o_tl r5 (by rfl) (pa_cons (pv 0) (pa_cons (pv 3) (pa_cons (pe_op op_sub (pe_callB call_len_str (by rfl) z_len boot_len (pa_cons (pv 7) pa_nil)) pe_int) pa_nil)))) (pe_ix ix_str (pv 7) (pe_un un_neg pe_int) (fun _ _ => rfl)) (nomark _))))))))))))))))), ?_⟩
    have ab : ∀ p ∈ done, AB p.1 := fun p hp => (dn.w p hp).1
    have eN : ((m : Int) + 1).toNat = m + 1 := by omega
    -- the number of unknowns, the point
    refine ⟨_, rfl, x, m, done, rfl, hx, (by show 1 ≤ sizeLine; omega), fun i0 ni0 => ⟨_, rfl, x, m, done, rfl, hx.keep (same_new ni0), i0, (m : Int), _, rfl, rfl, upd_same, by omega, by omega, (by show 1 * m ≤ sizeLine; omega), fun bp nbp => ⟨_, _, rfl, ?_⟩⟩⟩
    have s1 : Same H (upd (upd H i0 (.lst [.int 1])) bp (.lst (List.replicate ((m : Nat) : Int).toNat [V.int 1]).flatten)) := (same_new (o := .lst [.int 1]) ni0).trans (same_new nbp)
    have hb : (upd (upd H i0 (.lst [.int 1])) bp (.lst (List.replicate ((m : Nat) : Int).toNat [V.int 1]).flatten)) bp = some (.lst ((one m).map V.int)) := by
      rw [upd_same]
      exact congrArg (fun z => some (HO.lst z)) (one_flat m)
    generalize upd (upd H i0 (.lst [.int 1])) bp (.lst (List.replicate ((m : Nat) : Int).toNat [V.int 1]).flatten) = H1 at *
    -- the pieces, the size
    have hx1 := hx.keep s1
    refine ⟨_, rfl, x, m, done, rfl, hx1, fun H2 p2 s2 np2 hp2 => ?_⟩
    have S2 := s1.trans s2
    refine ⟨_, rfl, psD done, psD done, pl_dp hp2, pl_dp ⟨xs, S2 _ _ hp, hP.keep S2⟩, ps_shaped ab, ps_shaped ab, ?_⟩
    rw [ps_eqv ab]
    refine ⟨false, rfl, iteF ?_⟩
    refine ⟨_, rfl, .ref x, rfl, .inr ⟨x, m, done, rfl, hx.keep S2, dn, l90, fun H3 s3 => ?_⟩⟩
    have S3 := S2.trans s3
    have hp3 := S3 _ _ hp
    have hP3 := hP.keep S3
    refine ⟨_, rfl, l, rfl, ⟨_, SqL.of hp3⟩, fun D nD => lc_list (K := K) (a := l) (xs := xs) (fun k H' => Same H3 H' ∧ H' D = some (.lst (((done.take k).map fun p => ((cs p.1).length : Int)).map V.int))) ⟨same_new nD, upd_same⟩ (fun k H' _ p => SqL.of (p.1 _ _ hp3)) ?_ ?_⟩
    · rintro k y H' hk ⟨sm, hD⟩
      obtain ⟨p, ep, ⟨t, f1, rfl, ht, hf⟩⟩ := (hP3.keep sm).get hk
      have lk : k < done.length := (List.getElem?_eq_some_iff.mp ep).1
      have lw := (dn.w p (List.mem_of_getElem? ep)).2
      have lz := cs_len p.1
      refine ⟨rfl, ?_⟩
      refine ⟨_, rfl, t, _, _, _, rfl, rfl, SqT.of ht, pc0 p f1, p.1, rfl, by omega, _, hD, ?_, fun b o e => ?_, ?_⟩
      · rw [List.length_map, List.length_map]
        exact small1000 (Nat.le_trans (List.length_take_le _ _) (by omega))
      · rw [upd_ne (ne_of_none (H := H3) e nD)]
        exact sm _ _ e
      · rw [upd_same, List.take_add_one, ep, List.map_append, List.map_append, lz]
        rfl
    rintro H4 ⟨s4, hD4⟩
    rw [lx, List.take_length] at hD4
    refine ⟨D, _, rfl, SqL.of hD4, ?_⟩
    refine ⟨rfl, false, (by show V.bl (!decide (V.int (sizeP done) = V.int (sizeP done))) = V.bl false; rw [decide_eq_true rfl]; rfl), iteF ?_⟩
    have S4 := S3.trans s4
    have b4 := s4 _ _ (s3 _ _ (s2 _ _ hb))
    clear hp2 hD4 nD np2 hp3 hP3
    have hx4 := hx.keep S4
    clear hx1
    -- the whole
    have hp4 := S4 _ _ hp
    have hP4 := hP.keep S4
    refine ⟨_, rfl, _, _, rfl, rfl, (m : Int) + 1, rfl, by omega, by omega, fun D nD => ?_⟩
    rw [eN]
    refine lc_range (lo := 0) (n := m + 1) (fun k H' => Same H4 H' ∧ H' D = some (.lst (((List.range k).map fun j => lin tt j done).map V.int))) ⟨same_new nD, upd_same⟩ ?_ ?_
    · rintro j H' hj ⟨sm, hD⟩
      rw [Int.zero_add]
      refine ⟨rfl, ?_⟩
      refine ⟨_, rfl, l, rfl, ⟨_, SqL.of (sm _ _ hp4)⟩, fun D2 nD2 => lc_list (K := K) (a := l) (xs := xs) (fun k H2 => Same H' H2 ∧ H2 D2 = some (.lst (((done.take k).map fun p => NP.cn tt p.1 * fj p j).map V.int))) ⟨same_new nD2, upd_same⟩ (fun k H2 _ p => SqL.of (p.1 _ _ (sm _ _ hp4))) ?_ ?_⟩
      · rintro k y H2 hk2 ⟨s2, hD2⟩
        obtain ⟨p, ep, ⟨t, f1, rfl, ht, hf⟩⟩ := ((hP4.keep sm).keep s2).get hk2
        have pz := dn.z p (List.mem_of_getElem? ep)
        have lw := (dn.w p (List.mem_of_getElem? ep)).2
        have lk : k < done.length := (List.getElem?_eq_some_iff.mp ep).1
        have lz := cs_len p.1
        have e0 : ((p.1.length : Nat) : Int) = NP.cn tt p.1 := by rw [cn_tt, lz]
        refine ⟨rfl, ?_⟩
        refine ⟨_, rfl, t, _, _, _, rfl, rfl, SqT.of ht, pc0 p f1, p.1, rfl, by omega, _, rfl, t, _, _, _, rfl, rfl, SqT.of ht, pc1 p f1, _, rfl, f1, _, _, _, rfl, rfl, SqT.of hf, pz.at hj, _, _, rfl, rfl, (by rw [e0]; exact (cn_sz lw tt).mulW (pz.fj j) (by decide)), _, hD2, ?_, fun b o e => ?_, ?_⟩
        · rw [List.length_map, List.length_map]
          exact small1000 (Nat.le_trans (List.length_take_le _ _) (by omega))
        · rw [upd_ne (ne_of_none (H := H') e nD2)]
          exact s2 _ _ e
        · rw [upd_same, lin_take tt j k done ep, List.map_append, ← e0]
          rfl
      · rintro H2 ⟨s2, hD2⟩
        rw [lx, List.take_length] at hD2
        refine ⟨D2, _, rfl, SqL.of hD2, _, s2 _ _ hD, ?_, fun b o e => ?_, ?_⟩
        · rw [List.length_map, List.length_map, List.length_range]
          exact small1000 (by omega)
        · rw [upd_ne (ne_of_none (H := H4) e nD)]
          exact s2 _ _ (sm _ _ e)
        · rw [upd_same, List.range_succ, List.map_append, List.map_append]
          rfl
    rintro H5 ⟨s5, hD5⟩
    refine ⟨D, _, rfl, .inl ⟨SqL.of hD5, fun lw nlw => ?_⟩⟩
    have s56 := s5.trans (same_new (o := .tup (((List.range (m + 1)).map fun j => lin tt j done).map V.int)) nlw)
    have hw6 : (upd H5 lw (.tup (((List.range (m + 1)).map fun j => lin tt j done).map V.int))) lw = some (.tup (((List.range (m + 1)).map fun j => lin tt j done).map V.int)) := upd_same
    generalize upd H5 lw (.tup (((List.range (m + 1)).map fun j => lin tt j done).map V.int)) = H6 at *
    have S6 := S4.trans s56
    have b6 := s56 _ _ b4
    clear hD5 nD s5 nlw
    -- the letters
    have hp6 := S6 _ _ hp
    have hP6 := hP.keep S6
    refine ⟨_, rfl, _, _, rfl, rfl, (m : Int) + 1, rfl, by omega, by omega, fun D nD => ?_⟩
    rw [eN]
    refine lc_range (lo := 0) (n := m + 1) (fun k H' => Same H6 H' ∧ H' D = some (.lst (((List.range k).map fun j => lin (fun x => decide (x = 97)) j done).map V.int))) ⟨same_new nD, upd_same⟩ ?_ ?_
    · rintro j H' hj ⟨sm, hD⟩
      rw [Int.zero_add]
      refine ⟨rfl, ?_⟩
      refine ⟨_, rfl, l, rfl, ⟨_, SqL.of (sm _ _ hp6)⟩, fun D2 nD2 => lc_list (K := K) (a := l) (xs := xs) (fun k H2 => Same H' H2 ∧ H2 D2 = some (.lst (((done.take k).map fun p => NP.cn (fun x => decide (x = 97)) p.1 * fj p j).map V.int))) ⟨same_new nD2, upd_same⟩ (fun k H2 _ p => SqL.of (p.1 _ _ (sm _ _ hp6))) ?_ ?_⟩
      · rintro k y H2 hk2 ⟨s2, hD2⟩
        obtain ⟨p, ep, ⟨t, f1, rfl, ht, hf⟩⟩ := ((hP6.keep sm).keep s2).get hk2
        have pz := dn.z p (List.mem_of_getElem? ep)
        have lw := (dn.w p (List.mem_of_getElem? ep)).2
        have lk : k < done.length := (List.getElem?_eq_some_iff.mp ep).1
        have ea : ("a" : Str) = ⟨#[97]⟩ := by decide +kernel
        refine ⟨rfl, ?_⟩
        refine ⟨_, rfl, t, _, _, _, rfl, rfl, SqT.of ht, pc0 p f1, ⟨_, rfl⟩, p.1, _, rfl, rfl, _, rfl, t, _, _, _, rfl, rfl, SqT.of ht, pc1 p f1, _, rfl, f1, _, _, _, rfl, rfl, SqT.of hf, pz.at hj, _, _, rfl, rfl, (by rw [ea, count_one]; exact (cn_sz lw _).mulW (pz.fj j) (by decide)), _, hD2, ?_, fun b o e => ?_, ?_⟩
        · rw [List.length_map, List.length_map]
          exact small1000 (Nat.le_trans (List.length_take_le _ _) (by omega))
        · rw [upd_ne (ne_of_none (H := H') e nD2)]
          exact s2 _ _ e
        · rw [upd_same, lin_take _ j k done ep, List.map_append, ← count_one, ← ea]
          rfl
      · rintro H2 ⟨s2, hD2⟩
        rw [lx, List.take_length] at hD2
        refine ⟨D2, _, rfl, SqL.of hD2, _, s2 _ _ hD, ?_, fun b o e => ?_, ?_⟩
        · rw [List.length_map, List.length_map, List.length_range]
          exact small1000 (by omega)
        · rw [upd_ne (ne_of_none (H := H6) e nD)]
          exact s2 _ _ (sm _ _ e)
        · rw [upd_same, List.range_succ, List.map_append, List.map_append]
          rfl
    rintro H7 ⟨s7, hD7⟩
    refine ⟨D, _, rfl, .inl ⟨SqL.of hD7, fun ls nls => ?_⟩⟩
    have s78 := s7.trans (same_new (o := .tup (((List.range (m + 1)).map fun j => lin (fun x => decide (x = 97)) j done).map V.int)) nls)
    have hs8 : (upd H7 ls (.tup (((List.range (m + 1)).map fun j => lin (fun x => decide (x = 97)) j done).map V.int))) ls = some (.tup (((List.range (m + 1)).map fun j => lin (fun x => decide (x = 97)) j done).map V.int)) := upd_same
    generalize upd H7 ls (.tup (((List.range (m + 1)).map fun j => lin (fun x => decide (x = 97)) j done).map V.int)) = H8 at *
    have S8 := S6.trans s78
    have b8 := s78 _ _ b6
    have hw8 := s78 _ _ hw6
    clear hD7 nD s7 nls hw6
    -- the greatest number
    have hp8 := S8 _ _ hp
    have hP8 := hP.keep S8
    refine ⟨(by show 1 ≤ sizeLine; omega), fun z0 nz0 => ?_⟩
    have s9 := same_new (o := .lst [.int 0]) nz0
    have hz9 : (upd H8 z0 (.lst [.int 0])) z0 = some (.lst [.int 0]) := upd_same
    generalize upd H8 z0 (.lst [.int 0]) = H9 at *
    have S9 := S8.trans s9
    refine ⟨_, rfl, l, rfl, ⟨_, SqL.of (s9 _ _ hp8)⟩, fun D nD => lc_list (K := K) (a := l) (xs := xs) (fun k H' => Same H9 H' ∧ H' D = some (.lst (((done.take k).map fun p => mp p.2.2).map V.int))) ⟨same_new nD, upd_same⟩ (fun k H' _ p => SqL.of (p.1 _ _ (s9 _ _ hp8))) ?_ ?_⟩
    · rintro k y H' hk ⟨sm, hD⟩
      obtain ⟨p, ep, ⟨t, f1, rfl, ht, hf⟩⟩ := ((hP8.keep s9).keep sm).get hk
      have pz := dn.z p (List.mem_of_getElem? ep)
      have lk : k < done.length := (List.getElem?_eq_some_iff.mp ep).1
      refine ⟨rfl, ?_⟩
      refine ⟨_, rfl, t, _, _, _, rfl, rfl, SqT.of ht, pc1 p f1, _, rfl, f1, _, rfl, hf, fun Ha u sa hu => ?_⟩
      refine ⟨(by show 1 ≤ sizeLine; omega), fun v nv => ?_⟩
      have hu : Ha u = some (.tup (p.2.2.map V.int)) := hu.trans (congrArg (fun z => some (HO.tup z)) (cut_rest _ _))
      have sv := same_new (o := .tup [.int 0]) nv
      refine ⟨u, v, _, _, rfl, rfl, sv _ _ hu, upd_same, by rw [List.length_map, pz.l]; show m + 1 ≤ sizeLine; omega, fun Hb w2 sb hw2 => ?_⟩
      obtain ⟨n, ns, en, em⟩ := mp_cons p.2.2
      have hw2 : Hb w2 = some (.tup ((n :: ns).map V.int)) := hw2.trans (by rw [← en, List.map_append]; rfl)
      have S := (sa.trans sv).trans sb
      refine ⟨w2, n, ns, rfl, SqT.of hw2, _, S _ _ hD, ?_, fun b o e => ?_, ?_⟩
      · rw [List.length_map, List.length_map]
        exact small1000 (Nat.le_trans (List.length_take_le _ _) (by omega))
      · rw [upd_ne (ne_of_none (H := H9) e nD)]
        exact S _ _ (sm _ _ e)
      · rw [upd_same, List.take_add_one, ep, List.map_append, List.map_append, ← em]
        rfl
    rintro H10 ⟨s10, hD10⟩
    rw [lx, List.take_length] at hD10
    refine ⟨z0, D, _, _, rfl, rfl, s10 _ _ hz9, hD10, by rw [List.length_map, List.length_map]; show 1 + done.length ≤ sizeLine; omega, fun g ng => ?_⟩
    refine ⟨g, 0, done.map fun p => mp p.2.2, rfl, SqL.of upd_same, ?_⟩
    have s11 := s10.trans (same_new (o := .lst ([.int 0] ++ (done.map fun p => mp p.2.2).map V.int)) ng)
    generalize upd H10 g (.lst ([.int 0] ++ (done.map fun p => mp p.2.2).map V.int)) = H11 at *
    have S11 := S9.trans s11
    have b11 := s11 _ _ (s9 _ _ b8)
    have hw11 := s11 _ _ (s9 _ _ hw8)
    have hs11 := s11 _ _ (s9 _ _ hs8)
    clear hD10 nD hz9 hw8 hs8 hp8 hP8
    have hx11 := hx.keep S11
    -- the forms, the spread
    have shL : ∀ (r : Addr) (v : List Int) {Hc : Hp}, Hc r = some (.tup (v.map V.int)) → Dp K Hc (.ref r) (.tuple (v.map PyData.int)) := fun r v {Hc} e => .tup (SqT.of e) (dp_ints v)
    refine ⟨_, rfl, .ref x, rfl, .inr ⟨x, m, done, rfl, hx11, m3, dn, l90, fun H12 r s12 hr12 => ?_⟩⟩
    refine ⟨_, rfl, _, _, shL r _ hr12, shL lw _ (s12 _ _ hw11), depI_sh _, depI_sh _, ?_⟩
    rw [eqv_tt (depI_sh _)]
    refine ⟨false, rfl, iteF ?_⟩
    have la97 : letV (.str "a") = true := by decide +kernel
    have ea : ("a" : Str) = ⟨#[97]⟩ := by decide +kernel
    refine ⟨_, rfl, .ref x, .str "a", rfl, .inr ⟨x, m, done, rfl, hx11.keep s12, .str _, (fun z e => by cases e; decide +kernel), .inr ⟨97, la97, congrArg V.str ea, m3, dn, l90, fun H13 r2 s13 hr13 => ?_⟩⟩⟩
    refine ⟨_, rfl, _, _, shL r2 _ hr13, shL ls _ (s13 _ _ (s12 _ _ hs11)), depI_sh _, depI_sh _, ?_⟩
    rw [eqv_tt (depI_sh _)]
    refine ⟨false, rfl, iteF ?_⟩
    refine ⟨_, rfl, x, m, done, rfl, (hx11.keep s12).keep s13, m3, dn, l90, fun H14 s14 => ?_⟩
    have eg : gm done = gr done := gm_gr dn.z ne.z
    refine ⟨_, rfl, _, _, rfl, rfl, rfl, false, ?_, iteF ?_⟩
    · have : (1 + gm done) = (gr done + 1) := by rw [eg, Int.add_comm]
      show V.bl (!decide (V.int (1 + gm done) = V.int (gr done + 1))) = V.bl false
      rw [this, decide_eq_true rfl]
      rfl
    have S14 := ((S11.trans s12).trans s13).trans s14
    have b14 := s14 _ _ (s13 _ _ (s12 _ _ b11))
    have hw14 := s14 _ _ (s13 _ _ (s12 _ _ hw11))
    clear hr12 hr13 hs11 hw11 b11
    -- the unknowns
    refine ⟨_, rfl, x, m, done, rfl, hx.keep S14, m3, dn, l90, fun H15 u s15 hu15 => ?_⟩
    have S15 := S14.trans s15
    have b15 := s15 _ _ b14
    have hw15 := s15 _ _ hw14
    have hp15 := S15 _ _ hp
    have hP15 := hP.keep S15
    have eM : ((m : Nat) : Int).toNat = m := rfl
    refine ⟨_, rfl, (m : Int), rfl, by omega, by omega, fun D nD => ?_⟩
    rw [eM]
    refine lc_range (lo := 0) (n := m) (fun i H' => Same H15 H' ∧ H' D = some (.lst (((List.range i).filter (unkB done)).map fun (j : Nat) => V.int (j : Int)))) ⟨same_new nD, upd_same⟩ ?_ ?_
    · rintro i H' hi ⟨sm, hD⟩
      rw [Int.zero_add]
      refine ⟨rfl, ?_⟩
      refine ⟨_, rfl, l, rfl, ⟨_, SqL.of (sm _ _ hp15)⟩, fun D2 nD2 => lc_list (K := K) (a := l) (xs := xs) (fun k H2 => Same H' H2 ∧ ∃ acc : List L2.V, H2 D2 = some (.lst acc) ∧ acc.length ≤ k ∧ acc.isEmpty = !((done.take k).any fun p => decide (fj p (i + 1) > 0))) ⟨same_new nD2, [], upd_same, Nat.le_refl _, rfl⟩ (fun k H2 _ p => SqL.of (p.1 _ _ (sm _ _ hp15))) ?_ ?_⟩
      · rintro k y H2 hk2 ⟨s2, acc, hD2, lacc, hemp⟩
        obtain ⟨p, ep, ⟨t, f1, rfl, ht, hf⟩⟩ := ((hP15.keep sm).keep s2).get hk2
        have pz := dn.z p (List.mem_of_getElem? ep)
        have lk : k < done.length := (List.getElem?_eq_some_iff.mp ep).1
        have at1 : atI ((fm p).map V.int) ((i : Int) + 1) = some (V.int (fj p (i + 1))) := by
          rw [show ((i : Int) + 1) = ((i + 1 : Nat) : Int) by omega]
          exact pz.at (by omega)
        have eany : ((done.take (k + 1)).any fun p => decide (fj p (i + 1) > 0)) = (((done.take k).any fun p => decide (fj p (i + 1) > 0)) || decide (fj p (i + 1) > 0)) := by
          rw [List.take_add_one, ep, List.any_append]
          simp
        refine ⟨rfl, ?_⟩
        refine ⟨_, rfl, t, _, _, _, rfl, rfl, SqT.of ht, pc1 p f1, _, rfl, _, _, rfl, rfl, f1, _, _, _, rfl, rfl, SqT.of hf, at1, _, _, rfl, rfl, _, rfl, ite2 (fun c => ?_) (fun c => ?_)⟩
        · refine ⟨_, rfl, acc, hD2, small1000 (by omega), fun b o e => ?_, acc ++ [.ref t], upd_same, by rw [List.length_append, List.length_singleton]; omega, ?_⟩
          · rw [upd_ne (ne_of_none (H := H') e nD2)]
            exact s2 _ _ e
          · rw [eany, show decide (fj p (i + 1) > 0) = true from c, Bool.or_true]
            cases acc <;> rfl
        · refine ⟨s2, acc, hD2, by omega, ?_⟩
          rw [eany, show decide (fj p (i + 1) > 0) = false from by simpa using c, Bool.or_false]
          exact hemp
      · rintro H2 ⟨s2, acc, hD2, lacc, hemp⟩
        rw [lx, List.take_length] at hemp
        refine ⟨(by show 0 ≤ sizeLine; omega), fun e0 ne0 => ?_⟩
        have se := same_new (o := .lst []) ne0
        refine ⟨D2, e0, acc, rfl, rfl, se _ _ hD2, upd_same, ?_⟩
        have ee : (!acc.isEmpty) = unkB done i := by
          rw [hemp, Bool.not_not, unk_any dn.z]
        have S := (sm.trans s2).trans se
        have hDc := se _ _ (s2 _ _ hD)
        refine ⟨unkB done i, congrArg V.bl ee, ?_⟩
        cases e : unkB done i with
        | true =>
          refine iteT ⟨_, rfl, _, hDc, ?_, fun b o e => ?_, ?_⟩
          · rw [List.length_map]
            exact small1000 (Nat.le_trans (List.length_filter_le _ _) (by rw [List.length_range]; omega))
          · rw [upd_ne (ne_of_none (H := H15) e nD)]
            exact S _ _ e
          · rw [upd_same, List.range_succ, List.filter_append, List.map_append, List.filter_cons, e]
            rfl
        | false =>
          refine iteF ⟨S, ?_⟩
          rw [List.range_succ, List.filter_append, List.filter_cons, e]
          show (upd H2 e0 (.lst [])) D = some (.lst (((List.range i).filter (unkB done) ++ []).map _))
          rw [List.append_nil]
          exact hDc
    rintro H16 ⟨s16, hD16⟩
    have eI : ∀ L : List Nat, (L.map fun (j : Nat) => V.int (j : Int)) = (L.map fun (j : Nat) => (j : Int)).map V.int := fun L => by
      rw [List.map_map]
      rfl
    have hu16 := s16 _ _ hu15
    rw [eI] at hD16 hu16
    refine ⟨_, _, .lst (SqL.of hu16) (dp_ints _), .lst (SqL.of hD16) (dp_ints _), lst_sh _, lst_sh _, ?_⟩
    rw [show ((unk m done).map fun (j : Nat) => (j : Int)) = ((List.range m).filter (unkB done)).map fun (j : Nat) => (j : Int) from rfl, eqv_tt (lst_sh _)]
    refine ⟨false, rfl, iteF ?_⟩
    have S16 := S15.trans s16
    have b16 := s16 _ _ b15
    have hw16 := s16 _ _ hw15
    clear hu15 hu16 hD16 nD b14 b15 hw14 hw15 hp15 hP15
    -- the number of letters
    have nn : ∀ y ∈ one m, 0 ≤ y := fun y hy => (one_sz m y hy).1
    have eL : lenR (done.map (rn (one m))) = (((NP.V (one m) done).length : Nat) : Int) := lenR_V dn.z nn
    have eW : ((List.range (m + 1)).map fun j => lin tt j done).sum = (((NP.V (one m) done).length : Nat) : Int) := (lin_one_sum fun p hp => (dn.z p hp).l).trans eL
    refine ⟨_, rfl, lw, _, rfl, SqT.of hw16, ?_⟩
    rw [eW]
    refine ⟨_, _, rfl, rfl, _, rfl, ite2 (fun c => q H16 S16) (fun c => ?_)⟩
    have c : (NP.V (one m) done).length ≤ 20000 := by
      have : ¬ ((((NP.V (one m) done).length : Nat) : Int) > 20000) := fun z => c (decide_eq_true z)
      omega
    -- the word
    have hp16 := S16 _ _ hp
    have hP16 := hP.keep S16
    refine ⟨⟨_, rfl⟩, _, rfl, l, rfl, ⟨_, SqL.of hp16⟩, fun D nD => lc_list (K := K) (a := l) (xs := xs) (fun k H' => Same H16 H' ∧ ∃ zs : List Str, H' D = some (.lst (zs.map V.str)) ∧ zs.length ≤ k ∧ zs.flatMap cs = NP.V (one m) (done.take k)) ⟨same_new nD, [], upd_same, Nat.le_refl _, rfl⟩ (fun k H' _ p => SqL.of (p.1 _ _ hp16)) ?_ ?_⟩
    · rintro k y H' hk2 ⟨sm, zs, hD, lzs, hzs⟩
      obtain ⟨p, ep, ⟨t, f1, rfl, ht, hf⟩⟩ := (hP16.keep sm).get hk2
      have pz := dn.z p (List.mem_of_getElem? ep)
      have lk : k < done.length := (List.getElem?_eq_some_iff.mp ep).1
      have et : tms p (one m) = (fm p).sum := tms_one pz.l
      have t0 : 0 ≤ tms p (one m) := tms_nn pz nn
      have lm : (cs p.1).length * (tms p (one m)).toNat ≤ (NP.V (one m) done).length := by
        rw [← wr_rn, wr_len]
        refine lettersR_mem (r := (cs p.1, (tms p (one m)).toNat)) (List.mem_of_getElem? (i := k) ?_)
        unfold toR
        rw [List.map_map, List.getElem?_map, ep]
        rfl
      refine ⟨rfl, ?_⟩
      refine ⟨_, rfl, t, _, _, _, rfl, rfl, SqT.of ht, pc0 p f1, _, rfl, t, _, _, _, rfl, rfl, SqT.of ht, pc1 p f1, f1, fm p, rfl, SqT.of hf, ?_⟩
      rw [← et]
      refine ⟨p.1, tms p (one m), rfl, rfl, mulOk t0 (dn.e p (List.mem_of_getElem? ep)) (by omega), _, hD, ?_, fun b o e => ?_, zs ++ [Txt.mul p.1 (tms p (one m))], ?_, ?_, ?_⟩
      · rw [List.length_map]
        exact small1000 (by omega)
      · rw [upd_ne (ne_of_none (H := H16) e nD)]
        exact sm _ _ e
      · rw [upd_same, List.map_append]
        rfl
      · rw [List.length_append, List.length_singleton]
        omega
      · rw [List.flatMap_append, hzs, V_take (one m) k done ep, List.flatMap_cons, List.flatMap_nil, List.append_nil, cs_mul _ t0]
    rintro H17 ⟨s17, zs, hD17, lzs, hzs⟩
    rw [lx, List.take_length] at hzs
    refine ⟨_, D, zs, rfl, rfl, .inl (SqL.of hD17), by rw [sum_len, hzs, show ("" : Str).length = 0 by decide +kernel, Nat.mul_zero]; omega, ?_⟩
    have ez : cs (Txt.join "" zs) = NP.V (one m) done := (join0 zs).trans hzs
    generalize Txt.join "" zs = z at *
    have S17 := S16.trans s17
    have b17 := s17 _ _ b16
    have gd : ∀ {Hc : Hp}, Same H17 Hc → Gd Hc (.ref bp) bp (one m) m done := fun {Hc} sm => ⟨rfl, sm _ _ b17, List.length_replicate, m3, one_sz m, dn, l90⟩
    have isp : ∀ {Hc : Hp}, Same H17 Hc → IsP Hc m (.ref bp) true := fun {Hc} sm => by
      refine .inl ⟨bp, _, rfl, sm _ _ b17, by rw [List.length_map]; show (List.replicate m (1 : Int)).length ≤ 100; rw [List.length_replicate]; omega, fun v hv => ?_, ?_⟩
      · obtain ⟨y, _, rfl⟩ := List.mem_map.mp hv
        exact .int y
      · have e : ((one m).map L2.V.int).all cntV = true := List.all_eq_true.mpr fun v hv => by
          obtain ⟨y, hy, rfl⟩ := List.mem_map.mp hv
          exact decide_eq_true (nn y hy)
        rw [e, List.length_map, show (one m).length = m from List.length_replicate, decide_eq_true rfl]
        rfl
    refine ⟨_, rfl, _, rfl, .ref x, .ref bp, rfl, .inr ⟨x, m, done, true, rfl, hx.keep S17, isp (Same.refl _), .inr ⟨rfl, bp, one m, gd (Same.refl _), fun _ H18 z2 s18 hz2 => ?_, fun gt => ?_⟩⟩⟩
    rotate_left
    · rw [eL] at gt
      omega
    have e2 : z2 = z := cs_ext (hz2.trans ez.symm)
    subst e2
    refine ⟨_, rfl, rfl, true, congrArg V.bl (decide_eq_true rfl), iteT ?_⟩
    have S18 := S17.trans s18
    refine ⟨_, rfl, rfl, _, rfl, ite2 (fun c2 => ?_) (fun c2 => ?_)⟩
    · exact q H18 S18
    · have lz := cs_len z2
      have ne0 : NP.V (one m) done ≠ [] := fun z => c2 (by
        have : z2 = "" := cs_nil (hz2.trans z)
        rw [this]
        exact decide_eq_true rfl)
      have l1 : 1 ≤ (NP.V (one m) done).length := List.length_pos_iff.mpr ne0
      have lzv : z2.length = (NP.V (one m) done).length := by rw [lz, hz2]
      have ei0 : ((z2.length : Nat) : Int) - 1 = (((NP.V (one m) done).length - 1 : Nat) : Int) := by omega
      obtain ⟨c, hc⟩ : ∃ c, (NP.V (one m) done)[(NP.V (one m) done).length - 1]? = some c := ⟨_, List.getElem?_eq_getElem (by omega)⟩
      refine ⟨_, rfl, _, rfl, _, rfl, z2, rfl, by omega, _, _, rfl, rfl, .ref x, .ref bp, _, rfl, .inr ⟨x, m, done, true, rfl, hx.keep S18, isp s18, .inr ⟨rfl, bp, one m, gd s18, .int _, fun eb H19 i1 c1 s19 ei ec => ?_, fun eb => ?_⟩⟩⟩
      · have ei : i1 = (NP.V (one m) done).length - 1 := by
          have := V.int.inj ei
          omega
        rw [ei, hc] at ec
        cases ec
        have atl : atI (cs z2) (-1) = some c := by
          have := at_back (xs := cs z2) (i := 0) (by rw [hz2]; omega)
          rw [show (-1 - ((0 : Nat) : Int)) = -1 from rfl, hz2] at this
          rw [hz2, this, Nat.sub_zero]
          exact hc
        refine ⟨_, rfl, _, rfl, z2, _, c, rfl, rfl, by omega, atl, rfl, ?_⟩
        show Q (.bl (decide (V.str _ = V.str _))) H19
        rw [decide_eq_true rfl]
        exact q H19 (S18.trans s19)
      · have : belV (lenR (done.map (rn (one m)))) (.int (((z2.length : Nat) : Int) - 1)) = true := by
          show (decide (0 ≤ ((z2.length : Nat) : Int) - 1) && decide (((z2.length : Nat) : Int) - 1 < lenR (done.map (rn (one m))))) = true
          rw [eL, decide_eq_true (by omega), decide_eq_true (by omega)]
          rfl
        rw [this] at eb
        cases eb
end
end K5
set_option Elab.async false
set_option linter.all false
set_option maxRecDepth 100000
set_option maxHeartbeats 8000000
namespace K5
open PySem PySem.Spec PyProof.Rows L2 XV NP
/-! ### what is told of texts put together -/
abbrev sTold : Stmt := top 77
abbrev nTold : List Str := ["_law_which", "_law_given", "_law_found", "_law_many", "e"]
theorem scTold : FnScope nTold ["_law_which", "_law_given"] (defScope sTold) := ⟨rfl, rfl, rfl, by decide +kernel, rfl, by decide +kernel, by decide +kernel⟩
theorem ni_self (d : List Pc) : NI d d [] := ⟨fun ys hy => by rw [List.append_nil], fun k j => by
  cases j with
  | zero => simp
  | succ j => simp⟩
/-- a text of the pieces ps stands at z -/
structure Tt (C : Addr) (H : Hp) (z : Addr) (m : Nat) (ps done : List Pc) : Prop where
  t : Tx C H z m done
  e : done.map pi = N5.nrmC m (ps.map pi)
  ni : NI ps done []
  d : Dn m 800 done
  l : done.length ≤ 90
theorem Tt.keep {C : Addr} {H H' : Hp} (s : Same H H') {z : Addr} {m : Nat} {ps done : List Pc} (h : Tt C H z m ps done) : Tt C H' z m ps done := ⟨h.t.keep s, h.e, h.ni, h.d, h.l⟩
theorem Dn.le {m k k' : Nat} {d : List Pc} (h : Dn m k d) (l : k ≤ k') : Dn m k' d := ⟨fun p hp => (h.z p hp).le l, h.w, h.e⟩
def ResT (C : Addr) (H : Hp) (m : Nat) (ps : List Pc) (mm : Int) (u v : L2.V) : Prop := (2000 < mm ∧ u = .non ∧ v = .int mm) ∨ (mm ≤ 2000 ∧ ∃ z done, u = .ref z ∧ v = .non ∧ Tt C H z m ps done)
theorem ResT.keep {C : Addr} {H H' : Hp} (s : Same H H') {m : Nat} {ps : List Pc} {mm : Int} {u v : L2.V} (h : ResT C H m ps mm u v) : ResT C H' m ps mm u v := by
  rcases h with h | ⟨h, z, done, e1, e2, t⟩
  · exact .inl h
  · exact .inr ⟨h, z, done, e1, e2, t.keep s⟩
/-- what is asked: the way, what is handed in, the pieces put together, their measure -/
inductive AskT (C : Addr) (H : Hp) : Nat → List L2.V → Nat → List Pc → Int → Prop
  | j {x y : Addr} {m k L kb : Nat} {d d2 : List Pc} : Tn C H x m k L d → Tn C H y m k L d2 → m ≤ 3 → Pq m kb (d ++ d2) → (d ++ d2).length ≤ 44 → AskT C H 0 [.ref x, .ref y] m (d ++ d2) (meas (d ++ d2))
  | r {x : Addr} {m k L kb : Nat} {d : List Pc} {n : Int} : Tn C H x m k L d → k ≤ 800 → L ≤ 90 → m ≤ 3 → Sz 1000 n → Pq m kb d → Pq m kb (rep n.toNat d) → (rep n.toNat d).length ≤ 44 → AskT C H 1 [.ref x, .int n] m (rep n.toNat d) (meas (rep n.toNat d))
  | p {x la : Addr} {m m0 k L kb kb2 : Nat} {d : List Pc} {fs : List (Addr × List Int)} : Tn C H x m0 k L d → k ≤ 800 → L ≤ 44 → m ≤ 3 → m0 ≤ 3 → Pq m0 kb d → Fs H la m fs → fs.length = m0 → Pq m kb2 (d.map (led m (fls fs))) → AskT C H 2 [.ref x, .int m, .ref la] m (d.map (led m (fls fs))) (meas (d.map (led m (fls fs))))
  | g {x : Addr} {m k L kb : Nat} {d : List Pc} {n : Int} : Tn C H x m k L d → m ≤ 3 → Sz 1000 n → Pq m kb d → d ≠ [] → 2000 < meas d * n → AskT C H 1 [.ref x, .int n] m [] (meas d * n)
def spTold (C : Addr) : Sp := fun vs H Q _ => ∃ (wh : Nat) (ga : Addr) (as_ : List L2.V) (m : Nat) (ps : List Pc) (mm : Int), vs = [.int wh, .ref ga] ∧ H ga = some (.lst as_) ∧ AskT C H wh as_ m ps mm ∧
  ∀ (H' : Hp) (l : Addr) (u v : L2.V), Same H H' → H l = none → H' l = some (.lst [u, v]) → ResT C H' m ps mm u v → Q (.ref l) H'
theorem rep_nil : ∀ n : Nat, rep n ([] : List Pc) = []
  | 0 => rfl
  | n + 1 => rep_nil n
theorem int_ne {x y : Nat} (h : x ≠ y) : ¬ decide (V.int (x : Int) = V.int (y : Int)) = true := fun c => h (by have := V.int.inj (of_decide_eq_true c); omega)
section
variable {P : Program} {w : World} {K : PySem.W.Frag} {mg : Str → Option Value} {base : Heap} {f : Addr} {fd : FuncData} {C : Addr}
theorem ok_told (F : FnP K "_law_told" sTold f fd) (Z : Cl4 P w K mg base) (o_joined : OkX P w K mg base "joined" 8 ["one", "other"] (spJoined K C)) (o_repeated : OkX P w K mg base "repeated" 8 ["text", "times"] (spRepeated K C)) (o_replaced : OkX P w K mg base "replaced" 9 ["text", "many", "forms"] (spReplaced K C)) :
    FnOk P w K mg base CX0 10 f fd ["_law_which", "_law_given"] (spTold C) := by
  have nd := scTold.nd
  have gT : mg "TooLong" = some (.ref (C4 K 4)) := Z.g 4 (by decide)
  have XFT : XF K (C4 K 4) "value" := Z.f 4 (by decide)
  refine F.ok scTold (fun vs H Q E h => ?_) (fun cdv A outer s H vs Q E hr h => ?_)
  · obtain ⟨wh, ga, as_, m, ps, mm, rfl, _⟩ := h
    rfl
  · obtain ⟨wh, ga, as_, m, ps, mm, rfl, hg, ask, q⟩ := h
    have szl := sizeLine_eq
    have r9 : Room 9 (A.deeper (envOfC "_law_told" (defScope sTold) s.heap.objs.size f cdv)) := hr
    have r8 := r9.mono (by decide : 8 ≤ 9)
    refine ⟨_, PSs.nox (pss_cons (ps_asg (pe_tup (pa_cons pe_non (pa_cons pe_non pa_nil))) (pg_tup rfl (pgs_cons (pg_name (i := 2) nd rfl (Or.inl rfl)) (pgs_cons (pg_name (i := 3) nd rfl (Or.inl rfl)) pgs_nil))))
      (C8.pss_cut (ps_try_as (i := 4) rfl rfl nd rfl rfl ⟨by rfl, by decide, .inl gT⟩ takes0
        (fun W pn xe tk _ => pss_one (ps_if (pt_cmpR op_eq (pv 0) pe_int (nomark _))
          (pss_one (ps_set (i := 2) nd rfl (Or.inl rfl) (pe_callT o_joined tk r8 (by rfl) (pa_cons (pe_ix (ix_listK (K := K) rfl) (pv 1) pe_int (fun _ _ => rfl)) (pa_cons (pe_ix (ix_listK (K := K) rfl) (pv 1) pe_int (fun _ _ => rfl)) pa_nil)))))
          (pss_one (ps_if (pt_cmpR op_eq (pv 0) pe_int (nomark _))
            (pss_one (ps_set (i := 2) nd rfl (Or.inl rfl) (pe_callT o_repeated tk r8 (by rfl) (pa_cons (pe_ix (ix_listK (K := K) rfl) (pv 1) pe_int (fun _ _ => rfl)) (pa_cons (pe_ix (ix_listK (K := K) rfl) (pv 1) pe_int (fun _ _ => rfl)) pa_nil)))))
            (pss_one (ps_set (i := 2) nd rfl (Or.inl rfl) (pe_callT o_replaced tk r9 (by rfl) (pa_cons (pe_ix (ix_listK (K := K) rfl) (pv 1) pe_int (fun _ _ => rfl)) (pa_cons (pe_ix (ix_listK (K := K) rfl) (pv 1) pe_int (fun _ _ => rfl)) (pa_cons (pe_ix (ix_listK (K := K) rfl) (pv 1) pe_int (fun _ _ => rfl)) pa_nil))))))))))
        (fun a oe cls d pn hz hf => pss_one (ps_set (i := 3) nd rfl (Or.inl rfl) (pe_xf XFT.xf XFT.no hz hf (pv 4)))))
      (pss_one (ps_ret (pe_lst (pa_cons (pv 2) (pa_cons (pv 3) pa_nil))))))), ?_⟩
    refine ⟨(by show 2 ≤ sizeLine; omega), fun t0 nt0 => ⟨t0, _, rfl, SqT.of upd_same, rfl, _, _, rfl, _, _, rfl, rfl, ?_⟩⟩
    have s1 := same_new (o := .tup [.non, .non]) nt0
    have hg1 := s1 _ _ hg
    refine ⟨fun σ' H' => Same H H' ∧ ∃ u v : L2.V, σ' = [some (.int wh), some (.ref ga), some u, some v, none] ∧ ResT C H' m ps mm u v, ?_, ?_⟩
    · have a0 : ∀ (x : L2.V) (r : List L2.V), atI (x :: r) ((0 : Nat) : Int) = some x := fun x r => atI_nat rfl
      have a1 : ∀ (x y : L2.V) (r : List L2.V), atI (x :: y :: r) ((1 : Nat) : Int) = some y := fun x y r => atI_nat rfl
      have a2 : ∀ (x y z : L2.V) (r : List L2.V), atI (x :: y :: z :: r) ((2 : Nat) : Int) = some z := fun x y z r => atI_nat rfl
      generalize upd H t0 (.tup [.non, .non]) = H1 at *
      cases ask with
      | @j x y _ k L kb d d2 tx ty hm hq l44 =>
        refine ⟨_, rfl, rfl, _, rfl, ite2 (fun _ => ?_) (fun c => absurd (decide_eq_true rfl) c)⟩
        refine ⟨_, rfl, ga, _, _, _, rfl, rfl, SqL.of hg1, a0 _ _, _, rfl, ga, _, _, _, rfl, rfl, SqL.of hg1, a1 _ _ _, .ref x, .ref y, rfl, .inr ⟨x, m, d, rfl, tx.t.keep s1, .inr ⟨y, m, d2, rfl, ty.t.keep s1, .inr ⟨rfl, hm, kb, hq, fun gt H2 e s2 ne2 => ?_, fun le H2 z done s2 nz hz ni ex ld dn => ?_⟩⟩⟩⟩
        · refine ⟨true, Z.own 4 (by decide), fun _ a na => ?_, fun z => nomatch z⟩
          refine ⟨_, rfl, rfl, rfl, e, _, _, rfl, upd_same, (by rw [List.lookup_cons_self]), ?_⟩
          exact ⟨(s1.trans s2).trans (same_new ne2), _, _, rfl, .inl ⟨gt, rfl, rfl⟩⟩
        · have := hq.kk
          exact ⟨s1.trans s2, _, _, rfl, .inr ⟨le, z, done, rfl, rfl, hz, ex, ni, dn.le (by omega), by omega⟩⟩
      | @r x _ k L kb d n tx hk hL hm sn hq hq2 l44 =>
        refine ⟨_, rfl, rfl, _, rfl, ite2 (fun c => absurd c (int_ne (x := 1) (y := 0) (by decide))) fun _ => ⟨_, rfl, rfl, _, rfl, ite2 (fun _ => ?_) (fun c => absurd (decide_eq_true rfl) c)⟩⟩
        have en : ((n.toNat : Nat) : Int) = n := Int.toNat_of_nonneg sn.1
        have em : meas (rep n.toNat d) = meas d * n := by rw [meas_rep, en]
        refine ⟨_, rfl, ga, _, _, _, rfl, rfl, SqL.of hg1, a0 _ _, _, rfl, ga, _, _, _, rfl, rfl, SqL.of hg1, a1 _ _ _, .ref x, .int n, rfl, .inr ⟨x, m, d, rfl, tx.t.keep s1, .int n, .inr ⟨n, kb, rfl, sn, hm, hq, fun e0 H2 s2 => ?_, fun _ gt H2 e s2 ne2 => ?_, fun _ le => ⟨hq2, fun H2 z done s2 nz hz ni ex ld dn => ?_⟩⟩⟩⟩
        · subst e0
          have er : rep n.toNat ([] : List Pc) = [] := rep_nil _
          refine ⟨s1.trans s2, _, _, rfl, .inr ⟨?_, x, [], rfl, rfl, (tx.t.keep s1).keep s2, ?_, ?_, ⟨fun p hp => (by cases hp), fun p hp => (by cases hp), fun p hp => (by cases hp)⟩, Nat.zero_le _⟩⟩
          · rw [er]
            show (0 : Int) ≤ 2000
            decide
          · rw [er]
            exact tx.n.symm
          · rw [er]
            exact ni_self []
        · refine ⟨true, Z.own 4 (by decide), fun _ a na => ?_, fun z => nomatch z⟩
          refine ⟨_, rfl, rfl, rfl, e, _, _, rfl, upd_same, (by rw [List.lookup_cons_self]), ?_⟩
          exact ⟨(s1.trans s2).trans (same_new ne2), _, _, rfl, .inl ⟨by rw [em]; exact gt, rfl, by rw [em]⟩⟩
        · have := hq.kk
          exact ⟨s1.trans s2, _, _, rfl, .inr ⟨by rw [em]; exact le, z, done, rfl, rfl, hz, ex, ni, dn.le (by omega), by omega⟩⟩
      | @g x _ k L kb d n tx hm sn hq hd gt =>
        refine ⟨_, rfl, rfl, _, rfl, ite2 (fun c => absurd c (int_ne (x := 1) (y := 0) (by decide))) fun _ => ⟨_, rfl, rfl, _, rfl, ite2 (fun _ => ?_) (fun c => absurd (decide_eq_true rfl) c)⟩⟩
        refine ⟨_, rfl, ga, _, _, _, rfl, rfl, SqL.of hg1, a0 _ _, _, rfl, ga, _, _, _, rfl, rfl, SqL.of hg1, a1 _ _ _, .ref x, .int n, rfl, .inr ⟨x, m, d, rfl, tx.t.keep s1, .int n, .inr ⟨n, kb, rfl, sn, hm, hq, fun e0 => absurd e0 hd, fun _ _ H2 e s2 ne2 => ?_, fun _ le => absurd gt (by omega)⟩⟩⟩
        refine ⟨true, Z.own 4 (by decide), fun _ a na => ?_, fun z => nomatch z⟩
        refine ⟨_, rfl, rfl, rfl, e, _, _, rfl, upd_same, (by rw [List.lookup_cons_self]), ?_⟩
        exact ⟨(s1.trans s2).trans (same_new ne2), _, _, rfl, .inl ⟨gt, rfl, rfl⟩⟩
      | @p x la _ m0 k L kb kb2 d fs tx hk hL hm hm0 hq hF lf hq2 =>
        refine ⟨_, rfl, rfl, _, rfl, ite2 (fun c => absurd c (int_ne (x := 2) (y := 0) (by decide))) fun _ => ⟨_, rfl, rfl, _, rfl, ite2 (fun c => absurd c (int_ne (x := 2) (y := 1) (by decide))) fun _ => ?_⟩⟩
        refine ⟨_, rfl, ga, _, _, _, rfl, rfl, SqL.of hg1, a0 _ _, _, rfl, ga, _, _, _, rfl, rfl, SqL.of hg1, a1 _ _ _, _, rfl, ga, _, _, _, rfl, rfl, SqL.of hg1, a2 _ _ _ _, .ref x, .int (m : Int), .ref la, rfl,
          .inr ⟨x, m0, d, rfl, tx.t.keep s1, .int _, .inr ⟨m, rfl, hm, .inr ⟨la, kb, kb2, fs, rfl, hm0, hq, hF.keep s1, lf, fun e1 e2 H2 s2 => ?_, fun ne => ⟨hq2, fun gt H2 e s2 ne2 => ?_, fun le H2 z done s2 nz hz ni ex ld dn => ?_⟩⟩⟩⟩⟩
        · subst e1
          have eL := tx.l
          refine ⟨s1.trans s2, _, _, rfl, .inr ⟨by rw [e2]; exact tx.me, x, d, rfl, rfl, (tx.t.keep s1).keep s2, ?_, ?_, tx.d.le (by omega), by omega⟩⟩
          · rw [e2]
            exact tx.n.symm
          · rw [e2]
            exact ni_self d
        · refine ⟨true, Z.own 4 (by decide), fun _ a na => ?_, fun z => nomatch z⟩
          refine ⟨_, rfl, rfl, rfl, e, _, _, rfl, upd_same, (by rw [List.lookup_cons_self]), ?_⟩
          exact ⟨(s1.trans s2).trans (same_new ne2), _, _, rfl, .inl ⟨gt, rfl, rfl⟩⟩
        · have := hq2.kk
          have eL := tx.l
          rw [List.length_map] at ld
          exact ⟨s1.trans s2, _, _, rfl, .inr ⟨le, z, done, rfl, rfl, hz, ex, ni, dn.le (by omega), by omega⟩⟩
    · rintro σ' H2 ⟨s2, u, v, rfl, res⟩
      refine ⟨_, rfl, _, rfl, (by show 2 ≤ sizeLine; omega), fun l nl => ?_⟩
      exact q _ l u v (s2.trans (same_new nl)) (Same.none s2 nl) upd_same (res.keep (same_new nl))
end
end K5
set_option Elab.async false
set_option linter.all false
set_option maxRecDepth 100000
set_option maxHeartbeats 8000000
namespace K5
open PySem PySem.Spec PyProof.Rows L2 XV NP
/-! ### what is made is good -/
abbrev sMade : Stmt := top 79
abbrev nMade : List Str := ["_law_which", "_law_given", "_law_many", "_law_pieces_here", "_law_told_here", "_law_due"]
theorem scMade : FnScope nMade ["_law_which", "_law_given", "_law_many", "_law_pieces_here"] (defScope sMade) := ⟨rfl, rfl, rfl, by decide +kernel, rfl, by decide +kernel, by decide +kernel⟩
theorem pz_ok {m k : Nat} {ps : List Pc} (h : ∀ p ∈ ps, Pz m k p) : ∀ q ∈ ps.map pi, N5.Ok m q := fun q hq => by
  obtain ⟨p, hp, rfl⟩ := List.mem_map.mp hq
  exact ⟨(h p hp).c.1, (h p hp).l, fun x hx => ((h p hp).x x hx).1⟩
theorem plain_false {xs : List Int} (h : ¬ ∀ x ∈ xs, x = 0) : N5.plainB xs = false := by
  cases e : N5.plainB xs with
  | false => rfl
  | true => exact absurd ((N5.plain_iff xs).mp e) h
theorem meas_pi : ∀ ps : List Pc, N5.meas (ps.map pi) = meas ps
  | [] => rfl
  | p :: ps => by
    have ih := meas_pi ps
    have e1 : N5.meas ((p :: ps).map pi) = N5.mea (pi p) + N5.meas (ps.map pi) := by
      unfold N5.meas
      rw [List.map_cons, List.map_cons, List.sum_cons]
    have e2 : meas (p :: ps) = me1 p + meas ps := by
      unfold meas
      rw [List.map_cons, List.sum_cons]
    rw [e1, e2, ih]
    have e3 : N5.mea (pi p) = me1 p := by
      show ((cs p.1).length : Int) * (p.2.1 + if N5.plainB p.2.2 = true then 0 else 1) = (p.1.length : Int) * (p.2.1 + if (∀ x ∈ p.2.2, x = 0) then 0 else 1)
      rw [cs_len]
      by_cases c : ∀ x ∈ p.2.2, x = 0
      · rw [if_pos c, if_pos ((N5.plain_iff _).mpr c)]
      · rw [if_neg c, if_neg (by rw [plain_false c]; decide)]
    rw [e3]
theorem meas_made {m k : Nat} {ps done : List Pc} (h : ∀ p ∈ ps, Pz m k p) (e : done.map pi = N5.nrmC m (ps.map pi)) : meas done ≤ meas ps := by
  rw [← meas_pi done, ← meas_pi ps, e]
  exact N5.meas_nrmC (pz_ok h)
theorem zero_made {m k : Nat} {ps done : List Pc} (h : ∀ p ∈ ps, Pz m k p) (e : done.map pi = N5.nrmC m (ps.map pi)) : ∀ p ∈ done, (¬ ∀ x ∈ p.2.2, x = 0) → p.2.1 = 0 := fun p hp c =>
  N5.nrmC_zero (pz_ok h) (pi p) (by rw [← e]; exact List.mem_map_of_mem hp) (plain_false c)
theorem nrm_made {m k : Nat} {ps done : List Pc} (h : ∀ p ∈ ps, Pz m k p) (e : done.map pi = N5.nrmC m (ps.map pi)) : N5.nrmC m (done.map pi) = done.map pi := by
  rw [e]
  exact N5.nrmC_nrmC (pz_ok h)
def spMade (C : Addr) : Sp := fun vs H Q _ => ∃ (wh : Nat) (ga : Addr) (as_ : List L2.V) (m kb : Nat) (pl : Addr) (ps : List Pc), vs = [.int wh, .ref ga, .int m, .ref pl] ∧ H ga = some (.lst as_) ∧ AskT C H wh as_ m ps (meas ps) ∧ m ≤ 3 ∧ PL H pl ps ∧ Pq m kb ps ∧ ∀ H', Same H H' → Q (.bl true) H'
section
variable {P : Program} {w : World} {K : PySem.W.Frag} {mg : Str → Option Value} {base : Heap} {f : Addr} {fd : FuncData} {C : Addr}
theorem ok_made (F : FnP K "_law_made_good" sMade f fd) (T : TT K mg C) (o_mk : OkMkT P w K mg base C) (o_eq : OkEq P w K mg base C) (o_many : OkMt P w K mg base C "many" (spManyT C)) (o_pieces : OkMt P w K mg base C "pieces" (spPiecesT C)) (o_told : Ok P w K mg base "_law_told" 10 ["_law_which", "_law_given"] (spTold C)) (o_lmeas : Ok P w K mg base "_law_measure" 1 ["_law_pieces_here"] spLMeas)
    (o_seen : Ok P w K mg base "_law_seen_good" 6 ["_law_text", "_law_due"] (spSeen C)) (z_isinstance : mg "isinstance" = none) : FnOk P w K mg base CX0 11 f fd ["_law_which", "_law_given", "_law_many", "_law_pieces_here"] (spMade C) := by
  have nd := scMade.nd
  refine F.ok scMade (fun vs H Q E h => ?_) (fun cdv A outer s H vs Q E hr h => ?_)
  · obtain ⟨wh, ga, as_, m, kb, pl, ps, rfl, _⟩ := h
    rfl
  · obtain ⟨wh, ga, as_, m, kb, pl, ps, rfl, hg, ask, hm, hL, hq, q⟩ := h
    have r10 : Room 10 (A.deeper (envOfC "_law_made_good" (defScope sMade) s.heap.objs.size f cdv)) := hr
    have r7 := r10.mono (by decide : 7 ≤ 10)
    have r6 := r10.mono (by decide : 6 ≤ 10)
    have r1 := r10.mono (by decide : 1 ≤ 10)
    refine ⟨_, PSs.nox (pss_cons (ps_set (i := 4) nd rfl (Or.inl rfl) (pe_callO o_told r10 (by rfl) (pa_cons (pv 0) (pa_cons (pv 1) pa_nil))))
      (pss_cons (ps_if (pt_cmpR op_gt (pe_callO o_lmeas r1 (by rfl) (pa_cons (pv 3) pa_nil)) pe_int (nomark _)) (pss_one (ps_ret (pe_and (pe_cmp (pc_isN (pe_ix ix_list (pv 4) pe_int (fun _ _ => rfl)))) (pe_one (pe_cmpR op_eq (pe_ix ix_list (pv 4) pe_int (fun _ _ => rfl)) (pe_callO o_lmeas r1 (by rfl) (pa_cons (pv 3) pa_nil)) (nomark _)))))) pss_nil)
      (pss_cons (ps_set (i := 5) nd rfl (Or.inl rfl) (pe_mkT o_mk r7 (by rfl) (pv 2) (pv 3)))
      (pss_one (ps_ret (pe_and (pe_callB call_isi (by rfl) z_isinstance (by decide +kernel) (pa_cons (pe_ix ix_list (pv 4) pe_int (fun _ _ => rfl)) (pa_cons (pe_glob (v := .ref C) (by rfl) T.g rfl) pa_nil)))
        (pe_and (pe_cmpR (op_eqT o_eq T r1) (pe_ix ix_list (pv 4) pe_int (fun _ _ => rfl)) (pv 5) (nomark _))
        (pe_and (pe_cmpR op_eq (pe_manyT o_many T (pe_ix ix_list (pv 4) pe_int (fun _ _ => rfl)) r1) (pv 2) (nomark _))
        (pe_one (pe_callO o_seen r6 (by rfl) (pa_cons (pe_ix ix_list (pv 4) pe_int (fun _ _ => rfl)) (pa_cons (pe_piecesT o_pieces T (pv 5) r1) pa_nil)))))))))))), ?_⟩
    have a0 : ∀ (x : L2.V) (r : List L2.V), atI (x :: r) ((0 : Nat) : Int) = some x := fun x r => atI_nat rfl
    have a1 : ∀ (x y : L2.V) (r : List L2.V), atI (x :: y :: r) ((1 : Nat) : Int) = some y := fun x y r => atI_nat rfl
    refine ⟨_, rfl, _, rfl, wh, ga, as_, m, ps, meas ps, rfl, hg, ask, fun H1 l u v s1 nl hl res => ?_⟩
    refine ⟨_, rfl, m, kb, pl, ps, rfl, hm, hL.keep s1, hq, fun H2 s2 => ⟨_, _, rfl, rfl, _, rfl, ite2 (fun c => ?_) (fun c => ?_)⟩⟩
    · have c : meas ps > 2000 := of_decide_eq_true c
      rcases res with ⟨_, rfl, rfl⟩ | ⟨le, _⟩
      · refine ⟨_, rfl, l, _, _, _, rfl, rfl, SqL.of (s2 _ _ hl), a0 _ _, true, rfl, iteT ?_⟩
        refine ⟨_, rfl, l, _, _, _, rfl, rfl, SqL.of (s2 _ _ hl), a1 _ _ _, _, rfl, m, kb, pl, ps, rfl, hm, (hL.keep s1).keep s2, hq, fun H3 s3 => ⟨rfl, ?_⟩⟩
        show Q (.bl (decide (V.int _ = V.int _))) H3
        rw [decide_eq_true rfl]
        exact q H3 ((s1.trans s2).trans s3)
      · omega
    · have c : meas ps ≤ 2000 := Int.not_lt.mp fun z => c (decide_eq_true z)
      rcases res with ⟨gt, _⟩ | ⟨_, z, done, rfl, rfl, tz⟩
      · omega
      · have S2 := s1.trans s2
        refine ⟨_, rfl, _, rfl, m, kb, pl, ps, rfl, rfl, hm, hL.keep S2, hq, c, fun H3 y done2 s3 ny hy ni2 ex2 ld2 dn2 => ?_⟩
        have ed : done2 = done := pi_inj (ex2.trans tz.e.symm)
        subst ed
        have S := s2.trans s3
        have tz3 := (tz.keep s2).keep s3
        have hl3 := S _ _ hl
        have ab : ∀ p ∈ done2, AB p.1 := fun p hp => (tz.d.w p hp).1
        obtain ⟨dz, lz, hz, _⟩ := id tz3.t
        refine ⟨_, rfl, l, _, _, _, rfl, rfl, SqL.of hl3, a0 _ _, _, _, _, _, true, rfl, .own C, T.ty hz, T.ic.me, true, rfl, iteT ?_⟩
        refine ⟨_, rfl, l, _, _, _, rfl, rfl, SqL.of hl3, a0 _ _, _, rfl, z, y, m, done2, rfl, rfl, tz3.t, hy, ab, true, rfl, iteT ?_⟩
        refine ⟨_, rfl, l, _, _, _, rfl, rfl, SqL.of hl3, a0 _ _, z, m, done2, rfl, tz3.t, _, rfl, rfl, true, congrArg V.bl (decide_eq_true rfl), iteT ?_⟩
        refine ⟨_, rfl, l, _, _, _, rfl, rfl, SqL.of hl3, a0 _ _, _, rfl, y, m, done2, rfl, hy, fun H4 pp s4 np4 hp4 => ?_⟩
        exact ⟨z, pp, m, done2, rfl, tz3.t.keep s4, hp4, ⟨hm, tz.d, tz.l, zero_made hq.z tz.e⟩, fun H5 s5 => q H5 (((S2.trans s3).trans s4).trans s5)⟩
end
end K5
set_option Elab.async false
set_option linter.all false
set_option maxRecDepth 100000
set_option maxHeartbeats 8000000
namespace N5
open NP
section
variable {α : Type} [DecidableEq α]
theorem nrmC_one {m : Nat} {ps : List (Pi α)} (h : ∀ p ∈ ps, Ok m p) : ∀ p ∈ nrmC m ps, 1 ≤ mea p := by
  rw [nrmC_eq h]
  intro p hp
  obtain ⟨i, hi, rfl⟩ := List.mem_map.mp hp
  have g := norm_good h i hi
  rw [mea_back g]
  cases i with
  | fix w =>
    have : 0 < w.length := List.length_pos_iff.mpr g
    show (1 : Int) ≤ ((w.length : Nat) : Int)
    omega
  | pow r xs =>
    have : 0 < r.length := g.1.pos
    show (1 : Int) ≤ ((r.length : Nat) : Int)
    omega
end
end N5
namespace K5
open PySem PySem.Spec PyProof.Rows L2 XV NP
/-! ### joined -/
theorem Pk.m30 {m : Nat} {p : Pc} (h : Pk m p) : me1 p ≤ 30 := by
  have lz := cs_len p.1
  have l := h.l
  have c0 := h.c0
  have c2 := h.c2
  show (p.1.length : Int) * (p.2.1 + if (∀ x ∈ p.2.2, x = 0) then 0 else 1) ≤ 30
  have b : 0 ≤ (p.2.1 + if (∀ x ∈ p.2.2, x = 0) then (0 : Int) else 1) ∧ (p.2.1 + if (∀ x ∈ p.2.2, x = 0) then (0 : Int) else 1) ≤ 3 := by
    split <;> omega
  have a1 : (p.1.length : Int) * (p.2.1 + if (∀ x ∈ p.2.2, x = 0) then 0 else 1) ≤ 10 * (p.2.1 + if (∀ x ∈ p.2.2, x = 0) then 0 else 1) := Int.mul_le_mul_of_nonneg_right (by omega) b.1
  omega
theorem pks_m30 {m : Nat} {ps : List Pc} (h : ∀ p ∈ ps, Pk m p) : meas ps ≤ 30 * (ps.length : Int) := sum_le fun p hp => (h p hp).m30
theorem pks_pq {m : Nat} {ps : List Pc} (h : ∀ p ∈ ps, Pk m p) (l : ps.length ≤ 90) : Pq m 200 ps := ⟨by decide, fun p hp => (h p hp).pz, fun p hp => ⟨(h p hp).w, by have := (h p hp).l; omega⟩, l⟩
/-- the text of a drawn list of pieces -/
structure Td (C : Addr) (H : Hp) (x : Addr) (m : Nat) (ps d : List Pc) : Prop where
  t : Tn C H x m 400 9 d
  e : d.map pi = N5.nrmC m (ps.map pi)
  ni : NI ps d []
theorem Td.keep {C : Addr} {H H' : Hp} (s : Same H H') {x : Addr} {m : Nat} {ps d : List Pc} (h : Td C H x m ps d) : Td C H' x m ps d := ⟨h.t.keep s, h.e, h.ni⟩
theorem PL.ne {H : Hp} {g l : Addr} {n : Nat} {ps : List Pc} (h : PL H l ps) (d : Dr H g n) : l ≠ g := fun e => by
  obtain ⟨xs, hl, hP⟩ := h
  obtain ⟨a, b, c, hg, _⟩ := d
  rw [e, hg] at hl
  cases hl
  cases hP with
  | cons i _ =>
    obtain ⟨_, _, e, _⟩ := i
    cases e
theorem PL.but {H H' : Hp} {g l : Addr} {n : Nat} {ps : List Pc} (h : PL H l ps) (d : Dr H g n) (b : But H H' g) : PL H' l ps := by
  have ne := h.ne d
  obtain ⟨xs, hl, hP⟩ := h
  exact ⟨xs, b _ _ ne hl, hP.but d b⟩
theorem Tx.but {C : Addr} {H H' : Hp} {g x : Addr} {n m : Nat} {done : List Pc} (h : Tx C H x m done) (d : Dr H g n) (b : But H H' g) : Tx C H' x m done := by
  obtain ⟨dx, l, e, r⟩ := h
  refine ⟨dx, l, b _ _ (fun z => ?_) e, r.but d b⟩
  obtain ⟨_, _, _, hg, _⟩ := d
  rw [z, hg] at e
  cases e
theorem Td.but {C : Addr} {H H' : Hp} {g x : Addr} {n m : Nat} {ps d : List Pc} (h : Td C H x m ps d) (dr : Dr H g n) (b : But H H' g) : Td C H' x m ps d := ⟨⟨h.t.t.but dr b, h.t.n, h.t.d, h.t.l, h.t.me⟩, h.e, h.ni⟩
/-- what OpenText(m, ps) makes of drawn pieces -/
theorem td_of {C : Addr} {H : Hp} {x : Addr} {m : Nat} {ps d : List Pc} (hk : ∀ p ∈ ps, Pk m p) (l4 : ps.length ≤ 4) (t : Tx C H x m d) (ni : NI ps d []) (ex : d.map pi = N5.nrmC m (ps.map pi)) (ld : d.length ≤ 2 * ps.length + 1) (dn : Dn m (200 + 200) d) : Td C H x m ps d := by
  have hz : ∀ p ∈ ps, Pz m 200 p := fun p hp => (hk p hp).pz
  have := meas_made hz ex
  have := pks_m30 hk
  exact ⟨⟨t, nrm_made hz ex, dn, by omega, by omega⟩, ex, ni⟩
section
variable {C : Addr} {H : Hp} {x : Addr} {m : Nat} {ps d : List Pc}
theorem Td.m120 (h : Td C H x m ps d) (hk : ∀ p ∈ ps, Pk m p) (l4 : ps.length ≤ 4) : meas d ≤ 120 := by
  have := meas_made (fun p hp => (hk p hp).pz) h.e
  have := pks_m30 hk
  omega
theorem Td.pq (h : Td C H x m ps d) : Pq m 400 d := ⟨by decide, h.t.d.z, h.t.d.w, Nat.le_trans h.t.l (by decide)⟩
theorem Td.ab (h : Td C H x m ps d) : ∀ p ∈ d, AB p.1 := fun p hp => (h.t.d.w p hp).1
theorem Td.one (h : Td C H x m ps d) (hk : ∀ p ∈ ps, Pk m p) (ne : d ≠ []) : 1 ≤ meas d := by
  have h1 : ∀ p ∈ d, 1 ≤ me1 p := fun p hp => by
    have e := N5.nrmC_one (pz_ok fun p hp => (hk p hp).pz) (pi p) (by rw [← h.e]; exact List.mem_map_of_mem hp)
    have e2 : N5.mea (pi p) = me1 p := by
      have := meas_pi [p]
      simpa [N5.meas, meas] using this
    rw [e2] at e
    exact e
  cases d with
  | nil => exact absurd rfl ne
  | cons p d =>
    have a := h1 p List.mem_cons_self
    have b : 0 ≤ (d.map me1).sum := sum_nn fun y hy => by
      obtain ⟨q, hq, rfl⟩ := List.mem_map.mp hy
      have := h1 q (List.mem_cons_of_mem _ hq)
      omega
    have e : meas (p :: d) = me1 p + (d.map me1).sum := by
      unfold meas
      rw [List.map_cons, List.sum_cons]
    omega
end
theorem Pq.app {m k : Nat} {a b : List Pc} (h : Pq m k a) (g : Pq m k b) (l : a.length + b.length ≤ 90) : Pq m k (a ++ b) := ⟨h.kk, fun p hp => (List.mem_append.mp hp).elim (h.z p) (g.z p), fun p hp => (List.mem_append.mp hp).elim (h.w p) (g.w p), by rw [List.length_append]; exact l⟩
theorem mem_rep {n : Nat} {d : List Pc} {p : Pc} (h : p ∈ rep n d) : p ∈ d := by
  obtain ⟨l, hl, hp⟩ := List.mem_flatten.mp h
  rw [(List.mem_replicate.mp hl).2] at hp
  exact hp
theorem rep_len (n : Nat) (d : List Pc) : (rep n d).length = n * d.length := by
  show (List.replicate n d).flatten.length = _
  rw [List.length_flatten, List.map_replicate, List.sum_replicate_nat]
theorem Pq.rep {m k n : Nat} {d : List Pc} (h : Pq m k d) (l : n * d.length ≤ 90) : Pq m k (K5.rep n d) := ⟨h.kk, fun p hp => h.z p (mem_rep hp), fun p hp => h.w p (mem_rep hp), by rw [rep_len]; exact l⟩
theorem kD_sh {a b : List Pc} (ha : ∀ p ∈ a, AB p.1) (hb : ∀ p ∈ b, AB p.1) : SeqAt.shaped (.list [psD a, psD b]) = true := by
  have h1 := pcs_depth a
  have h2 := pcs_depth b
  have e : (PyData.list [psD a, psD b]).depth ≤ 64 := by
    simp only [psD, PyData.depth, PyData.depthAll]
    omega
  unfold SeqAt.shaped
  rw [decide_eq_true e, Bool.and_true]
  simp [psD, PyData.canLay0, PyData.canLayAll0, pcs_lay a ha, pcs_lay b hb]
/-- a piece with a number above 2 -/
def big (p : Pc) : Bool := decide (p.2.2.foldl max p.2.1 > 2)
theorem big_no {p : Pc} (h : big p = false) : p.2.1 ≤ 2 ∧ ∀ x ∈ p.2.2, x ≤ 2 := by
  have h : ¬ (p.2.2.foldl max p.2.1 > 2) := of_decide_eq_false h
  exact (foldl_max_le p.2.2 p.2.1 2).mp (by omega)
theorem dot_le {b : Int} (hb : 0 ≤ b) : ∀ (xs ys : List Int), (∀ x ∈ xs, 0 ≤ x ∧ x ≤ 2) → (∀ y ∈ ys, 0 ≤ y ∧ y ≤ b) → NP.dot xs ys ≤ 2 * b * (xs.length : Int)
  | [], ys, _, _ => by
    have e : NP.dot [] ys = 0 := rfl
    rw [e]
    simp
  | x :: xs, [], _, _ => by
    have e : NP.dot (x :: xs) [] = 0 := rfl
    rw [e]
    exact Int.mul_nonneg (Int.mul_nonneg (by decide) hb) (by omega)
  | x :: xs, y :: ys, hx, hy => by
    have ih := dot_le hb xs ys (fun z hz => hx z (List.mem_cons_of_mem _ hz)) fun z hz => hy z (List.mem_cons_of_mem _ hz)
    have e : NP.dot (x :: xs) (y :: ys) = x * y + NP.dot xs ys := rfl
    obtain ⟨x0, x2⟩ := hx x List.mem_cons_self
    obtain ⟨y0, yb⟩ := hy y List.mem_cons_self
    have a : x * y ≤ 2 * y := Int.mul_le_mul_of_nonneg_right x2 y0
    have e2 : 2 * b * (((x :: xs).length : Nat) : Int) = 2 * b * (xs.length : Int) + 2 * b := by
      rw [List.length_cons, Int.natCast_add, Int.mul_add, Int.natCast_one, Int.mul_one]
    rw [e, e2]
    omega
theorem tms_le {m : Nat} {p : Pc} (h : Pk m p) (hb : big p = false) {ys : List Int} {b : Int} (b0 : 0 ≤ b) (hy : ∀ y ∈ ys, 0 ≤ y ∧ y ≤ b) (hm : m ≤ 3) : 0 ≤ tms p ys ∧ tms p ys ≤ 2 + 6 * b := by
  obtain ⟨c2, x2⟩ := big_no hb
  have d0 := NP.dot_nn (xs := p.2.2) (fun x hx => (h.x x hx).1) fun y hy' => (hy y hy').1
  have d1 := dot_le b0 p.2.2 ys (fun x hx => ⟨(h.x x hx).1, x2 x hx⟩) hy
  have d2 : 2 * b * (p.2.2.length : Int) ≤ 2 * b * 3 := Int.mul_le_mul_of_nonneg_left (by rw [h.m]; omega) (by omega)
  have c0 := h.c0
  unfold tms
  omega
theorem V_ni {ps d : List Pc} (h : NI ps d []) {ys : List Int} (hy : ∀ y ∈ ys, 0 ≤ y) : NP.V ys d = NP.V ys ps := by
  have := h.v ys hy
  rw [List.append_nil] at this
  exact this.symm
theorem filter_nil {α : Type} {f : α → Bool} {l : List α} (h : l.filter f = []) : ∀ x ∈ l, f x = false := fun x hx => by
  cases e : f x with
  | false => rfl
  | true =>
    have : x ∈ l.filter f := List.mem_filter.mpr ⟨hx, e⟩
    rw [h] at this
    cases this
theorem filter_take {α : Type} (f : α → Bool) (l : List α) (k : Nat) {x : α} (e : l[k]? = some x) : (l.take (k + 1)).filter f = (l.take k).filter f ++ if f x = true then [x] else [] := by
  rw [List.take_add_one, e, List.filter_append]
  show _ ++ [x].filter f = _
  rw [List.filter_cons]
  rfl
end K5
set_option Elab.async false
set_option linter.all false
set_option maxRecDepth 100000
set_option maxHeartbeats 16000000
namespace K5
open PySem PySem.Spec PyProof.Rows L2 XV NP
abbrev sJG : Stmt := top 80
abbrev nJG : List Str := ["_law_generator_here", "_law_many", "_law_one", "_law_other", "_law_first", "_law_second", "_law_kept", "_law_point", "_law_at", "_law_piece_here"]
theorem scJG : FnScope nJG ["_law_generator_here", "_law_many", "_law_one", "_law_other"] (defScope sJG) := ⟨rfl, rfl, rfl, by decide +kernel, rfl, by decide +kernel, by decide +kernel⟩
def spJG : Sp := fun vs H Q _ => ∃ (g : Addr) (n m : Nat) (pl ql : Addr) (ps qs : List Pc), vs = [.ref g, .int m, .ref pl, .ref ql] ∧ m ≤ 3 ∧ PL H pl ps ∧ PL H ql qs ∧ (∀ p ∈ ps, Pk m p) ∧ (∀ p ∈ qs, Pk m p) ∧ ps.length ≤ 4 ∧ qs.length ≤ 4 ∧ Dr H g n ∧ n ≤ 500000 ∧ ∀ H', But H H' g → Dr H' g (n + 60) → Q (.bl true) H'
section
variable {P : Program} {w : World} {K : PySem.W.Frag} {mg : Str → Option Value} {base : Heap} {f : Addr} {fd : FuncData} {C : Addr}
theorem ok_jg (F : FnP K "_law_joined_good" sJG f fd) (T : TT K mg C) (o_mk : OkMkT P w K mg base C) (o_eq : OkEq P w K mg base C) (o_pieces : OkMt P w K mg base C "pieces" (spPiecesT C)) (o_made : Ok P w K mg base "_law_made_good" 11 ["_law_which", "_law_given", "_law_many", "_law_pieces_here"] (spMade C)) (o_rand : Ok P w K mg base "_law_random" 2 ["_law_generator_here", "_law_bound"] spRand)
    (o_wr : Ok P w K mg base "written" 5 ["text", "point"] (cm (spWritten K C))) (o_joined : Ok P w K mg base "joined" 8 ["one", "other"] (cm (spJoined K C))) (k_joined : OkK P w K mg base "joined" 8 ["one", "other"] (cm (spJoined K C))) (o_lwr : Ok P w K mg base "_law_written" 2 ["_law_pieces_here", "_law_point"] spLWritten)
    (z_list : mg "list" = none) (z_range : mg "range" = none) (z_max : mg "max" = none) : FnOk P w K mg base CX0 12 f fd ["_law_generator_here", "_law_many", "_law_one", "_law_other"] spJG := by
  have nd := scJG.nd
  refine F.ok scJG (fun vs H Q E h => ?_) (fun cdv A outer s H vs Q E hr h => ?_)
  · obtain ⟨g, n, m, pl, ql, ps, qs, rfl, _⟩ := h
    rfl
  · obtain ⟨g, n, m, pl, ql, ps, qs, rfl, hm, hL, hM, hk, hk2, l4, k4, dr, hn, q⟩ := h
    have szl := sizeLine_eq
    have hu := hr.units
    have hu2 : (A.deeper (envOfC "_law_joined_good" (defScope sJG) s.heap.objs.size f cdv)).units + 1 < cLine := by omega
    have r11 : Room 11 (A.deeper (envOfC "_law_joined_good" (defScope sJG) s.heap.objs.size f cdv)) := hr
    have r8 := r11.mono (by decide : 8 ≤ 11)
    have r7 := r11.mono (by decide : 7 ≤ 11)
    have r5 := r11.mono (by decide : 5 ≤ 11)
    have r2 := r11.mono (by decide : 2 ≤ 11)
    have r1 := r11.mono (by decide : 1 ≤ 11)
    refine ⟨_, PSs.nox (pss_cons (ps_par (i := 4) (j := 5) rfl nd rfl rfl (by decide) rfl rfl (pa_cons (pe_mkT o_mk r7 (by rfl) (pv 1) (pe_callTy call_list_of (by rfl) z_list (by decide +kernel) (pa_cons (pv 2) pa_nil))) (pa_cons (pe_mkT o_mk r7 (by rfl) (pv 1) (pe_callTy call_list_of (by rfl) z_list (by decide +kernel) (pa_cons (pv 3) pa_nil))) pa_nil)) (by rfl))
      (pss_cons (ps_set (i := 6) nd rfl (Or.inl rfl) (pe_lst (pa_cons (pe_piecesT o_pieces T (pv 4) r1) (pa_cons (pe_piecesT o_pieces T (pv 5) r1) pa_nil))))
      (pss_cons (ps_if (PW.pt (pw_or (pt_not (pt_val (pe_callO o_made r11 (by rfl) (pa_cons pe_int (pa_cons (pe_lst (pa_cons (pv 4) (pa_cons (pv 5) pa_nil))) (pa_cons (pv 1) (pa_cons (pe_op op_cat (pe_ix ix_list (pv 6) pe_int (fun _ _ => rfl)) (pe_ix ix_list (pv 6) pe_int (fun _ _ => rfl))) pa_nil)))))))
          (pw_or1 (pt_not (pt_val (pe_callO o_made r11 (by rfl) (pa_cons pe_int (pa_cons (pe_lst (pa_cons (pv 4) (pa_cons (pv 4) pa_nil))) (pa_cons (pv 1) (pa_cons (pe_op op_rep (pe_ix ix_list (pv 6) pe_int (fun _ _ => rfl)) pe_int) pa_nil)))))))))) (pss_one (ps_ret pe_bl)) pss_nil)
      (pss_cons (ps_setLc (i := 7) (own := [("_law_at", 8)]) (g := gName 8) (by rfl) nd rfl rfl (sw_true rfl rfl rfl (by decide +kernel)) (pi_range1 (by rfl) z_range (pa_cons (pv 1) pa_nil)) (blkOk_by (N := nJG) (sc := defScope sJG) (own := [("_law_at", 8)]) (by decide +kernel)) (fun _ _ _ _ _ => pg_name (i := 8) nd rfl (Or.inl rfl)) (fun _ _ _ _ _ => pts_nil)
          (fun _ _ _ _ _ => pe_callO o_rand r2 (by rfl) (pa_cons (pv 0) (pa_cons pe_int pa_nil))))
      (C8.pss_cut (ps_if (pt_cmpR (op_eqD hu) (pe_lc (own := [("_law_piece_here", 9)]) (g := gName 9) (by rfl) nd (pi_list (pe_op op_cat (pv 2) (pv 3))) (blkOk_by (N := nJG) (sc := defScope sJG) (own := [("_law_piece_here", 9)]) (by decide +kernel)) (fun _ _ _ _ _ => pg_name (i := 9) nd rfl (Or.inl rfl))
            (fun _ _ _ _ _ => pts_one (pt_cmpR op_gt (pe_callB (cr_maxTK (K := K) rfl rfl hu2) (by rfl) z_max (by decide +kernel) (pa_cons (pe_ix (ix_tupK (K := K) rfl) (pv 9) pe_int (fun _ _ => rfl)) pa_nil)) pe_int (nomark _))) (fun _ _ _ _ _ => pv 9)) (pe_lst pa_nil) (nomark _))
          (pss_one (ps_if (pt_cmpR op_ne (pe_callO o_wr r5 (by rfl) (pa_cons (pe_callK k_joined r8 (by rfl) (pk_cons (pv 5) (pk_cons (pv 4) pk_nil))) (pa_cons (pv 7) pa_nil))) (pe_op op_add_str (pe_callO o_lwr r2 (by rfl) (pa_cons (pv 2) (pa_cons (pv 7) pa_nil))) (pe_callO o_lwr r2 (by rfl) (pa_cons (pv 3) (pa_cons (pv 7) pa_nil)))) (nomark _)) (pss_one (ps_ret pe_bl)) pss_nil)) pss_nil)
      (pss_cons (ps_if (pt_not (pt_cmpR (op_eqT o_eq T r1) (pe_callO o_joined r8 (by rfl) (pa_cons (pv 4) (pa_cons (pv 5) pa_nil))) (pe_mkT o_mk r7 (by rfl) (pv 1) (pe_op op_cat (pv 2) (pv 3))) (nomark _))) (pss_one (ps_ret pe_bl)) pss_nil)
      (pss_one (ps_ret (pe_cmpR (op_eqD hu) (pe_lst (pa_cons (pe_piecesT o_pieces T (pv 4) r1) (pa_cons (pe_piecesT o_pieces T (pv 5) r1) pa_nil))) (pv 6) (nomark _)))))))))), ?_⟩
    have a0 : ∀ (x : L2.V) (r : List L2.V), atI (x :: r) ((0 : Nat) : Int) = some x := fun x r => atI_nat rfl
    have a1 : ∀ (x y : L2.V) (r : List L2.V), atI (x :: y :: r) ((1 : Nat) : Int) = some y := fun x y r => atI_nat rfl
    have m120 := pks_m30 hk
    have n120 := pks_m30 hk2
    -- the two texts
    obtain ⟨xs, hp, hP⟩ := id hL
    refine ⟨_, rfl, _, rfl, pl, xs, rfl, .inl (SqL.of hp), fun l1 nl1 => ?_⟩
    have s1 := same_new (o := .lst xs) nl1
    refine ⟨m, 200, l1, ps, rfl, rfl, hm, ⟨xs, upd_same, hP.keep s1⟩, pks_pq hk (by omega), by omega, fun H2 x d s2 nx hx ni ex ld dn => ?_⟩
    have S2 := s1.trans s2
    have tx : Td C H2 x m ps d := td_of hk l4 hx ni ex ld dn
    obtain ⟨ys, hp2, hP2⟩ := hM.keep S2
    refine ⟨_, rfl, _, rfl, ql, ys, rfl, .inl (SqL.of hp2), fun l2 nl2 => ?_⟩
    have s3 := same_new (o := .lst ys) nl2
    refine ⟨m, 200, l2, qs, rfl, rfl, hm, ⟨ys, upd_same, hP2.keep s3⟩, pks_pq hk2 (by omega), by omega, fun H4 y e s4 ny hy ni2 ex2 ld2 dn2 => ⟨_, _, rfl, ?_⟩⟩
    have S24 := s3.trans s4
    have S4 := S2.trans S24
    have ty : Td C H4 y m qs e := td_of hk2 k4 hy ni2 ex2 ld2 dn2
    have tx := tx.keep S24
    clear hp hP s1 s2 hx nl1 nx hp2 hP2 s3 s4 hy nl2 ny S2 S24 ni ex ld dn ni2 ex2 ld2 dn2
    -- what is kept
    refine ⟨_, rfl, x, m, d, rfl, tx.t.t, fun H5 p1 s5 np1 hp1 => ⟨_, rfl, y, m, e, rfl, ty.t.t.keep s5, fun H6 p2 s6 np2 hp2 => ⟨(by show 2 ≤ sizeLine; omega), fun kl nkl => ?_⟩⟩⟩
    have s7 := same_new (o := .lst [.ref p1, .ref p2]) nkl
    have hkl : (upd H6 kl (.lst [.ref p1, .ref p2])) kl = some (.lst [.ref p1, .ref p2]) := upd_same
    have hp1 := (hp1.keep s6).keep s7
    have hp2 := hp2.keep s7
    have S := (s5.trans s6).trans s7
    have tx := tx.keep S
    have ty := ty.keep S
    have S7 := S4.trans S
    generalize upd H6 kl (.lst [.ref p1, .ref p2]) = H7 at *
    clear s5 s6 s7 np1 np2 nkl S S4
    have ld := tx.t.l
    have le := ty.t.l
    -- the first question
    refine ⟨_, rfl, _, rfl, (by show 2 ≤ sizeLine; omega), fun ga nga => ?_⟩
    have s8 := same_new (o := .lst [.ref x, .ref y]) nga
    obtain ⟨us, e1, P1⟩ := hp1.keep s8
    obtain ⟨vs, e2, P2⟩ := hp2.keep s8
    have lu := P1.len
    have lv := P2.len
    refine ⟨_, rfl, _, rfl, kl, _, _, _, rfl, rfl, SqL.of (s8 _ _ hkl), a0 _ _, _, rfl, kl, _, _, _, rfl, rfl, SqL.of (s8 _ _ hkl), a1 _ _ _, p1, p2, us, vs, rfl, rfl, e1, e2, by omega, fun cl ncl => ?_⟩
    have s9 := same_new (o := .lst (us ++ vs)) ncl
    have pqJ : Pq m 400 (d ++ e) := tx.pq.app ty.pq (by omega)
    refine ⟨0, ga, _, m, 400, cl, d ++ e, rfl, s9 _ _ upd_same, .j ((tx.keep s8).keep s9).t ((ty.keep s8).keep s9).t hm pqJ (by rw [List.length_append]; omega), hm, ⟨_, upd_same, PL.app (P1.keep s9) (P2.keep s9)⟩, pqJ, fun H10 s10 => ⟨true, rfl, iteF ?_⟩⟩
    have S10 := (s8.trans s9).trans s10
    have hp1 := hp1.keep S10
    have hp2 := hp2.keep S10
    have hkl := S10 _ _ hkl
    have tx := tx.keep S10
    have ty := ty.keep S10
    have S7 := S7.trans S10
    clear s8 s9 s10 S10 e1 e2 P1 P2 nga ncl
    -- the second one
    refine ⟨_, rfl, _, rfl, (by show 2 ≤ sizeLine; omega), fun ga nga => ?_⟩
    have s8 := same_new (o := .lst [.ref x, .ref x]) nga
    obtain ⟨us, e1, P1⟩ := hp1.keep s8
    have lu := P1.len
    refine ⟨_, rfl, _, rfl, kl, _, _, _, rfl, rfl, SqL.of (s8 _ _ hkl), a0 _ _, p1, 2, us, rfl, rfl, e1, by decide, by decide, (by show us.length * 2 ≤ sizeLine; omega), fun cl ncl => ?_⟩
    have s9 := same_new (o := .lst (List.replicate (2 : Int).toNat us).flatten) ncl
    have er : rep 2 d = d ++ d := by
      show d ++ (d ++ []) = d ++ d
      rw [List.append_nil]
    have pqD : Pq m 400 (d ++ d) := tx.pq.app tx.pq (by omega)
    refine ⟨0, ga, _, m, 400, cl, d ++ d, rfl, s9 _ _ upd_same, .j ((tx.keep s8).keep s9).t ((tx.keep s8).keep s9).t hm pqD (by rw [List.length_append]; omega), hm, ⟨_, upd_same, by rw [← er]; exact (P1.keep s9).rep 2⟩, pqD, fun H10 s10 => ⟨true, rfl, iteF ?_⟩⟩
    have S10 := (s8.trans s9).trans s10
    have hp1 := hp1.keep S10
    have hp2 := hp2.keep S10
    have hkl := S10 _ _ hkl
    have tx := tx.keep S10
    have ty := ty.keep S10
    have S7 := S7.trans S10
    have d10 := dr_same dr S7
    clear s8 s9 s10 S10 e1 P1 nga ncl
    have gkl : kl ≠ g := fun z => by
      obtain ⟨_, _, _, h1, _⟩ := d10
      rw [z, h1] at hkl
      cases hkl
    -- the point
    have eM : ((m : Nat) : Int).toNat = m := rfl
    refine ⟨_, rfl, (m : Int), rfl, by omega, by omega, fun D nD => ?_⟩
    rw [eM]
    have gD := dr_neK d10 nD
    refine lc_range (lo := 0) (n := m) (fun i H' => But H10 H' g ∧ Dr H' g (n + 20 * i) ∧ ∃ is : List Int, is.length = i ∧ (∀ y ∈ is, 0 ≤ y ∧ y ≤ 2) ∧ H' D = some (.lst (is.map V.int))) ⟨Same.but (same_new nD), dr_newK d10 nD, [], rfl, (fun y hy => by cases hy), upd_same⟩ ?_ ?_
    · rintro i H' hi ⟨bt, dd, is, li, hs, hD⟩
      refine ⟨rfl, ?_⟩
      refine ⟨_, rfl, g, n + 20 * i, 3, rfl, dd, by omega, by decide, by decide +kernel, fun H5 v v0 v1 bt5 d5 => ?_⟩
      have hD5 := bt5 _ _ (Ne.symm gD) hD
      refine ⟨_, hD5, ?_, fun b o nb e => ?_, (dr_updK d5 gD).mono (by omega), is ++ [v], by rw [List.length_append, li]; rfl, fun y hy => ?_, ?_⟩
      · rw [List.length_map]
        exact small1000 (by omega)
      · rw [upd_ne (ne_of_none e nD)]
        exact bt5 _ _ nb (bt _ _ nb e)
      · rcases List.mem_append.mp hy with h | h
        · exact hs y h
        · rw [List.mem_singleton.mp h]
          omega
      · rw [upd_same, List.map_append]
        rfl
    rintro H11 ⟨bt11, d11, pt, lpt, spt, hD11⟩
    have B11 : But H H11 g := (Same.but S7).trans bt11
    have hp1 := hp1.but d10 bt11
    have hp2 := hp2.but d10 bt11
    have hkl := bt11 _ _ gkl hkl
    have tx := tx.but d10 bt11
    have ty := ty.but d10 bt11
    have hL11 := hL.but dr B11
    have hM11 := hM.but dr B11
    have spt4 : ∀ y ∈ pt, Sz 400 y := fun y hy => by
      have := spt y hy
      exact ⟨by omega, Int.lt_of_le_of_lt (b := 2) (by omega) (by decide +kernel)⟩
    have nnp : ∀ y ∈ pt, 0 ≤ y := fun y hy => (spt y hy).1
    clear bt11 S7 nD gD gkl
    -- the words
    refine ⟨fun σ' H' => σ' = [some (.ref g), some (.int m), some (.ref pl), some (.ref ql), some (.ref x), some (.ref y), some (.ref kl), some (.ref D), none, none] ∧ Same H11 H', ?_, ?_⟩
    · obtain ⟨us, e1, P1⟩ := id hL11
      obtain ⟨vs, e2, P2⟩ := id hM11
      have lu := P1.len
      have lv := P2.len
      refine ⟨_, rfl, _, rfl, pl, ql, us, vs, rfl, rfl, e1, e2, by omega, fun cl ncl => ⟨cl, rfl, ⟨_, SqL.of upd_same⟩, fun D2 nD2 => ?_⟩⟩
      have s12 := same_new (o := .lst (us ++ vs)) ncl
      have P12 := (PL.app P1 P2).keep s12
      have hcl : (upd H11 cl (.lst (us ++ vs))) cl = some (.lst (us ++ vs)) := upd_same
      generalize upd H11 cl (.lst (us ++ vs)) = H12 at *
      have l12 := P12.len
      refine lc_list (K := K) (a := cl) (xs := us ++ vs) (fun k H' => Same H12 H' ∧ ∃ acc, H' D2 = some (.lst acc) ∧ acc.length ≤ k ∧ Pcs H' acc (((ps ++ qs).take k).filter big)) ⟨same_new nD2, [], upd_same, Nat.le_refl _, .nil⟩ (fun k H' _ p => SqL.of (p.1 _ _ hcl)) ?_ ?_
      · rintro k v H' hk' ⟨sm, acc, hD2, lacc, hA⟩
        obtain ⟨p, ep, ⟨t, f1, rfl, ht, hf⟩⟩ := (P12.keep sm).get hk'
        have lk : k < (ps ++ qs).length := (List.getElem?_eq_some_iff.mp ep).1
        rw [List.length_append] at lk
        refine ⟨rfl, ?_⟩
        refine ⟨_, rfl, t, _, _, _, rfl, rfl, SqT.of ht, pc1 p f1, f1, p.2.1, p.2.2, rfl, SqT.of hf, _, _, rfl, rfl, _, rfl, ite2 (fun c => ?_) (fun c => ?_)⟩
        · refine ⟨_, rfl, acc, hD2, small1000 (by omega), fun b o e => ?_, acc ++ [.ref t], upd_same, by rw [List.length_append, List.length_singleton]; omega, ?_⟩
          · rw [upd_ne (ne_of_none (H := H12) e nD2)]
            exact sm _ _ e
          · rw [filter_take big _ k ep, show big p = true from c, if_pos rfl]
            exact Pcs.updL hD2 (Pcs.snoc ⟨t, f1, rfl, ht, hf⟩ hA)
        · refine ⟨sm, acc, hD2, by omega, ?_⟩
          rw [filter_take big _ k ep, if_neg (show ¬ big p = true from c), List.append_nil]
          exact hA
      · rintro H13 ⟨s13, acc, hD2, lacc, hA⟩
        rw [l12, List.take_length] at hA
        refine ⟨(by show 0 ≤ sizeLine; omega), fun e0 ne0 => ?_⟩
        have s14 := same_new (o := .lst []) ne0
        have abf : ∀ p ∈ (ps ++ qs).filter big, AB p.1 := fun p hp => by
          rcases List.mem_append.mp (List.mem_filter.mp hp).1 with h | h
          · exact (hk p h).w
          · exact (hk2 p h).w
        refine ⟨psD _, psD [], pl_dp ⟨acc, s14 _ _ hD2, hA.keep s14⟩, .lst (SqL.of upd_same) .nil, ps_shaped abf, ps_shaped (fun p hp => by cases hp), ?_⟩
        rw [eqv_D]
        have S14 : Same H11 (upd H13 e0 (.lst [])) := (s12.trans s13).trans s14
        generalize upd H13 e0 (.lst []) = H14 at *
        by_cases ef : (ps ++ qs).filter big = []
        · rw [decide_eq_true ef]
          refine ⟨true, rfl, iteT ?_⟩
          have nb := filter_nil ef
          have t1 : ∀ p ∈ ps, 0 ≤ tms p pt ∧ tms p pt ≤ 14 := fun p hp => tms_le (hk p hp) (nb p (List.mem_append_left _ hp)) (by decide) spt hm
          have t2 : ∀ p ∈ qs, 0 ≤ tms p pt ∧ tms p pt ≤ 14 := fun p hp => tms_le (hk2 p hp) (nb p (List.mem_append_right _ hp)) (by decide) spt hm
          have hjm : meas (d ++ e) ≤ 2000 := by
            have := tx.m120 hk l4
            have := ty.m120 hk2 k4
            rw [meas_app]
            omega
          -- the joined one
          refine ⟨_, rfl, _, rfl, rfl, .ref x, .ref y, rfl, .inr ⟨x, m, d, rfl, tx.t.t.keep S14, .inr ⟨y, m, e, rfl, ty.t.t.keep S14, .inr ⟨rfl, hm, 400, pqJ, fun gt => absurd hjm (by omega), fun _ H15 z jd s15 nz hz nij exj ldj dnj => ?_⟩⟩⟩⟩
          have S15 := S14.trans s15
          have dn8 := dnj.le (show 400 + 200 ≤ 800 by decide)
          have ljd : jd.length ≤ 90 := by
            rw [List.length_append] at ldj
            omega
          have eV : NP.V pt jd = NP.V pt ps ++ NP.V pt qs := by
            rw [V_ni nij nnp, V_app, V_ni tx.ni nnp, V_ni ty.ni nnp]
          have lV : (NP.V pt jd).length ≤ 20000 := by
            rw [eV, List.length_append]
            have a := V_len (b := 10) (c := 14) pt (fun p hp => (hk p hp).l) fun p hp => (t1 p hp).2
            have b := V_len (b := 10) (c := 14) pt (fun p hp => (hk2 p hp).l) fun p hp => (t2 p hp).2
            have a2 : 10 * 14 * ps.length ≤ 10 * 14 * 4 := Nat.mul_le_mul_left _ l4
            have b2 : 10 * 14 * qs.length ≤ 10 * 14 * 4 := Nat.mul_le_mul_left _ k4
            omega
          have eLR : lenR (jd.map (rn pt)) = (((NP.V pt jd).length : Nat) : Int) := lenR_V dn8.z nnp
          have isp : IsP H15 m (.ref D) true := by
            refine .inl ⟨D, _, rfl, S15 _ _ hD11, by rw [List.length_map, lpt]; omega, fun v hv => ?_, ?_⟩
            · obtain ⟨y, _, rfl⟩ := List.mem_map.mp hv
              exact .int y
            · have e : (pt.map L2.V.int).all cntV = true := List.all_eq_true.mpr fun v hv => by
                obtain ⟨y, hy, rfl⟩ := List.mem_map.mp hv
                exact decide_eq_true (nnp y hy)
              rw [e, List.length_map, lpt, decide_eq_true rfl]
              rfl
          refine ⟨_, rfl, .ref z, .ref D, rfl, .inr ⟨z, m, jd, true, rfl, hz, isp, .inr ⟨rfl, D, pt, ⟨rfl, S15 _ _ hD11, lpt, hm, spt4, dn8, ljd⟩, fun _ H16 zz s16 hzz => ?_, fun gt => ?_⟩⟩⟩
          · have S16 := S15.trans s16
            refine ⟨_, rfl, _, rfl, m, pl, D, ps, pt, rfl, hm, hL11.keep S16, hk, by omega, S16 _ _ hD11, lpt, spt4, fun p hp => ⟨(t1 p hp).1, by have := (t1 p hp).2; omega⟩, fun H17 w1 s17 hw1 => ?_⟩
            have S17 := S16.trans s17
            refine ⟨_, rfl, _, rfl, m, ql, D, qs, pt, rfl, hm, hM11.keep S17, hk2, by omega, S17 _ _ hD11, lpt, spt4, fun p hp => ⟨(t2 p hp).1, by have := (t2 p hp).2; omega⟩, fun H18 w2 s18 hw2 => ?_⟩
            have ew : zz = w1 ++ w2 := cs_ext (by rw [hzz, eV, cs_app, hw1, hw2])
            have lw1 := cs_len w1
            have lw2 := cs_len w2
            have lV1 : (NP.V pt ps).length + (NP.V pt qs).length ≤ 20000 := by
              rw [← List.length_append, ← eV]
              exact lV
            refine ⟨_, _, rfl, rfl, by rw [lw1, lw2, hw1, hw2]; omega, rfl, false, ?_, iteF ⟨rfl, S17.trans s18⟩⟩
            show V.bl (!decide (V.str zz = V.str (w1 ++ w2))) = V.bl false
            rw [ew, decide_eq_true rfl]
            rfl
          · rw [eLR] at gt
            omega
        · rw [decide_eq_false ef]
          exact ⟨false, rfl, iteF ⟨rfl, S14⟩⟩
    rintro σ' H12 ⟨rfl, s12⟩
    have tx := tx.keep s12
    have ty := ty.keep s12
    have hp1 := hp1.keep s12
    have hp2 := hp2.keep s12
    have hkl := s12 _ _ hkl
    have hjm : meas (d ++ e) ≤ 2000 := by
      have := tx.m120 hk l4
      have := ty.m120 hk2 k4
      rw [meas_app]
      omega
    refine ⟨_, rfl, _, rfl, .ref x, .ref y, rfl, .inr ⟨x, m, d, rfl, tx.t.t, .inr ⟨y, m, e, rfl, ty.t.t, .inr ⟨rfl, hm, 400, pqJ, fun gt => absurd hjm (by omega), fun _ H13 z jd s13 nz hz nij exj ldj dnj => ?_⟩⟩⟩⟩
    have S13 := s12.trans s13
    obtain ⟨us, e1, P1⟩ := hL11.keep S13
    obtain ⟨vs, e2, P2⟩ := hM11.keep S13
    have lu := P1.len
    have lv := P2.len
    have hk3 : ∀ p ∈ ps ++ qs, Pk m p := fun p hp => (List.mem_append.mp hp).elim (hk p) (hk2 p)
    have m240 := pks_m30 hk3
    rw [List.length_append] at m240
    refine ⟨_, rfl, _, rfl, _, rfl, pl, ql, us, vs, rfl, rfl, e1, e2, by omega, fun cl ncl => ?_⟩
    have s14 := same_new (o := .lst (us ++ vs)) ncl
    refine ⟨m, 200, cl, ps ++ qs, rfl, rfl, hm, ⟨_, upd_same, (PL.app P1 P2).keep s14⟩, pks_pq hk3 (by rw [List.length_append]; omega), by omega, fun H15 y2 kd s15 ny2 hy2 ni3 ex3 ld3 dn3 => ?_⟩
    have ekd : kd = jd := pi_inj (by
      rw [ex3, exj, List.map_append, List.map_append, tx.e, ty.e, N5.nrmC_app (pz_ok fun p hp => (hk p hp).pz) (pz_ok fun p hp => (hk2 p hp).pz)])
    subst ekd
    refine ⟨z, y2, m, kd, rfl, rfl, (hz.keep s14).keep s15, hy2, fun p hp => (dn3.w p hp).1, true, rfl, iteF ?_⟩
    have S15 := (s13.trans s14).trans s15
    have tx := tx.keep S15
    have ty := ty.keep S15
    have hp1 := hp1.keep S15
    have hp2 := hp2.keep S15
    have hkl := S15 _ _ hkl
    refine ⟨_, rfl, x, m, d, rfl, tx.t.t, fun H16 p3 s16 np3 hp3 => ⟨_, rfl, y, m, e, rfl, ty.t.t.keep s16, fun H17 p4 s17 np4 hp4 => ⟨(by show 2 ≤ sizeLine; omega), fun kl2 nkl2 => ?_⟩⟩⟩
    have s18 := same_new (o := .lst [.ref p3, .ref p4]) nkl2
    have S := (s16.trans s17).trans s18
    refine ⟨_, rfl, _, _, .lst (SqL.of upd_same) (.cons (pl_dp ((hp3.keep s17).keep s18)) (.cons (pl_dp (hp4.keep s18)) .nil)), .lst (SqL.of (S _ _ hkl)) (.cons (pl_dp (hp1.keep S)) (.cons (pl_dp (hp2.keep S)) .nil)), kD_sh tx.ab ty.ab, kD_sh tx.ab ty.ab, ?_⟩
    rw [eqv_tt (kD_sh tx.ab ty.ab)]
    have SS := (s12.trans S15).trans S
    exact q _ (B11.trans (Same.but SS)) (dr_same (d11.mono (by omega)) SS)
end
end K5
set_option Elab.async false
set_option linter.all false
set_option maxRecDepth 100000
set_option maxHeartbeats 16000000
namespace K5
open PySem PySem.Spec PyProof.Rows L2 XV NP
/-! ### repeated -/
abbrev sRG : Stmt := top 81
abbrev nRG : List Str := ["_law_generator_here", "_law_many", "_law_one", "_law_text", "_law_times", "_law_kept", "_law_great", "_law_told_here"]
theorem scRG : FnScope nRG ["_law_generator_here", "_law_many", "_law_one"] (defScope sRG) := ⟨rfl, rfl, rfl, by decide +kernel, rfl, by decide +kernel, by decide +kernel⟩
def spRG : Sp := fun vs H Q _ => ∃ (g : Addr) (n m : Nat) (pl : Addr) (ps : List Pc), vs = [.ref g, .int m, .ref pl] ∧ m ≤ 3 ∧ PL H pl ps ∧ (∀ p ∈ ps, Pk m p) ∧ ps.length ≤ 4 ∧ Dr H g n ∧ n ≤ 500000 ∧ ∀ H', But H H' g → Dr H' g (n + 40) → Q (.bl true) H'
def Ca (C : Addr) (H : Hp) (m : Nat) (d : List Pc) (G : Int) (u v : L2.V) : Prop := (d = [] ∧ ∃ z, u = .ref z ∧ v = .non ∧ Tx C H z m []) ∨ (d ≠ [] ∧ u = .non ∧ v = .int (meas d * G))
theorem Ca.keep {C : Addr} {H H' : Hp} (s : Same H H') {m : Nat} {d : List Pc} {G : Int} {u v : L2.V} (h : Ca C H m d G u v) : Ca C H' m d G u v := by
  rcases h with ⟨e, z, e1, e2, t⟩ | h
  · exact .inl ⟨e, z, e1, e2, t.keep s⟩
  · exact .inr h
theorem nrmC_nil (m : Nat) : N5.nrmC m ([] : List (N5.Pi Nat)) = [] := rfl
section
variable {P : Program} {w : World} {K : PySem.W.Frag} {mg : Str → Option Value} {base : Heap} {f : Addr} {fd : FuncData} {C : Addr}
theorem ok_rg (F : FnP K "_law_repeated_good" sRG f fd) (T : TT K mg C) (o_mk : OkMkT P w K mg base C) (o_eq : OkEq P w K mg base C) (o_pieces : OkMt P w K mg base C "pieces" (spPiecesT C)) (o_made : Ok P w K mg base "_law_made_good" 11 ["_law_which", "_law_given", "_law_many", "_law_pieces_here"] (spMade C)) (o_told : Ok P w K mg base "_law_told" 10 ["_law_which", "_law_given"] (spTold C)) (o_lmeas : Ok P w K mg base "_law_measure" 1 ["_law_pieces_here"] spLMeas)
    (o_rand : Ok P w K mg base "_law_random" 2 ["_law_generator_here", "_law_bound"] spRand) (o_rep : Ok P w K mg base "repeated" 8 ["text", "times"] (cm (spRepeated K C))) (k_rep : OkK P w K mg base "repeated" 8 ["text", "times"] (cm (spRepeated K C))) (z_list : mg "list" = none) : FnOk P w K mg base CX0 12 f fd ["_law_generator_here", "_law_many", "_law_one"] spRG := by
  have nd := scRG.nd
  refine F.ok scRG (fun vs H Q E h => ?_) (fun cdv A outer s H vs Q E hr h => ?_)
  · obtain ⟨g, n, m, pl, ps, rfl, _⟩ := h
    rfl
  · obtain ⟨g, n, m, pl, ps, rfl, hm, hL, hk, l4, dr, hn, q⟩ := h
    have szl := sizeLine_eq
    have hu := hr.units
    have r11 : Room 11 (A.deeper (envOfC "_law_repeated_good" (defScope sRG) s.heap.objs.size f cdv)) := hr
    have r10 := r11.mono (by decide : 10 ≤ 11)
    have r8 := r11.mono (by decide : 8 ≤ 11)
    have r7 := r11.mono (by decide : 7 ≤ 11)
    have r2 := r11.mono (by decide : 2 ≤ 11)
    have r1 := r11.mono (by decide : 1 ≤ 11)
    refine ⟨_, PSs.nox (pss_cons (ps_par (i := 3) (j := 4) rfl nd rfl rfl (by decide) rfl rfl (pa_cons (pe_mkT o_mk r7 (by rfl) (pv 1) (pe_callTy call_list_of (by rfl) z_list (by decide +kernel) (pa_cons (pv 2) pa_nil))) (pa_cons (pe_callO o_rand r2 (by rfl) (pa_cons (pv 0) (pa_cons pe_int pa_nil))) pa_nil)) (by rfl))
      (pss_cons (ps_set (i := 5) nd rfl (Or.inl rfl) (pe_piecesT o_pieces T (pv 3) r1))
      (pss_cons (ps_if (pt_not (pt_val (pe_callO o_made r11 (by rfl) (pa_cons pe_int (pa_cons (pe_lst (pa_cons (pv 3) (pa_cons (pv 4) pa_nil))) (pa_cons (pv 1) (pa_cons (pe_op op_rep (pv 5) (pv 4)) pa_nil))))))) (pss_one (ps_ret pe_bl)) pss_nil)
      (pss_cons (ps_set (i := 6) nd rfl (Or.inl rfl) (pe_op op_add pe_int (pe_callO o_rand r2 (by rfl) (pa_cons (pv 0) (pa_cons (pe_op op_pow pe_int pe_int) pa_nil)))))
      (C8.pss_cut (ps_set (i := 7) nd rfl (Or.inl rfl) (pe_callO o_told r10 (by rfl) (pa_cons pe_int (pa_cons (pe_lst (pa_cons (pv 3) (pa_cons (pv 6) pa_nil))) pa_nil))))
      (C8.pss_cut (ps_if (PW.pt (pw_and (pt_cmpR (op_eqD hu) (pv 5) (pe_lst pa_nil) (nomark _)) (pw_and1 (PW.pt (pw_or (pt_cmp (pc_notN (pe_ix ix_list (pv 7) pe_int (fun _ _ => rfl)))) (pw_or1 (pt_cmpR (op_neD hu) (pe_piecesT o_pieces T (pe_ix ix_list (pv 7) pe_int (fun _ _ => rfl)) r1) (pe_lst pa_nil) (nomark _)))))))) (pss_one (ps_ret pe_bl)) pss_nil)
      (C8.pss_cut (ps_if (PW.pt (pw_and (pt_cmpR (op_neD hu) (pv 5) (pe_lst pa_nil) (nomark _)) (pw_and1 (PW.pt (pw_or (pt_cmp (pc_notN (pe_ix ix_list (pv 7) pe_int (fun _ _ => rfl)))) (pw_or1 (pt_cmpR op_ne (pe_ix ix_list (pv 7) pe_int (fun _ _ => rfl)) (pe_op op_mulW (pe_callO o_lmeas r1 (by rfl) (pa_cons (pv 5) pa_nil)) (pv 6)) (nomark _)))))))) (pss_one (ps_ret pe_bl)) pss_nil)
      (pss_one (ps_ret (pe_and (pe_cmpR (op_eqD hu) (pe_piecesT o_pieces T (pe_callK k_rep r8 (by rfl) (pk_cons pe_int (pk_cons (pv 3) pk_nil))) r1) (pe_lst pa_nil) (nomark _)) (pe_and (pe_cmpR (op_eqT o_eq T r1) (pe_callO o_rep r8 (by rfl) (pa_cons (pv 3) (pa_cons pe_int pa_nil))) (pv 3) (nomark _))
        (pe_one (pe_cmpR (op_eqD hu) (pe_piecesT o_pieces T (pv 3) r1) (pv 5) (nomark _)))))))))))))), ?_⟩
    have a0 : ∀ (x : L2.V) (r : List L2.V), atI (x :: r) ((0 : Nat) : Int) = some x := fun x r => atI_nat rfl
    have a1 : ∀ (x y : L2.V) (r : List L2.V), atI (x :: y :: r) ((1 : Nat) : Int) = some y := fun x y r => atI_nat rfl
    have m120 := pks_m30 hk
    -- the text, how often
    obtain ⟨xs, hp, hP⟩ := id hL
    refine ⟨_, rfl, _, rfl, pl, xs, rfl, .inl (SqL.of hp), fun l1 nl1 => ?_⟩
    have s1 := same_new (o := .lst xs) nl1
    refine ⟨m, 200, l1, ps, rfl, rfl, hm, ⟨xs, upd_same, hP.keep s1⟩, pks_pq hk (by omega), by omega, fun H2 x d s2 nx hx ni ex ld dn => ?_⟩
    have S2 := s1.trans s2
    have tx : Td C H2 x m ps d := td_of hk l4 hx ni ex ld dn
    have d2 := dr_same dr S2
    refine ⟨_, rfl, g, n, 5, rfl, d2, by omega, by decide, by decide +kernel, fun H3 t t0 t5 bt3 d3 => ⟨_, _, rfl, ?_⟩⟩
    have tx := tx.but d2 bt3
    have B3 := (Same.but S2).trans bt3
    clear hp hP s1 s2 hx nl1 nx S2 ni ex ld dn bt3
    have ld := tx.t.l
    refine ⟨_, rfl, x, m, d, rfl, tx.t.t, fun H4 kp s4 nkp hkp => ?_⟩
    have tx := tx.keep s4
    -- the question
    refine ⟨_, rfl, _, rfl, (by show 2 ≤ sizeLine; omega), fun ga nga => ?_⟩
    have s5 := same_new (o := .lst [.ref x, .int t]) nga
    obtain ⟨us, e1, P1⟩ := hkp.keep s5
    have lu := P1.len
    have lt4 : t.toNat ≤ 4 := by omega
    have lr : t.toNat * d.length ≤ 36 := by
      have := Nat.mul_le_mul lt4 ld
      omega
    have lr2 : us.length * t.toNat ≤ 36 := by rw [lu, Nat.mul_comm]; exact lr
    refine ⟨_, rfl, _, rfl, _, rfl, kp, t, us, rfl, rfl, e1, by omega, by omega, by omega, fun cl ncl => ?_⟩
    have s6 := same_new (o := .lst (List.replicate t.toNat us).flatten) ncl
    have pqR : Pq m 400 (rep t.toNat d) := tx.pq.rep (by omega)
    refine ⟨1, ga, _, m, 400, cl, rep t.toNat d, rfl, s6 _ _ upd_same, .r ((tx.keep s5).keep s6).t (by decide) (by decide) hm ⟨t0, Int.lt_of_lt_of_le t5 (by decide +kernel)⟩ tx.pq pqR (by rw [rep_len]; omega), hm, ⟨_, upd_same, (P1.keep s6).rep _⟩, pqR, fun H7 s7 => ⟨true, rfl, iteF ?_⟩⟩
    have S7 := (s5.trans s6).trans s7
    have tx := tx.keep S7
    have hkp := hkp.keep S7
    have S47 := s4.trans S7
    have B7 := B3.trans (Same.but S47)
    have d7 := dr_same d3 S47
    clear s5 s6 s7 S7 e1 P1 nga ncl s4 S47 nkp
    -- the great number
    refine ⟨_, rfl, _, _, rfl, rfl, ⟨by decide, by decide, by decide⟩, g, n + 20, _, rfl, d7, by omega, (by show (0 : Int) < 10 ^ 29; decide +kernel), (by show (10 : Int) ^ 29 < 10 ^ 100; decide +kernel), fun H8 v v0 v1 bt8 d8 => ⟨_, _, rfl, rfl, ?_⟩⟩
    have hkp := hkp.but d7 bt8
    have tx := tx.but d7 bt8
    have B8 := B7.trans bt8
    obtain ⟨G, eG⟩ : ∃ G : Int, 2001 + v = G := ⟨_, rfl⟩
    have sG : Sz 1000 G := by
      have e29 : (10 : Int) ^ (29 : Int).toNat + 2001 < 2 ^ 1000 := by decide +kernel
      have v1 : v < (10 : Int) ^ (29 : Int).toNat := v1
      exact ⟨by omega, by omega⟩
    have G1 : 2001 ≤ G := by omega
    subst eG
    -- what is told of it
    refine ⟨fun σ' H' => ∃ (tl : Addr) (u w' : L2.V), σ' = [some (.ref g), some (.int m), some (.ref pl), some (.ref x), some (.int t), some (.ref kp), some (.int (2001 + v)), some (.ref tl)] ∧ Same H8 H' ∧ H' tl = some (.lst [u, w']) ∧ Ca C H' m d (2001 + v) u w', ?_, ?_⟩
    · refine ⟨_, rfl, _, rfl, (by show 2 ≤ sizeLine; omega), fun ga nga => ?_⟩
      have s9 := same_new (o := .lst [.ref x, .int (2001 + v)]) nga
      have tx9 := tx.keep s9
      by_cases ed : d = []
      · subst ed
        have pqn : Pq m 400 (rep (2001 + v).toNat ([] : List Pc)) := by
          rw [rep_nil]
          exact tx.pq
        refine ⟨1, ga, _, m, rep (2001 + v).toNat [], _, rfl, upd_same, .r tx9.t (by decide) (by decide) hm sG tx.pq pqn (by rw [rep_nil]; exact Nat.zero_le _), fun H10 tl u w' s10 _ htl res => ?_⟩
        refine ⟨tl, u, w', rfl, s9.trans s10, htl, .inl ⟨rfl, ?_⟩⟩
        rw [rep_nil] at res
        rcases res with ⟨gt, _⟩ | ⟨_, z, done, e1, e2, tz⟩
        · exact absurd gt (by show ¬ (2000 : Int) < 0; decide)
        · have : done = [] := List.map_eq_nil_iff.mp (tz.e.trans (nrmC_nil m))
          subst this
          exact ⟨z, e1, e2, tz.t⟩
      · have gt : 2000 < meas d * (2001 + v) := by
          have h1 := tx.one hk ed
          have : 1 * (2001 + v) ≤ meas d * (2001 + v) := Int.mul_le_mul_of_nonneg_right h1 (by omega)
          omega
        refine ⟨1, ga, _, m, [], _, rfl, upd_same, .g tx9.t hm sG tx.pq ed gt, fun H10 tl u w' s10 _ htl res => ?_⟩
        refine ⟨tl, u, w', rfl, s9.trans s10, htl, .inr ⟨ed, ?_⟩⟩
        rcases res with ⟨_, e1, e2⟩ | ⟨le, _⟩
        · exact ⟨e1, e2⟩
        · omega
    rintro σ' H9 ⟨tl, u, w', rfl, s9, htl, ca⟩
    have tx := tx.keep s9
    have hkp := hkp.keep s9
    have nilD : ∀ {Hc : Hp} {l : Addr}, Hc l = some (.lst []) → Dp K Hc (.ref l) (psD []) := fun {Hc l} e => .lst (SqL.of e) .nil
    have abn : ∀ p ∈ ([] : List Pc), AB p.1 := fun p hp => by cases hp
    refine ⟨fun σ' H' => σ' = [some (.ref g), some (.int m), some (.ref pl), some (.ref x), some (.int t), some (.ref kp), some (.int (2001 + v)), some (.ref tl)] ∧ Same H9 H', ?_, ?_⟩
    · refine ⟨_, rfl, (by show 0 ≤ sizeLine; omega), fun e0 ne0 => ?_⟩
      have s10 := same_new (o := .lst []) ne0
      refine ⟨psD d, psD [], pl_dp (hkp.keep s10), nilD upd_same, ps_shaped tx.ab, ps_shaped abn, ?_⟩
      rw [eqv_D]
      rcases ca with ⟨ed, z, rfl, rfl, tz⟩ | ⟨ed, rfl, rfl⟩
      · rw [decide_eq_true ed]
        refine ⟨true, rfl, iteT ?_⟩
        refine ⟨_, rfl, tl, _, _, _, rfl, rfl, SqL.of (s10 _ _ htl), a1 _ _ _, false, rfl, iteF ?_⟩
        refine ⟨_, rfl, tl, _, _, _, rfl, rfl, SqL.of (s10 _ _ htl), a0 _ _, z, m, [], rfl, tz.keep s10, fun H11 pz s11 npz hpz => ⟨(by show 0 ≤ sizeLine; omega), fun e1 ne1 => ?_⟩⟩
        have s12 := same_new (o := .lst []) ne1
        refine ⟨psD [], psD [], pl_dp (hpz.keep s12), nilD upd_same, ps_shaped abn, ps_shaped abn, ?_⟩
        rw [eqv_D, decide_eq_true rfl]
        exact ⟨false, rfl, iteF ⟨rfl, (s10.trans s11).trans s12⟩⟩
      · rw [decide_eq_false ed]
        exact ⟨false, rfl, iteF ⟨rfl, s10⟩⟩
    rintro σ' H10 ⟨rfl, s10⟩
    have tx := tx.keep s10
    have hkp := hkp.keep s10
    have htl := s10 _ _ htl
    have ca := ca.keep s10
    refine ⟨fun σ' H' => σ' = [some (.ref g), some (.int m), some (.ref pl), some (.ref x), some (.int t), some (.ref kp), some (.int (2001 + v)), some (.ref tl)] ∧ Same H10 H', ?_, ?_⟩
    · refine ⟨_, rfl, (by show 0 ≤ sizeLine; omega), fun e0 ne0 => ?_⟩
      have s11 := same_new (o := .lst []) ne0
      refine ⟨psD d, psD [], pl_dp (hkp.keep s11), nilD upd_same, ps_shaped tx.ab, ps_shaped abn, ?_⟩
      rw [eqv_D]
      rcases ca with ⟨ed, z, rfl, rfl, tz⟩ | ⟨ed, rfl, rfl⟩
      · rw [decide_eq_true ed]
        exact ⟨false, rfl, iteF ⟨rfl, s11⟩⟩
      · rw [decide_eq_false ed]
        refine ⟨true, rfl, iteT ?_⟩
        refine ⟨_, rfl, tl, _, _, _, rfl, rfl, SqL.of (s11 _ _ htl), a0 _ _, false, rfl, iteF ?_⟩
        refine ⟨_, rfl, tl, _, _, _, rfl, rfl, SqL.of (s11 _ _ htl), a1 _ _ _, _, rfl, m, 400, kp, d, rfl, hm, hkp.keep s11, tx.pq, fun H12 s12 => ⟨_, rfl, _, _, rfl, rfl, ?_, rfl, false, ?_, iteF ⟨rfl, s11.trans s12⟩⟩⟩
        · exact (sz_meas tx.pq.z tx.pq.w).mulW sG (by omega)
        · show V.bl (!decide (V.int (meas d * (2001 + v)) = V.int (meas d * (2001 + v)))) = V.bl false
          rw [decide_eq_true rfl]
          rfl
    rintro σ' H11 ⟨rfl, s11⟩
    have tx := tx.keep s11
    have hkp := hkp.keep s11
    have S11 := (s9.trans s10).trans s11
    have BB := B8.trans (Same.but S11)
    have dd := dr_same d8 S11
    -- none, once, and the pieces
    have er1 : rep 1 d = d := by
      show d ++ [] = d
      rw [List.append_nil]
    have pq1 : Pq m 400 (rep (1 : Int).toNat d) := by
      rw [show ((1 : Int)).toNat = 1 from rfl, er1]
      exact tx.pq
    refine ⟨_, rfl, rfl, .ref x, .int 0, rfl, .inr ⟨x, m, d, rfl, tx.t.t, .int 0, .inr ⟨0, 400, rfl, ⟨by decide, by decide +kernel⟩, hm, tx.pq, fun ed H12 s12 => ?_, fun _ gt => absurd gt (by rw [Int.mul_zero]; decide), fun _ _ => ⟨⟨by decide, fun p hp => (by cases hp), fun p hp => (by cases hp), Nat.zero_le _⟩, fun H12 z done s12 nz hz ni ex ld dn => ?_⟩⟩⟩⟩
    · have hz : Tx C H12 x m [] := by
        have := tx.t.t.keep s12
        rw [ed] at this
        exact this
      refine ⟨_, m, [], rfl, hz, fun H13 pz s13 npz hpz => ⟨(by show 0 ≤ sizeLine; omega), fun e1 ne1 => ?_⟩⟩
      have s14 := same_new (o := .lst []) ne1
      have S14 := (s12.trans s13).trans s14
      refine ⟨psD [], psD [], pl_dp (hpz.keep s14), nilD upd_same, ps_shaped abn, ps_shaped abn, ?_⟩
      rw [eqv_D, decide_eq_true rfl]
      refine ⟨true, rfl, iteT ?_⟩
      refine ⟨_, rfl, .ref x, .int 1, rfl, .inr ⟨x, m, d, rfl, tx.t.t.keep S14, .int 1, .inr ⟨1, 400, rfl, ⟨by decide, by decide +kernel⟩, hm, tx.pq, fun _ H15 s15 => ?_, fun _ gt => absurd gt (by rw [Int.mul_one]; have := tx.t.me; omega), fun _ _ => ⟨pq1, fun H15 z1 d1 s15 nz1 hz1 ni1 ex1 ld1 dn1 => ?_⟩⟩⟩⟩
      · have h1 := tx.t.t.keep (S14.trans s15)
        refine ⟨_, rfl, _, x, m, d, rfl, rfl, h1, tx.t.t.keep (S14.trans s15), tx.ab, true, rfl, iteT ?_⟩
        refine ⟨_, rfl, x, m, d, rfl, tx.t.t.keep (S14.trans s15), fun H16 p3 s16 np3 hp3 => ?_⟩
        have S16 := (S14.trans s15).trans s16
        refine ⟨_, rfl, psD d, psD d, pl_dp hp3, pl_dp (hkp.keep S16), ps_shaped tx.ab, ps_shaped tx.ab, ?_⟩
        rw [ps_eqv tx.ab]
        exact q H16 (BB.trans (Same.but S16)) (dr_same (dd.mono (by omega)) S16)
      · have ed1 : d1 = d := pi_inj (by rw [ex1, show ((1 : Int)).toNat = 1 from rfl, er1]; exact tx.t.n)
        rw [ed1] at hz1
        have h1 := hz1
        refine ⟨_, rfl, _, x, m, d, rfl, rfl, h1, tx.t.t.keep (S14.trans s15), tx.ab, true, rfl, iteT ?_⟩
        refine ⟨_, rfl, x, m, d, rfl, tx.t.t.keep (S14.trans s15), fun H16 p3 s16 np3 hp3 => ?_⟩
        have S16 := (S14.trans s15).trans s16
        refine ⟨_, rfl, psD d, psD d, pl_dp hp3, pl_dp (hkp.keep S16), ps_shaped tx.ab, ps_shaped tx.ab, ?_⟩
        rw [ps_eqv tx.ab]
        exact q H16 (BB.trans (Same.but S16)) (dr_same (dd.mono (by omega)) S16)
    · have e0 : done = [] := List.map_eq_nil_iff.mp (ex.trans (nrmC_nil m))
      subst e0
      refine ⟨_, m, [], rfl, hz, fun H13 pz s13 npz hpz => ⟨(by show 0 ≤ sizeLine; omega), fun e1 ne1 => ?_⟩⟩
      have s14 := same_new (o := .lst []) ne1
      have S14 := (s12.trans s13).trans s14
      refine ⟨psD [], psD [], pl_dp (hpz.keep s14), nilD upd_same, ps_shaped abn, ps_shaped abn, ?_⟩
      rw [eqv_D, decide_eq_true rfl]
      refine ⟨true, rfl, iteT ?_⟩
      refine ⟨_, rfl, .ref x, .int 1, rfl, .inr ⟨x, m, d, rfl, tx.t.t.keep S14, .int 1, .inr ⟨1, 400, rfl, ⟨by decide, by decide +kernel⟩, hm, tx.pq, fun _ H15 s15 => ?_, fun _ gt => absurd gt (by rw [Int.mul_one]; have := tx.t.me; omega), fun _ _ => ⟨pq1, fun H15 z1 d1 s15 nz1 hz1 ni1 ex1 ld1 dn1 => ?_⟩⟩⟩⟩
      · have h1 := tx.t.t.keep (S14.trans s15)
        refine ⟨_, rfl, _, x, m, d, rfl, rfl, h1, tx.t.t.keep (S14.trans s15), tx.ab, true, rfl, iteT ?_⟩
        refine ⟨_, rfl, x, m, d, rfl, tx.t.t.keep (S14.trans s15), fun H16 p3 s16 np3 hp3 => ?_⟩
        have S16 := (S14.trans s15).trans s16
        refine ⟨_, rfl, psD d, psD d, pl_dp hp3, pl_dp (hkp.keep S16), ps_shaped tx.ab, ps_shaped tx.ab, ?_⟩
        rw [ps_eqv tx.ab]
        exact q H16 (BB.trans (Same.but S16)) (dr_same (dd.mono (by omega)) S16)
      · have ed1 : d1 = d := pi_inj (by rw [ex1, show ((1 : Int)).toNat = 1 from rfl, er1]; exact tx.t.n)
        rw [ed1] at hz1
        have h1 := hz1
        refine ⟨_, rfl, _, x, m, d, rfl, rfl, h1, tx.t.t.keep (S14.trans s15), tx.ab, true, rfl, iteT ?_⟩
        refine ⟨_, rfl, x, m, d, rfl, tx.t.t.keep (S14.trans s15), fun H16 p3 s16 np3 hp3 => ?_⟩
        have S16 := (S14.trans s15).trans s16
        refine ⟨_, rfl, psD d, psD d, pl_dp hp3, pl_dp (hkp.keep S16), ps_shaped tx.ab, ps_shaped tx.ab, ?_⟩
        rw [ps_eqv tx.ab]
        exact q H16 (BB.trans (Same.but S16)) (dr_same (dd.mono (by omega)) S16)
end
end K5
set_option Elab.async false
set_option linter.all false
set_option maxRecDepth 100000
set_option maxHeartbeats 8000000
namespace K5
open PySem PySem.Spec PyProof.Rows L2 XV
/-! ### forms put into forms: the mathematics (as in k01) -/
/-- the sum of what stands at j in the forms, times the numbers -/
def colS (xs : List Int) (ns : List (List Int)) (j : Nat) : Int := (List.zipWith (· * ·) xs (ns.map fun n => n.getD j 0)).sum
theorem withV_eq (c : Int) (xs : List Int) (ns : List (List Int)) (j : Nat) : withV c xs ns j = (if j = 0 then c else 0) + colS xs ns j := by
  unfold withV colS
  rw [List.zipWith_map_right]
  congr 2
  exact congrArg (fun f => List.zipWith f xs ns) (funext fun x => funext fun n => Int.mul_comm _ _)
theorem dot_nil (ys : List Int) : K5.dot [] ys = 0 := rfl
theorem dot_cons (x y : Int) (xs ys : List Int) : K5.dot (x :: xs) (y :: ys) = x * y + K5.dot xs ys := rfl
theorem dot_nil' (xs : List Int) : K5.dot xs [] = 0 := by
  unfold K5.dot
  rw [List.zipWith_nil_right]
  rfl
theorem dot_lin (u v : Nat → Int) (x : Int) : ∀ (L : List Nat) (ys : List Int), K5.dot (L.map fun j => u j * x + v j) ys = x * K5.dot (L.map u) ys + K5.dot (L.map v) ys
  | [], ys => by simp [dot_nil]
  | j :: L, [] => by simp [dot_nil']
  | j :: L, y :: ys => by
    rw [List.map_cons, List.map_cons, List.map_cons, dot_cons, dot_cons, dot_cons, dot_lin u v x L ys, Int.mul_add, Int.add_mul]
    have e : u j * x * y = x * (u j * y) := by rw [Int.mul_comm (u j) x, Int.mul_assoc]
    omega
theorem dot_zero : ∀ (L : List Nat) (ys : List Int), K5.dot (L.map fun _ => (0 : Int)) ys = 0
  | [], ys => rfl
  | j :: L, [] => dot_nil' _
  | j :: L, y :: ys => by
    rw [List.map_cons, dot_cons, dot_zero L ys, Int.zero_mul, Int.add_zero]
theorem tail_map {m : Nat} {n : List Int} (h : n.length = m + 1) : n.tail = (List.range m).map fun j => n.getD (j + 1) 0 := by
  cases n with
  | nil => cases h
  | cons a n =>
    have l : n.length = m := by simpa using h
    show n = _
    refine List.ext_getElem (by simp [l]) fun i h1 h2 => ?_
    rw [List.getElem_map, List.getElem_range, List.getD_eq_getElem?_getD, List.getElem?_cons_succ, List.getElem?_eq_getElem h1]
    rfl
/-- a form's value -/
def valF (n ys : List Int) : Int := n.getD 0 0 + K5.dot n.tail ys
theorem ins_val (ys : List Int) (m : Nat) : ∀ (xs : List Int) (ns : List (List Int)), (∀ n ∈ ns, n.length = m + 1) → colS xs ns 0 + K5.dot ((List.range m).map fun j => colS xs ns (j + 1)) ys = K5.dot xs (ns.map fun n => valF n ys)
  | [], ns, _ => by
    have e : ∀ j, colS [] ns j = 0 := fun j => rfl
    rw [e, dot_nil, Int.zero_add]
    exact (congrArg (fun f => K5.dot ((List.range m).map f) ys) (funext fun j => e (j + 1))).trans (dot_zero _ _)
  | x :: xs, [], _ => by
    have e : ∀ j, colS (x :: xs) [] j = 0 := fun j => rfl
    rw [e, List.map_nil, dot_nil', Int.zero_add]
    exact (congrArg (fun f => K5.dot ((List.range m).map f) ys) (funext fun j => e (j + 1))).trans (dot_zero _ _)
  | x :: xs, n :: ns, h => by
    have ih := ins_val ys m xs ns fun z hz => h z (List.mem_cons_of_mem _ hz)
    have hn := h n List.mem_cons_self
    have e : ∀ j, colS (x :: xs) (n :: ns) j = n.getD j 0 * x + colS xs ns j := fun j => by
      show x * n.getD j 0 + colS xs ns j = _
      rw [Int.mul_comm]
    have e2 : ((List.range m).map fun j => colS (x :: xs) (n :: ns) (j + 1)) = (List.range m).map fun j => n.getD (j + 1) 0 * x + colS xs ns (j + 1) := congrArg (fun f => (List.range m).map f) (funext fun j => e (j + 1))
    rw [e2, e, dot_lin (fun j => n.getD (j + 1) 0) (fun j => colS xs ns (j + 1)), List.map_cons, dot_cons, ← ih]
    show _ = x * (n.getD 0 0 + K5.dot n.tail ys) + _
    rw [tail_map hn, Int.mul_add, Int.mul_comm x (n.getD 0 0)]
    omega
/-- the value of an inserted form -/
theorem found_val (c : Int) (xs : List Int) (ns : List (List Int)) (ys : List Int) (m : Nat) (h : ∀ n ∈ ns, n.length = m + 1) :
    withV c xs ns 0 + K5.dot ((List.range m).map fun j => withV c xs ns (j + 1)) ys = c + K5.dot xs (ns.map fun n => valF n ys) := by
  have e : ((List.range m).map fun j => withV c xs ns (j + 1)) = (List.range m).map fun j => colS xs ns (j + 1) := congrArg (fun f => (List.range m).map f) (funext fun j => by rw [withV_eq, if_neg (by omega), Int.zero_add])
  rw [e, withV_eq, if_pos rfl, ← ins_val ys m xs ns h]
  omega
theorem found_list (c : Int) (xs : List Int) (ns : List (List Int)) (m : Nat) : (List.range (m + 1)).map (withV c xs ns) = withV c xs ns 0 :: (List.range m).map fun j => withV c xs ns (j + 1) := by
  rw [List.range_succ_eq_map, List.map_cons, List.map_map]
  rfl
theorem found_due (c : Int) (xs : List Int) (ns : List (List Int)) (m : Nat) : (List.range (m + 1)).map (withV c xs ns) = [c + colS xs ns 0] ++ (List.range m).map fun j => colS xs ns (j + 1) := by
  rw [found_list, withV_eq, if_pos rfl]
  refine congrArg (fun l => (c + colS xs ns 0) :: l) ?_
  exact congrArg (fun f => (List.range m).map f) (funext fun j => by rw [withV_eq, if_neg (by omega), Int.zero_add])
theorem sz_dot {k l : Nat} : ∀ (xs ys : List Int), (∀ x ∈ xs, Sz k x) → (∀ y ∈ ys, Sz l y) → Sz (k + l + xs.length) (K5.dot xs ys)
  | [], ys, _, _ => Sz.zero _
  | x :: xs, [], _, _ => by
    rw [dot_nil']
    exact Sz.zero _
  | x :: xs, y :: ys, hx, hy => by
    rw [dot_cons]
    have a := ((hx x List.mem_cons_self).mul (hy y List.mem_cons_self)).le (Nat.le_add_right (k + l) xs.length)
    have b := sz_dot xs ys (fun z hz => hx z (List.mem_cons_of_mem _ hz)) fun z hz => hy z (List.mem_cons_of_mem _ hz)
    exact a.add b
theorem sz_getD {k : Nat} {n : List Int} (h : ∀ x ∈ n, Sz k x) (j : Nat) : Sz k (n.getD j 0) := by
  rw [List.getD_eq_getElem?_getD]
  cases e : n[j]? with
  | none => exact Sz.zero k
  | some y => exact h y (List.mem_of_getElem? e)
theorem sz_colS {k l : Nat} {xs : List Int} {ns : List (List Int)} (hx : ∀ x ∈ xs, Sz k x) (hn : ∀ n ∈ ns, ∀ x ∈ n, Sz l x) (j : Nat) : Sz (k + l + xs.length) (colS xs ns j) := by
  refine sz_dot xs (ns.map fun n => n.getD j 0) hx fun y hy => ?_
  obtain ⟨n, hn2, rfl⟩ := List.mem_map.mp hy
  exact sz_getD (hn n hn2) j
theorem sz_withV {k l : Nat} {c : Int} {xs : List Int} {ns : List (List Int)} (hc : Sz (k + l + xs.length) c) (hx : ∀ x ∈ xs, Sz k x) (hn : ∀ n ∈ ns, ∀ x ∈ n, Sz l x) (j : Nat) : Sz (k + l + xs.length + 1) (withV c xs ns j) := by
  rw [withV_eq]
  refine Sz.add ?_ (sz_colS hx hn j)
  by_cases e : j = 0
  · rw [if_pos e]
    exact hc
  · rw [if_neg e]
    exact Sz.zero _

open NP
theorem dot_same (xs ys : List Int) : NP.dot xs ys = K5.dot xs ys := rfl
theorem led_tms {m : Nat} (fl : List (List Int)) (p : Pc) (ys : List Int) (h : ∀ n ∈ fl, n.length = m + 1) : tms (led m fl p) ys = tms p (fl.map fun n => valF n ys) := by
  show withV p.2.1 p.2.2 fl 0 + K5.dot ((List.range m).map fun j => withV p.2.1 p.2.2 fl (j + 1)) ys = p.2.1 + K5.dot p.2.2 _
  exact found_val p.2.1 p.2.2 fl ys m h
theorem led_V {m : Nat} (fl : List (List Int)) (ys : List Int) (h : ∀ n ∈ fl, n.length = m + 1) (ps : List Pc) : NP.V ys (ps.map (led m fl)) = NP.V (fl.map fun n => valF n ys) ps := by
  unfold NP.V
  rw [List.flatMap_map]
  exact congrArg (fun f => ps.flatMap f) (funext fun p => by
    show pw (cs p.1) (tms (led m fl p) ys).toNat = _
    rw [led_tms fl p ys h])
/-- the forms that the law draws -/
structure Fb (mo : Nat) (fs : List (Addr × List Int)) : Prop where
  l : ∀ p ∈ fs, p.2.length = mo + 1
  z : ∀ p ∈ fs, ∀ x ∈ p.2, Sz 40 x
  c : ∀ p ∈ fs, p.2.getD 0 0 ≤ 2
theorem Fb.fl {mo : Nat} {fs : List (Addr × List Int)} (h : Fb mo fs) : (∀ n ∈ fls fs, n.length = mo + 1) ∧ (∀ n ∈ fls fs, ∀ x ∈ n, Sz 40 x) ∧ ∀ n ∈ fls fs, 0 ≤ n.getD 0 0 ∧ n.getD 0 0 ≤ 2 := by
  refine ⟨fun n hn => ?_, fun n hn => ?_, fun n hn => ?_⟩ <;> obtain ⟨p, hp, rfl⟩ := List.mem_map.mp hn
  · exact h.l p hp
  · exact h.z p hp
  · exact ⟨(sz_getD (h.z p hp) 0).1, h.c p hp⟩
theorem pz_led {m mo k : Nat} {fs : List (Addr × List Int)} (hb : Fb mo fs) (lf : fs.length = m) (hm : m ≤ 3) {p : Pc} (h : Pz m k p) : Pz mo (k + 44) (led mo (fls fs) p) := by
  have lx := h.l
  have w := sz_withV (k := k) (l := 40) (c := p.2.1) (xs := p.2.2) (ns := fls fs) (Sz.le h.c (by omega)) h.x hb.fl.2.1
  refine ⟨Sz.le (w 0) (by omega), ?_, fun x hx => ?_⟩
  · show ((List.range mo).map _).length = mo
    rw [List.length_map, List.length_range]
  · obtain ⟨j, _, rfl⟩ := List.mem_map.mp hx
    exact Sz.le (w (j + 1)) (by omega)
theorem pq_led {m mo k : Nat} {fs : List (Addr × List Int)} (hb : Fb mo fs) (lf : fs.length = m) (hm : m ≤ 3) {d : List Pc} (h : Pq m k d) (hk : k + 44 ≤ 600) : Pq mo (k + 44) (d.map (led mo (fls fs))) := by
  refine ⟨hk, fun q hq => ?_, fun q hq => ?_, by rw [List.length_map]; exact h.l⟩ <;> obtain ⟨p, hp, rfl⟩ := List.mem_map.mp hq
  · exact pz_led hb lf hm (h.z p hp)
  · exact h.w p hp
/-! the forms that change nothing -/
def unitF (m i : Nat) : List Int := 0 :: (List.range m).map fun j => if j = i then 1 else 0
theorem unit_getD (m i j : Nat) (hj : j < m) : (unitF m i).getD (j + 1) 0 = if j = i then 1 else 0 := by
  show (((List.range m).map fun j => if j = i then (1 : Int) else 0)).getD j 0 = _
  rw [List.getD_eq_getElem?_getD, List.getElem?_map, List.getElem?_range hj]
  rfl
theorem unit_zip (m j : Nat) (hj : j < m) : ∀ (xs : List Int) (i0 : Nat), (List.zipWith (fun x n => (n : List Int).getD (j + 1) 0 * x) xs ((List.range' i0 xs.length).map (unitF m))).sum = if i0 ≤ j ∧ j < i0 + xs.length then xs.getD (j - i0) 0 else 0
  | [], i0 => by
    rw [if_neg (by simp)]
    rfl
  | x :: xs, i0 => by
    have ih := unit_zip m j hj xs (i0 + 1)
    rw [List.length_cons, List.range'_succ, List.map_cons, List.zipWith_cons_cons, List.sum_cons, ih, unit_getD m i0 j hj]
    by_cases c : j = i0
    · subst c
      rw [if_pos rfl, if_neg (by omega), if_pos (by omega), Nat.sub_self, Int.one_mul, Int.add_zero]
      rfl
    · rw [if_neg c, Int.zero_mul, Int.zero_add]
      by_cases c2 : i0 + 1 ≤ j ∧ j < i0 + 1 + xs.length
      · rw [if_pos c2, if_pos (by omega), show j - i0 = (j - (i0 + 1)) + 1 by omega, List.getD_cons_succ]
      · rw [if_neg c2, if_neg (by omega)]
theorem led_unit {m k : Nat} {p : Pc} (h : Pz m k p) : led m ((List.range m).map (unitF m)) p = p := by
  have lx := h.l
  have er : (List.range m).map (unitF m) = (List.range' 0 p.2.2.length).map (unitF m) := by rw [lx, List.range_eq_range']
  have e0 : withV p.2.1 p.2.2 ((List.range m).map (unitF m)) 0 = p.2.1 := by
    unfold withV
    rw [if_pos rfl]
    have z : (List.zipWith (fun x n => (n : List Int).getD 0 0 * x) p.2.2 ((List.range m).map (unitF m))).sum = 0 := by
      have : ∀ (xs : List Int) (L : List Nat), (List.zipWith (fun x n => (n : List Int).getD 0 0 * x) xs (L.map (unitF m))).sum = 0 := fun xs => by
        induction xs with
        | nil => intro L; rfl
        | cons x xs ih =>
          intro L
          cases L with
          | nil => rfl
          | cons a L =>
            rw [List.map_cons, List.zipWith_cons_cons, List.sum_cons, ih L]
            show (0 : Int) * x + 0 = 0
            rw [Int.zero_mul]
            rfl
      exact this _ _
    rw [z, Int.add_zero]
  have e1 : ((List.range m).map fun j => withV p.2.1 p.2.2 ((List.range m).map (unitF m)) (j + 1)) = p.2.2 := by
    have g := range_getD lx
    rw [← g]
    have : ∀ j ∈ List.range m, withV p.2.1 ((List.range m).map fun j => p.2.2.getD j 0) ((List.range m).map (unitF m)) (j + 1) = p.2.2.getD j 0 := fun j hj => by
      have hj := List.mem_range.mp hj
      rw [g]
      unfold withV
      rw [if_neg (Nat.succ_ne_zero j), Int.zero_add, er, unit_zip m j hj, if_pos (by omega), Nat.sub_zero]
    exact List.map_congr_left this
  show (p.1, withV p.2.1 p.2.2 ((List.range m).map (unitF m)) 0, _) = p
  rw [e0, e1]
theorem led_units {m k : Nat} : ∀ {ps : List Pc}, (∀ p ∈ ps, Pz m k p) → ps.map (led m ((List.range m).map (unitF m))) = ps
  | [], _ => rfl
  | p :: ps, h => by
    rw [List.map_cons, led_unit (h p List.mem_cons_self), led_units fun q hq => h q (List.mem_cons_of_mem _ hq)]
/-! the measure of what is led -/
theorem dz_le {fl : List (List Int)} (hf : ∀ n ∈ fl, 0 ≤ n.getD 0 0 ∧ n.getD 0 0 ≤ 2) : ∀ {xs : List Int}, (∀ x ∈ xs, 0 ≤ x) → 0 ≤ colS xs fl 0 ∧ colS xs fl 0 ≤ 2 * xs.sum := by
  induction fl with
  | nil =>
    intro xs hx
    have e : colS xs [] 0 = 0 := dot_nil' xs
    have := sum_nn hx
    omega
  | cons n fl ih =>
    intro xs hx
    cases xs with
    | nil =>
      have e : colS [] (n :: fl) 0 = 0 := rfl
      rw [e]
      exact ⟨Int.le_refl _, Int.le_refl _⟩
    | cons x xs =>
      obtain ⟨i1, i2⟩ := ih (fun z hz => hf z (List.mem_cons_of_mem _ hz)) (xs := xs) fun z hz => hx z (List.mem_cons_of_mem _ hz)
      obtain ⟨n0, n2⟩ := hf n List.mem_cons_self
      have x0 := hx x List.mem_cons_self
      have e : colS (x :: xs) (n :: fl) 0 = x * n.getD 0 0 + colS xs fl 0 := rfl
      have a := Int.mul_nonneg x0 n0
      have b : x * n.getD 0 0 ≤ x * 2 := Int.mul_le_mul_of_nonneg_left n2 x0
      rw [e, List.sum_cons]
      omega
theorem colS_zero {fl : List (List Int)} (j : Nat) : ∀ {xs : List Int}, (∀ x ∈ xs, x = 0) → colS xs fl j = 0 := by
  induction fl with
  | nil => exact fun {xs} _ => dot_nil' xs
  | cons n fl ih =>
    intro xs hx
    cases xs with
    | nil => rfl
    | cons x xs =>
      have e : colS (x :: xs) (n :: fl) j = x * n.getD j 0 + colS xs fl j := rfl
      rw [e, ih fun z hz => hx z (List.mem_cons_of_mem _ hz), hx x List.mem_cons_self, Int.zero_mul]
      rfl
theorem me_led {m mo k : Nat} {fl : List (List Int)} (hf : ∀ n ∈ fl, 0 ≤ n.getD 0 0 ∧ n.getD 0 0 ≤ 2) {p : Pc} (h : Pz m k p) : me1 (led mo fl p) ≤ me1 p + 2 * ((p.1.length : Int) * tms p (one m)) := by
  obtain ⟨z0, z2⟩ := dz_le hf (xs := p.2.2) fun x hx => (h.x x hx).1
  have et : tms p (one m) = p.2.1 + p.2.2.sum := (tms_one h.l).trans (by
    show (p.2.1 :: p.2.2).sum = _
    rw [List.sum_cons])
  have c0 := h.c.1
  have fl1 : (if (∀ x ∈ (led mo fl p).2.2, x = 0) then (0 : Int) else 1) ≤ if (∀ x ∈ p.2.2, x = 0) then 0 else 1 := by
    by_cases c : ∀ x ∈ p.2.2, x = 0
    · have c2 : ∀ x ∈ (led mo fl p).2.2, x = 0 := fun x hx => by
        obtain ⟨j, _, rfl⟩ := List.mem_map.mp hx
        rw [withV_eq, if_neg (Nat.succ_ne_zero j), colS_zero (j + 1) c]
        rfl
      rw [if_pos c, if_pos c2]
      exact Int.le_refl _
    · rw [if_neg c]
      split <;> decide
  have ec : (led mo fl p).2.1 = p.2.1 + colS p.2.2 fl 0 := by
    show withV p.2.1 p.2.2 fl 0 = _
    rw [withV_eq, if_pos rfl]
  have lw : (0 : Int) ≤ (p.1.length : Int) := by omega
  show (p.1.length : Int) * ((led mo fl p).2.1 + if (∀ x ∈ (led mo fl p).2.2, x = 0) then 0 else 1) ≤ (p.1.length : Int) * (p.2.1 + if (∀ x ∈ p.2.2, x = 0) then 0 else 1) + _
  have inner : (led mo fl p).2.1 + (if (∀ x ∈ (led mo fl p).2.2, x = 0) then (0 : Int) else 1) ≤ (p.2.1 + if (∀ x ∈ p.2.2, x = 0) then (0 : Int) else 1) + 2 * tms p (one m) := by
    rw [ec, et]
    omega
  have := Int.mul_le_mul_of_nonneg_left inner lw
  rw [Int.mul_add (p.1.length : Int) (p.2.1 + if (∀ x ∈ p.2.2, x = 0) then (0 : Int) else 1) (2 * tms p (one m))] at this
  have e : (p.1.length : Int) * (2 * tms p (one m)) = 2 * ((p.1.length : Int) * tms p (one m)) := by
    rw [← Int.mul_assoc, Int.mul_comm (p.1.length : Int) 2, Int.mul_assoc]
  rw [e] at this
  exact this
theorem meas_led {m mo k : Nat} {fl : List (List Int)} (hf : ∀ n ∈ fl, 0 ≤ n.getD 0 0 ∧ n.getD 0 0 ≤ 2) : ∀ {d : List Pc}, (∀ p ∈ d, Pz m k p) → meas (d.map (led mo fl)) ≤ meas d + 2 * lenR (d.map (rn (one m)))
  | [], _ => by
    show (0 : Int) ≤ 0 + 2 * 0
    decide
  | p :: d, h => by
    have a := me_led (mo := mo) hf (h p List.mem_cons_self)
    have b := meas_led (mo := mo) hf fun q hq => h q (List.mem_cons_of_mem _ hq)
    have e1 : meas ((p :: d).map (led mo fl)) = me1 (led mo fl p) + meas (d.map (led mo fl)) := by
      unfold meas
      rw [List.map_cons, List.map_cons, List.sum_cons]
    have e2 : meas (p :: d) = me1 p + meas d := by
      unfold meas
      rw [List.map_cons, List.sum_cons]
    have e3 : lenR ((p :: d).map (rn (one m))) = (p.1.length : Int) * tms p (one m) + lenR (d.map (rn (one m))) := by
      unfold lenR
      rw [List.map_cons, List.map_cons, List.sum_cons]
      rfl
    rw [e1, e2, e3]
    omega
theorem Td.led {C : Addr} {H : Hp} {x : Addr} {m mo : Nat} {ps d : List Pc} (h : Td C H x m ps d) (hk : ∀ p ∈ ps, Pk m p) (l4 : ps.length ≤ 4) (hm : m ≤ 3) (nb : ∀ p ∈ ps, big p = false) {fl : List (List Int)} (hf : ∀ n ∈ fl, 0 ≤ n.getD 0 0 ∧ n.getD 0 0 ≤ 2) : meas (d.map (led mo fl)) ≤ 2000 := by
  have a := meas_led (mo := mo) hf h.t.d.z
  have nn : ∀ y ∈ K5.one m, 0 ≤ y := fun y hy => (one_sz m y hy).1
  rw [lenR_V h.t.d.z nn, V_ni h.ni nn] at a
  have o1 : ∀ y ∈ K5.one m, 0 ≤ y ∧ y ≤ (1 : Int) := fun y hy => by
    rw [(List.mem_replicate.mp hy).2]
    decide
  have b := V_len (b := 10) (c := 8) (K5.one m) (fun p hp => (hk p hp).l) fun p hp => (tms_le (hk p hp) (nb p hp) (by decide) o1 hm).2
  have c : 10 * 8 * ps.length ≤ 10 * 8 * 4 := Nat.mul_le_mul_left _ l4
  have e := h.m120 hk l4
  omega
end K5
set_option Elab.async false
set_option linter.all false
set_option maxRecDepth 100000
set_option maxHeartbeats 16000000
namespace K5
open PySem PySem.Spec PyProof.Rows L2 XV NP
abbrev sPG : Stmt := top 82
abbrev nPG : List Str := ["_law_generator_here", "_law_many", "_law_one", "_law_other", "_law_forms", "_law_at", "_law_text", "_law_given", "_law_kept", "_law_plain", "_law_point", "_law_values", "_law_place", "_law_number", "_law_form", "_law_piece_here"]
theorem scPG : FnScope nPG ["_law_generator_here", "_law_many", "_law_one"] (defScope sPG) := ⟨rfl, rfl, rfl, by decide +kernel, rfl, by decide +kernel, by decide +kernel⟩
abbrev scP1 : Scope := { kind := .function, names := [(Str.ofString ".0", .local), (Str.ofString "_law_at", .cell), (Str.ofString "tuple", .globalImplicit), (Str.ofString "range", .globalImplicit), (Str.ofString "_law_many", .cell)], isGenerator := false, isCoroutine := false }
abbrev scP2 : Scope := { kind := .function, names := [(Str.ofString ".0", .local), (Str.ofString "_law_place", .local), (Str.ofString "int", .globalImplicit), (Str.ofString "_law_at", .free)], isGenerator := false, isCoroutine := false }
theorem call_tuple_ofK {X : Cx} {K : PySem.W.Frag} (e : X.K = K) : CallR X (.type "tuple") (fun xs H Q => ∃ p ys, xs = [V.ref p] ∧ ((SqL K H p ys ∧ ∀ t, H t = none → Q (.ref t) (upd H t (.tup ys))) ∨ (SqT K H p ys ∧ Q (.ref p) H))) := by
  subst e
  exact call_tuple_of
theorem blk_p : BlkOk nPG scP1 scP2 [("_law_place", 12)] := blkOk_by (by decide +kernel)
def spPG : Sp := fun vs H Q _ => ∃ (g : Addr) (n m : Nat) (pl : Addr) (ps : List Pc), vs = [.ref g, .int m, .ref pl] ∧ m ≤ 3 ∧ PL H pl ps ∧ (∀ p ∈ ps, Pk m p) ∧ ps.length ≤ 4 ∧ Dr H g n ∧ n ≤ 500000 ∧ ∀ H', But H H' g → Dr H' g (n + 1000) → Q (.bl true) H'
def fD (fs : List (Addr × List Int)) : PyData := .list (fs.map fun p => .tuple (p.2.map PyData.int))
theorem fd_lay : ∀ fs : List (Addr × List Int), PyData.canLayAll0 (fs.map fun p => PyData.tuple (p.2.map PyData.int)) = true
  | [] => by simp [PyData.canLayAll0]
  | p :: fs => by simp [PyData.canLayAll0, PyData.canLay0, lay_ints, fd_lay fs]
theorem fd_depth : ∀ fs : List (Addr × List Int), PyData.depthAll (fs.map fun p => PyData.tuple (p.2.map PyData.int)) ≤ 1
  | [] => by simp [PyData.depthAll]
  | p :: fs => by
    have := fd_depth fs
    simp only [List.map_cons, PyData.depthAll, PyData.depth, depth_ints]
    omega
theorem fd_sh (fs : List (Addr × List Int)) : SeqAt.shaped (fD fs) = true := by
  have h := fd_depth fs
  have e : (fD fs).depth ≤ 64 := by
    simp only [fD, PyData.depth]
    omega
  unfold SeqAt.shaped
  rw [decide_eq_true e, Bool.and_true]
  simp [fD, PyData.canLay0, fd_lay fs]
theorem fs_dpA {K : PySem.W.Frag} {H : Hp} : ∀ {fs : List (Addr × List Int)}, (∀ p ∈ fs, H p.1 = some (.tup (p.2.map L2.V.int))) → DpAll K H (fs.map fun p => L2.V.ref p.1) (fs.map fun p => PyData.tuple (p.2.map PyData.int))
  | [], _ => .nil
  | p :: fs, h => .cons (.tup (SqT.of (h p List.mem_cons_self)) (dp_ints _)) (fs_dpA fun q hq => h q (List.mem_cons_of_mem _ hq))
theorem fs_dp {K : PySem.W.Frag} {H : Hp} {la : Addr} {m : Nat} {fs : List (Addr × List Int)} (h : Fs H la m fs) : Dp K H (.ref la) (fD fs) := .lst (SqL.of h.1) (fs_dpA fun p hp => (h.2 p hp).1)
/-- the list of the forms that are drawn -/
structure Fl (H : Hp) (F : Addr) (mo : Nat) (fs : List (Addr × List Int)) : Prop where
  l : H F = some (.lst (fs.map fun p => L2.V.ref p.1))
  t : ∀ p ∈ fs, H p.1 = some (.tup (p.2.map L2.V.int))
  b : Fb mo fs
theorem Fl.keep {H H' : Hp} (s : Same H H') {F : Addr} {mo : Nat} {fs : List (Addr × List Int)} (h : Fl H F mo fs) : Fl H' F mo fs := ⟨s _ _ h.l, fun p hp => s _ _ (h.t p hp), h.b⟩
theorem Fl.but {H H' : Hp} {g F : Addr} {n mo : Nat} {fs : List (Addr × List Int)} (h : Fl H F mo fs) (d : Dr H g n) (b : But H H' g) (ne : F ≠ g) : Fl H' F mo fs := ⟨b _ _ ne h.l, fun p hp => dr_tupK d b (h.t p hp), h.b⟩
theorem Fl.fs {H : Hp} {F : Addr} {mo : Nat} {fs : List (Addr × List Int)} (h : Fl H F mo fs) : Fs H F mo fs := ⟨h.l, fun p hp => ⟨h.t p hp, h.b.l p hp, fun x hx => Sz.le (h.b.z p hp x hx) (by decide)⟩⟩
theorem Fl.at {H : Hp} {F a : Addr} {mo : Nat} {fs : List (Addr × List Int)} (h : Fl H F mo fs) (e : H a = some (.lst (fs.map fun p => L2.V.ref p.1))) : Fl H a mo fs := ⟨e, h.t, h.b⟩
section
variable {P : Program} {w : World} {K : PySem.W.Frag} {mg : Str → Option Value} {base : Heap} {f : Addr} {fd : FuncData} {C : Addr}
theorem ok_pg (F : FnP K "_law_replaced_good" sPG f fd) (T : TT K mg C) (o_mk : OkMkT P w K mg base C) (o_eq : OkEq P w K mg base C) (o_pieces : OkMt P w K mg base C "pieces" (spPiecesT C)) (o_made : Ok P w K mg base "_law_made_good" 11 ["_law_which", "_law_given", "_law_many", "_law_pieces_here"] (spMade C)) (o_lled : Ok P w K mg base "_law_led" 1 ["_law_pieces_here", "_law_many", "_law_forms"] spLLed)
    (o_rand : Ok P w K mg base "_law_random" 2 ["_law_generator_here", "_law_bound"] spRand) (o_replaced : Ok P w K mg base "replaced" 9 ["text", "many", "forms"] (cm (spReplaced K C))) (k_replaced : OkK P w K mg base "replaced" 9 ["text", "many", "forms"] (cm (spReplaced K C))) (o_val : Ok P w K mg base "_law_value" 1 ["_law_form", "_law_point"] spFormValue)
    (o_wr : Ok P w K mg base "written" 5 ["text", "point"] (cm (spWritten K C))) (o_lwr : Ok P w K mg base "_law_written" 2 ["_law_pieces_here", "_law_point"] spLWritten) (z_list : mg "list" = none) (z_range : mg "range" = none) (z_max : mg "max" = none) (z_tuple : mg "tuple" = none) (z_int : mg "int" = none) :
    FnOk P w K mg base CX0 12 f fd ["_law_generator_here", "_law_many", "_law_one"] spPG := by
  have nd := scPG.nd
  refine F.ok scPG (fun vs H Q E h => ?_) (fun cdv A outer s H vs Q E hr h => ?_)
  · obtain ⟨g, n, m, pl, ps, rfl, _⟩ := h
    rfl
  · obtain ⟨g, n, m, pl, ps, rfl, hm, hL, hk, l4, dr, hn, q⟩ := h
    have szl := sizeLine_eq
    have hu := hr.units
    have hu2 : (A.deeper (envOfC "_law_replaced_good" (defScope sPG) s.heap.objs.size f cdv)).units + 1 < cLine := by omega
    have r11 : Room 11 (A.deeper (envOfC "_law_replaced_good" (defScope sPG) s.heap.objs.size f cdv)) := hr
    have r9 := r11.mono (by decide : 9 ≤ 11)
    have r7 := r11.mono (by decide : 7 ≤ 11)
    have r5 := r11.mono (by decide : 5 ≤ 11)
    have r2 := r11.mono (by decide : 2 ≤ 11)
    have r1 := r11.mono (by decide : 1 ≤ 11)
    refine ⟨_, PSs.nox (pss_cons (ps_par (i := 3) (j := 4) rfl nd rfl rfl (by decide) rfl rfl (pa_cons (pe_callO o_rand r2 (by rfl) (pa_cons (pv 0) (pa_cons pe_int pa_nil))) (pa_cons (pe_lst pa_nil) pa_nil)) (by rfl))
      (C8.pss_cut (ps_for PassesOwn.never rfl (pi_range1 (by rfl) z_range (pa_cons (pv 1) pa_nil)) (pg_name (i := 5) nd rfl (Or.inl rfl))
        (pss_cons (ps_expr (pe_bm PySem.F.plainAttrs_list PySem.F.slot_list_append PySem.F.type_list_append mt_append (pv 4) (pa_cons (pe_callTy call_tuple_of (by rfl) z_tuple (by decide +kernel) (pa_cons
            (pe_lc (own := [("_law_place", 12)]) (g := gName 12) (by rfl) nd (pi_range1 (by rfl) z_range (pa_cons (pe_op op_add (pv 3) pe_int) pa_nil)) (blkOk_by (N := nPG) (sc := defScope sPG) (own := [("_law_place", 12)]) (by decide +kernel)) (fun _ _ _ _ _ => pg_name (i := 12) nd rfl (Or.inl rfl)) (fun _ _ _ _ _ => pts_nil)
              (fun _ _ _ _ _ => pe_callO o_rand r2 (by rfl) (pa_cons (pv 0) (pa_cons pe_int pa_nil)))) pa_nil)) pa_nil)))
        (pss_one (ps_if (pt_cmpR op_eq (pe_callO o_rand r2 (by rfl) (pa_cons (pv 0) (pa_cons pe_int pa_nil))) pe_int (nomark _))
          (pss_one (ps_asg (pe_op op_catS (pe_slice sl_tupS (pe_ix ix_list (pv 4) (pv 5) (fun _ _ => rfl)) po_none (po_some pe_int)) (pe_callTy call_tuple_of (by rfl) z_tuple (by decide +kernel) (pa_cons
            (pe_lc (own := [("_law_number", 13)]) (g := gName 13) (by rfl) nd (pi_tup (pe_slice sl_tupS (pe_ix ix_list (pv 4) (pv 5) (fun _ _ => rfl)) (po_some pe_int) po_none)) (blkOk_by (N := nPG) (sc := defScope sPG) (own := [("_law_number", 13)]) (by decide +kernel)) (fun _ _ _ _ _ => pg_name (i := 13) nd rfl (Or.inl rfl)) (fun _ _ _ _ _ => pts_nil)
              (fun _ _ _ _ _ => pe_op op_mulW (pv 13) (pe_op op_add (pe_callO o_rand r2 (by rfl) (pa_cons (pv 0) (pa_cons (pe_op op_pow pe_int pe_int) pa_nil))) pe_int))) pa_nil))) (pg_sub (pv 4) (pv 5) set_list))) pss_nil))))
      (pss_cons (ps_par (i := 6) (j := 7) rfl nd rfl rfl (by decide) rfl rfl (pa_cons (pe_mkT o_mk r7 (by rfl) (pv 1) (pe_callTy call_list_of (by rfl) z_list (by decide +kernel) (pa_cons (pv 2) pa_nil))) (pa_cons (pe_callTy call_list_of (by rfl) z_list (by decide +kernel) (pa_cons (pv 4) pa_nil)) pa_nil)) (by rfl))
      (pss_cons (ps_set (i := 8) nd rfl (Or.inl rfl) (pe_piecesT o_pieces T (pv 6) r1))
      (pss_cons (ps_if (PW.pt (pw_or (pt_not (pt_val (pe_callO o_made r11 (by rfl) (pa_cons pe_int (pa_cons (pe_lst (pa_cons (pv 6) (pa_cons (pv 3) (pa_cons (pv 7) pa_nil)))) (pa_cons (pv 3) (pa_cons (pe_callO o_lled r1 (by rfl) (pa_cons (pv 8) (pa_cons (pv 3) (pa_cons (pv 4) pa_nil)))) pa_nil)))))))
          (pw_or (pt_cmpR (op_neD hu) (pv 7) (pv 4) (nomark _)) (pw_or1 (pt_cmpR (op_neD hu) (pe_piecesT o_pieces T (pv 6) r1) (pv 8) (nomark _)))))) (pss_one (ps_ret pe_bl)) pss_nil)
      (pss_cons (ps_setLc (i := 9) (own := [("_law_at", 5)]) (g := gName 5) (by rfl) nd rfl rfl (sw_true rfl rfl rfl (by decide +kernel)) (pi_range1 (by rfl) z_range (pa_cons (pv 1) pa_nil)) (blkOk_by (N := nPG) (sc := defScope sPG) (own := [("_law_at", 5)]) (by decide +kernel)) (fun _ _ _ _ _ => pg_name (i := 5) nd rfl (Or.inr rfl)) (fun _ _ _ _ _ => pts_nil)
          (fun _ _ _ _ _ => pe_callTy (call_tuple_ofK (K := K) rfl) (by rfl) z_tuple (by decide +kernel) (pa_cons (pe_op op_cat (pe_lst (pa_cons pe_int pa_nil))
            (pe_lc (own := [("_law_place", 12)]) (g := gName 12) (by rfl) nd (pi_range1 (by rfl) z_range (pa_cons (pv 1) pa_nil)) blk_p (fun _ _ _ _ _ => pg_name (i := 12) nd rfl (Or.inl rfl)) (fun _ _ _ _ _ => pts_nil)
              (fun _ _ _ _ _ => pe_callTy call_int1 (by rfl) z_int (by decide +kernel) (pa_cons (pe_cmpR op_eq (pv 12) (pv 5) (nomark _)) pa_nil)))) pa_nil)))
      (pss_cons (ps_if (PW.pt (pw_or (pt_not (pt_cmpR (op_eqT o_eq T r1) (pe_callO o_replaced r9 (by rfl) (pa_cons (pv 6) (pa_cons (pv 1) (pa_cons (pv 9) pa_nil)))) (pv 6) (nomark _)))
          (pw_or1 (pt_not (pt_val (pe_callO o_made r11 (by rfl) (pa_cons pe_int (pa_cons (pe_lst (pa_cons (pv 6) (pa_cons (pv 3) (pa_cons (pv 7) pa_nil)))) (pa_cons (pv 3) (pa_cons (pe_callO o_lled r1 (by rfl) (pa_cons (pv 8) (pa_cons (pv 3) (pa_cons (pv 4) pa_nil)))) pa_nil)))))))))) (pss_one (ps_ret pe_bl)) pss_nil)
      (pss_cons (ps_set (i := 10) nd rfl (Or.inr rfl) (pe_lc (own := [("_law_at", 5)]) (g := gName 5) (by rfl) nd (pi_range1 (by rfl) z_range (pa_cons (pv 3) pa_nil)) (blkOk_by (N := nPG) (sc := defScope sPG) (own := [("_law_at", 5)]) (by decide +kernel)) (fun _ _ _ _ _ => pg_name (i := 5) nd rfl (Or.inl rfl)) (fun _ _ _ _ _ => pts_nil)
          (fun _ _ _ _ _ => pe_callO o_rand r2 (by rfl) (pa_cons (pv 0) (pa_cons pe_int pa_nil)))))
      (pss_cons (ps_setLc (i := 11) (own := [("_law_form", 14)]) (g := gName 14) (by rfl) nd rfl rfl (sw_true rfl rfl rfl (by decide +kernel)) (pi_list (pv 4)) (blkOk_by (N := nPG) (sc := defScope sPG) (own := [("_law_form", 14)]) (by decide +kernel)) (fun _ _ _ _ _ => pg_name (i := 14) nd rfl (Or.inl rfl)) (fun _ _ _ _ _ => pts_nil)
          (fun _ _ _ _ _ => pe_callO o_val r1 (by rfl) (pa_cons (pv 14) (pa_cons (pv 10) pa_nil))))
      (pss_cons (ps_if (PW.pt (pw_and (pt_cmpR (op_eqD hu) (pe_lc (own := [("_law_piece_here", 15)]) (g := gName 15) (by rfl) nd (pi_list (pv 2)) (blkOk_by (N := nPG) (sc := defScope sPG) (own := [("_law_piece_here", 15)]) (by decide +kernel)) (fun _ _ _ _ _ => pg_name (i := 15) nd rfl (Or.inl rfl))
            (fun _ _ _ _ _ => pts_one (pt_cmpR op_gt (pe_callB (cr_maxTK (K := K) rfl rfl hu2) (by rfl) z_max (by decide +kernel) (pa_cons (pe_ix (ix_tupK (K := K) rfl) (pv 15) pe_int (fun _ _ => rfl)) pa_nil)) pe_int (nomark _))) (fun _ _ _ _ _ => pv 15)) (pe_lst pa_nil) (nomark _))
          (pw_and1 (pt_cmpR op_lt (pe_callB (cr_maxLK (K := K) rfl rfl hu2) (by rfl) z_max (by decide +kernel) (pa_cons (pe_op op_cat (pv 11) (pe_lst (pa_cons pe_int pa_nil))) pa_nil)) pe_int (nomark _)))))
          (pss_one (ps_ret (pe_cmpR op_eq (pe_callO o_wr r5 (by rfl) (pa_cons (pe_callK k_replaced r9 (by rfl) (pk_cons (pv 7) (pk_cons (pv 3) (pk_cons (pv 6) pk_nil)))) (pa_cons (pv 10) pa_nil))) (pe_callO o_lwr r2 (by rfl) (pa_cons (pv 2) (pa_cons (pv 11) pa_nil))) (nomark _)))) pss_nil)
      (pss_one (ps_ret pe_bl)))))))))))), ?_⟩
    have a0 : ∀ (x : L2.V) (r : List L2.V), atI (x :: r) ((0 : Nat) : Int) = some x := fun x r => atI_nat rfl
    have m120 := pks_m30 hk
    have eM : ((m : Nat) : Int).toNat = m := rfl
    -- how many unknowns, no forms yet
    refine ⟨_, rfl, g, n, 4, rfl, dr, by omega, by decide, by decide +kernel, fun H1 mo' mo0 mo4 bt1 d1 => ⟨(by show 0 ≤ sizeLine; omega), fun F nF => ⟨_, _, rfl, ?_⟩⟩⟩
    obtain ⟨mo, rfl⟩ := Int.eq_ofNat_of_zero_le mo0
    have hmo : mo ≤ 3 := by omega
    have gF := dr_neK d1 nF
    have nFH : H F = none := by
      cases e : H F with
      | none => rfl
      | some o =>
        have := bt1 _ _ (Ne.symm gF) e
        rw [nF] at this
        cases this
    have s2 := same_new (o := .lst []) nF
    have fl2 : Fl (upd H1 F (.lst [])) F mo [] := ⟨upd_same, fun p hp => (by cases hp), ⟨fun p hp => (by cases hp), fun p hp => (by cases hp), fun p hp => (by cases hp)⟩⟩
    have d2 := dr_same d1 s2
    have B2 : But H (upd H1 F (.lst [])) g := bt1.trans (Same.but s2)
    generalize upd H1 F (.lst []) = H2 at *
    -- the forms
    refine ⟨fun σ' H' => ∃ (x5 : Option L2.V) (fs : List (Addr × List Int)), σ' = [some (.ref g), some (.int m), some (.ref pl), some (.int (mo : Int)), some (.ref F), x5, none, none, none, none, none, none, none, none, none, none] ∧ But H H' g ∧ Dr H' g (n + 20 + 200 * m) ∧ fs.length = m ∧ Fl H' F mo fs, ?_, ?_⟩
    · refine ⟨_, rfl, (m : Int), rfl, by omega, by omega, ?_⟩
      rw [eM]
      refine for_range (lo := 0) (n := m) (fun i σ' H' => ∃ (x5 : Option L2.V) (fs : List (Addr × List Int)), σ' = [some (.ref g), some (.int m), some (.ref pl), some (.int (mo : Int)), some (.ref F), x5, none, none, none, none, none, none, none, none, none, none] ∧ But H H' g ∧ Dr H' g (n + 20 + 200 * i) ∧ fs.length = i ∧ Fl H' F mo fs) ⟨_, [], rfl, B2, d2, rfl, fl2⟩ ?_ (fun σ' H' z => z)
      rintro i σ' H3 hi ⟨x5, fs, rfl, B3, d3, lfs, fl3⟩
      rw [Int.zero_add]
      have eO : ((mo : Int) + 1).toNat = mo + 1 := by omega
      refine ⟨_, rfl, .inl ⟨rfl, _, SqL.of fl3.l⟩, _, rfl, _, _, rfl, rfl, (mo : Int) + 1, rfl, by omega, by omega, fun D nD => ?_⟩
      rw [eO]
      have gD := dr_neK d3 nD
      refine lc_range (lo := 0) (n := mo + 1) (fun j H' => But H3 H' g ∧ Dr H' g (n + 20 + 200 * i + 20 * j) ∧ ∃ is : List Int, is.length = j ∧ (∀ y ∈ is, 0 ≤ y ∧ y ≤ 2) ∧ H' D = some (.lst (is.map V.int))) ⟨Same.but (same_new nD), dr_newK d3 nD, [], rfl, (fun y hy => by cases hy), upd_same⟩ ?_ ?_
      · rintro j H' hj ⟨bt, dd, is, li, hs, hD⟩
        refine ⟨rfl, ?_⟩
        refine ⟨_, rfl, g, n + 20 + 200 * i + 20 * j, 3, rfl, dd, by omega, by decide, by decide +kernel, fun H5 v v0 v1 bt5 d5 => ?_⟩
        have hD5 := bt5 _ _ (Ne.symm gD) hD
        refine ⟨_, hD5, ?_, fun b o nb e => ?_, (dr_updK d5 gD).mono (by omega), is ++ [v], by rw [List.length_append, li]; rfl, fun y hy => ?_, ?_⟩
        · rw [List.length_map]
          exact small1000 (by omega)
        · rw [upd_ne (ne_of_none e nD)]
          exact bt5 _ _ nb (bt _ _ nb e)
        · rcases List.mem_append.mp hy with h | h
          · exact hs y h
          · rw [List.mem_singleton.mp h]
            omega
        · rw [upd_same, List.map_append]
          rfl
      rintro H4 ⟨bt4, d4, is, lis, sis, hD⟩
      have fl4 := fl3.but d3 bt4 (Ne.symm gF)
      refine ⟨D, _, rfl, .inl ⟨SqL.of hD, fun t nt => ?_⟩⟩
      have s5 := same_new (o := .tup (is.map V.int)) nt
      have fl5 := fl4.keep s5
      have ht5 : (upd H4 t (.tup (is.map V.int))) t = some (.tup (is.map V.int)) := upd_same
      have d5 := dr_same d4 s5
      have B5 : But H (upd H4 t (.tup (is.map V.int))) g := (B3.trans bt4).trans (Same.but s5)
      generalize upd H4 t (.tup (is.map V.int)) = H5 at *
      refine ⟨F, _, _, rfl, rfl, fl5.l, small1000 (by rw [List.length_map]; omega), ?_⟩
      have bis : Fb mo (fs ++ [(t, is)]) := by
        refine ⟨fun p hp => ?_, fun p hp => ?_, fun p hp => ?_⟩ <;> rcases List.mem_append.mp hp with h | h
        · exact fl3.b.l p h
        · rw [List.mem_singleton.mp h]
          exact lis
        · exact fl3.b.z p h
        · rw [List.mem_singleton.mp h]
          exact fun x hx => ⟨(sis x hx).1, Int.lt_of_le_of_lt (sis x hx).2 (by decide)⟩
        · exact fl3.b.c p h
        · rw [List.mem_singleton.mp h]
          show is.getD 0 0 ≤ 2
          rw [List.getD_eq_getElem?_getD]
          cases e : is[0]? with
          | none => decide
          | some x => exact (sis x (List.mem_of_getElem? e)).2
      have fl6 : Fl (upd H5 F (.lst (fs.map (fun p => V.ref p.1) ++ [.ref t]))) F mo (fs ++ [(t, is)]) := by
        refine ⟨by rw [upd_same, List.map_append]; rfl, fun p hp => ?_, bis⟩
        rcases List.mem_append.mp hp with h | h
        · have e := fl5.t p h
          rw [upd_ne (ne_of e fl5.l (by intro z; cases z))]
          exact e
        · rw [List.mem_singleton.mp h]
          rw [upd_ne (ne_of ht5 fl5.l (by intro z; cases z))]
          exact ht5
      have d6 : Dr (upd H5 F (.lst (fs.map (fun p => V.ref p.1) ++ [.ref t]))) g (n + 20 + 200 * i + 20 * (mo + 1)) := dr_updK d5 gF
      have B6 : But H (upd H5 F (.lst (fs.map (fun p => V.ref p.1) ++ [.ref t]))) g := fun b o nb e => by
        rw [upd_ne (ne_of_none e nFH)]
        exact B5 _ _ nb e
      generalize upd H5 F (.lst (fs.map (fun p => V.ref p.1) ++ [.ref t])) = H6 at *
      refine ⟨_, rfl, g, n + 20 + 200 * i + 20 * (mo + 1), 8, rfl, d6, by omega, by decide, by decide +kernel, fun H7 u u0 u8 bt7 d7 => ⟨rfl, _, rfl, ite2 (fun _ => ?_) (fun _ => ?_)⟩⟩
      · have fl7 := fl6.but d6 bt7 (Ne.symm gF)
        have B7 := B6.trans bt7
        obtain ⟨c0, xs, rfl⟩ : ∃ c0 xs, is = c0 :: xs := by
          cases is with
          | nil => cases lis
          | cons c0 xs => exact ⟨c0, xs, rfl⟩
        have lxs : xs.length = mo := by simpa using lis
        have ht7 := fl7.t (t, c0 :: xs) (List.mem_append_right _ List.mem_cons_self)
        have ati : ∀ z : Addr × List Int, atI ((fs ++ [z]).map fun p => V.ref p.1) (i : Int) = some (V.ref z.1) := fun z => atI_nat (by
          rw [List.map_append, List.getElem?_append_right (by rw [List.length_map]; omega), List.length_map, lfs, Nat.sub_self]
          rfl)
        refine ⟨_, rfl, _, rfl, F, _, _, _, rfl, rfl, SqL.of fl7.l, ati _, _, rfl, t, _, rfl, ht7, fun H8 w1 s8 hw1 => ?_⟩
        have fl8 := fl7.keep s8
        have ht8 := s8 _ _ ht7
        refine ⟨_, rfl, _, rfl, F, _, _, _, rfl, rfl, SqL.of fl8.l, ati _, _, rfl, t, _, rfl, ht8, fun H9 w2 s9 hw2 => ?_⟩
        have hw2 : H9 w2 = some (.tup (xs.map V.int)) := hw2.trans (congrArg (fun z => some (HO.tup z)) (cut_rest c0 xs))
        have hw1 : H8 w1 = some (.tup [V.int c0]) := hw1.trans (congrArg (fun z => some (HO.tup z)) (cut_first (c0 :: xs)))
        have d9 := (dr_same d7 s8)
        have d9 := dr_same d9 s9
        refine ⟨w2, rfl, ⟨_, SqT.of hw2⟩, fun D2 nD2 => ?_⟩
        have gD2 := dr_neK d9 nD2
        refine lc_tup (K := K) (a := w2) (xs := xs.map V.int) (fun k H' => But H9 H' g ∧ Dr H' g (n + 20 + 200 * i + 20 * (mo + 1) + 20 + 20 * k) ∧ ∃ zs : List Int, zs.length = k ∧ (∀ z ∈ zs, Sz 40 z) ∧ H' D2 = some (.lst (zs.map V.int))) ⟨Same.but (same_new nD2), dr_newK d9 nD2, [], rfl, (fun y hy => by cases hy), upd_same⟩ (fun k H' _ p => SqT.of (dr_tupK d9 p.1 hw2)) ?_ ?_
        · rintro k y H' hk' ⟨bt, dd, zs, lz, hz, hD2⟩
          rw [List.getElem?_map] at hk'
          obtain ⟨v, ev, rfl⟩ := Option.map_eq_some_iff.mp hk'
          have lk : k < xs.length := (List.getElem?_eq_some_iff.mp ev).1
          obtain ⟨v0, v2⟩ := sis v (List.mem_cons_of_mem _ (List.mem_of_getElem? ev))
          refine ⟨rfl, ?_⟩
          refine ⟨_, rfl, _, rfl, _, _, rfl, rfl, ⟨by decide, by decide, by decide⟩, g, n + 20 + 200 * i + 20 * (mo + 1) + 20 + 20 * k, _, rfl, dd, by omega, (by show (0 : Int) < 10 ^ 9; decide), (by show (10 : Int) ^ 9 < 10 ^ 100; decide +kernel), fun H10 r r0 r1 bt10 d10 => ⟨_, _, rfl, rfl, _, _, rfl, rfl, ?_, ?_⟩⟩
          · have e9 : (10 : Int) ^ (9 : Int).toNat + 1 < 2 ^ 31 := by decide +kernel
            have r1 : r < (10 : Int) ^ (9 : Int).toNat := r1
            exact Sz.mulW (k := 2) (l := 31) ⟨v0, by omega⟩ ⟨by omega, by omega⟩ (by decide)
          · have hD10 := bt10 _ _ (Ne.symm gD2) hD2
            refine ⟨_, hD10, ?_, fun b o nb e => ?_, (dr_updK d10 gD2).mono (by omega), zs ++ [v * (r + 1)], by rw [List.length_append, lz]; rfl, fun z hz' => ?_, ?_⟩
            · rw [List.length_map]
              exact small1000 (by omega)
            · rw [upd_ne (ne_of_none e nD2)]
              exact bt10 _ _ nb (bt _ _ nb e)
            · rcases List.mem_append.mp hz' with h | h
              · exact hz z h
              · rw [List.mem_singleton.mp h]
                have e9 : (10 : Int) ^ (9 : Int).toNat + 1 < 2 ^ 31 := by decide +kernel
                have r1 : r < (10 : Int) ^ (9 : Int).toNat := r1
                exact Sz.le (Sz.mul (k := 2) (l := 31) ⟨v0, by omega⟩ ⟨by omega, by omega⟩) (by decide)
            · rw [upd_same, List.map_append]
              rfl
        · rintro H10 ⟨bt10, d10, zs, lz, hz, hD2⟩
          rw [List.length_map, lxs] at lz
          have fl10 := (fl8.keep s9).but d9 bt10 (Ne.symm gF)
          refine ⟨D2, _, rfl, .inl ⟨SqL.of hD2, fun t2 nt2 => ?_⟩⟩
          have s11 := same_new (o := .tup (zs.map V.int)) nt2
          have hw11 := s11 _ _ (dr_tupK d9 bt10 (s9 _ _ hw1))
          refine ⟨w1, t2, _, _, rfl, rfl, hw11, upd_same, by rw [List.length_map]; show 1 + zs.length ≤ sizeLine; omega, fun H12 w s12 hw => ?_⟩
          have hw : H12 w = some (.tup ((c0 :: zs).map V.int)) := hw
          have fl12 := (fl10.keep s11).keep s12
          have d12 := dr_same (dr_same d10 s11) s12
          have S12 := s11.trans s12
          have hix : ixN (((fs ++ [(t, c0 :: xs)]).map fun p => V.ref p.1).length) (i : Int) = some i := Evl.ixN_nat (by rw [List.length_map, List.length_append, lfs]; exact Nat.lt_succ_self i)
          refine ⟨_, rfl, _, rfl, F, _, _, i, rfl, rfl, fl12.l, hix, _, fs ++ [(w, c0 :: zs)], rfl, fun b o nb e => ?_, ?_, by rw [List.length_append, lfs]; rfl, ?_⟩
          · rw [upd_ne (ne_of_none e nFH)]
            exact S12 _ _ (bt10 _ _ nb (s9 _ _ (s8 _ _ (B7 _ _ nb e))))
          · exact dr_updK (d12.mono (by rw [List.length_map, lxs]; omega)) gF
          · refine ⟨?_, fun p hp => ?_, ?_⟩
            · rw [upd_same]
              refine congrArg (fun z => some (HO.lst z)) ?_
              rw [List.map_append, List.map_append, List.set_append_right _ _ (by rw [List.length_map]; omega), List.length_map, lfs, Nat.sub_self]
              rfl
            · rcases List.mem_append.mp hp with h | h
              · have e := fl12.t p (List.mem_append_left _ h)
                rw [upd_ne (ne_of e fl12.l (by intro z; cases z))]
                exact e
              · rw [List.mem_singleton.mp h]
                rw [upd_ne (ne_of hw fl12.l (by intro z; cases z))]
                exact hw
            · refine ⟨fun p hp => ?_, fun p hp => ?_, fun p hp => ?_⟩ <;> rcases List.mem_append.mp hp with h | h
              · exact fl3.b.l p h
              · rw [List.mem_singleton.mp h]
                show zs.length + 1 = mo + 1
                rw [lz]
              · exact fl3.b.z p h
              · rw [List.mem_singleton.mp h]
                intro x hx
                rcases List.mem_cons.mp hx with rfl | hx
                · have := sis x List.mem_cons_self
                  exact ⟨this.1, Int.lt_of_le_of_lt this.2 (by decide)⟩
                · exact hz x hx
              · exact fl3.b.c p h
              · rw [List.mem_singleton.mp h]
                exact (sis c0 List.mem_cons_self).2
      · exact ⟨_, fs ++ [(t, is)], rfl, B6.trans bt7, d7.mono (by omega), by rw [List.length_append, lfs]; rfl, fl6.but d6 bt7 (Ne.symm gF)⟩
    rintro σ' H3 ⟨x5, fs, rfl, B3, d3, lfs, fl3⟩
    -- the text, what is handed in
    have hL3 := hL.but dr B3
    obtain ⟨xs, hp, hP⟩ := id hL3
    refine ⟨_, rfl, _, rfl, pl, xs, rfl, .inl (SqL.of hp), fun l1 nl1 => ?_⟩
    have s4 := same_new (o := .lst xs) nl1
    refine ⟨m, 200, l1, ps, rfl, rfl, hm, ⟨xs, upd_same, hP.keep s4⟩, pks_pq hk (by omega), by omega, fun H5 x d s5 nx hx ni ex ld dn => ?_⟩
    have S5 := s4.trans s5
    have tx : Td C H5 x m ps d := td_of hk l4 hx ni ex ld dn
    have fl5 := fl3.keep S5
    refine ⟨_, rfl, F, _, rfl, .inl (SqL.of fl5.l), fun G nG => ⟨_, _, rfl, ?_⟩⟩
    have s6 := same_new (o := .lst (fs.map fun p => V.ref p.1)) nG
    have tx := tx.keep s6
    have fl6 := fl5.keep s6
    have gl6 : Fl (upd H5 G (.lst (fs.map fun p => V.ref p.1))) G mo fs := fl6.at upd_same
    have S6 := S5.trans s6
    generalize upd H5 G (.lst (fs.map fun p => V.ref p.1)) = H6 at *
    clear hp hP s4 s5 hx nl1 nx S5 ni ex ld dn fl5 s6
    have ld := tx.t.l
    refine ⟨_, rfl, x, m, d, rfl, tx.t.t, fun H7 kp s7 nkp hkp => ?_⟩
    have tx := tx.keep s7
    have fl7 := fl6.keep s7
    have gl7 := gl6.keep s7
    have S7 := S6.trans s7
    have d7 := dr_same d3 S7
    have B7 := B3.trans (Same.but S7)
    have pqL : Pq mo 444 (d.map (led mo (fls fs))) := pq_led (k := 400) fl3.b lfs hm tx.pq (by decide)
    clear fl6 gl6 S6 s7 S7 nkp
    -- the question
    have ask : ∀ {Hc : Hp} {ga : Addr}, Td C Hc x m ps d → Fl Hc G mo fs → AskT C Hc 2 [.ref x, .int mo, .ref G] mo (d.map (led mo (fls fs))) (meas (d.map (led mo (fls fs)))) := fun {Hc ga} t f => .p t.t (by decide) (by decide) hmo hm tx.pq f.fs lfs pqL
    refine ⟨_, rfl, _, rfl, _, rfl, (by show 3 ≤ sizeLine; omega), fun ga nga => ?_⟩
    have s8 := same_new (o := .lst [.ref x, .int (mo : Int), .ref G]) nga
    refine ⟨_, rfl, _, rfl, _, rfl, _, rfl, mo, m, 400, kp, F, d, fs, rfl, hmo, hm, hkp.keep s8, tx.pq, (fl7.keep s8).fs, lfs, fun H9 cl s9 ncl hcl => ?_⟩
    have S9 := s8.trans s9
    refine ⟨2, ga, _, mo, 444, cl, _, rfl, s9 _ _ upd_same, ask (ga := ga) (tx.keep S9) (gl7.keep S9), hmo, hcl, pqL, fun H10 s10 => ⟨true, rfl, iteF ?_⟩⟩
    have S10 := S9.trans s10
    have tx := tx.keep S10
    have hkp := hkp.keep S10
    have fl10 := fl7.keep S10
    have gl10 := gl7.keep S10
    clear s8 s9 S9 hcl nga ncl fl7 gl7 s10
    refine ⟨_, rfl, _, rfl, fD fs, fD fs, fs_dp gl10.fs, fs_dp fl10.fs, fd_sh fs, fd_sh fs, ?_⟩
    rw [eqv_tt (fd_sh fs)]
    refine ⟨false, rfl, iteF ?_⟩
    refine ⟨_, rfl, x, m, d, rfl, tx.t.t, fun H11 p1 s11 np1 hp1 => ⟨_, rfl, psD d, psD d, pl_dp hp1, pl_dp (hkp.keep s11), ps_shaped tx.ab, ps_shaped tx.ab, ?_⟩⟩
    rw [ps_eqv tx.ab]
    refine ⟨false, rfl, iteF ?_⟩
    have S11 := S10.trans s11
    have tx := tx.keep s11
    have hkp := hkp.keep s11
    have fl11 := fl10.keep s11
    have gl11 := gl10.keep s11
    have d11 := dr_same d7 S11
    have B11 := B7.trans (Same.but S11)
    clear hp1 np1 s11 S10 S11 fl10 gl10
    -- the forms that change nothing
    refine ⟨_, rfl, (m : Int), rfl, by omega, by omega, fun D nD => ?_⟩
    rw [eM]
    refine lc_range (lo := 0) (n := m) (fun i H' => Same H11 H' ∧ ∃ pf : List (Addr × List Int), pf.length = i ∧ H' D = some (.lst (pf.map fun p => V.ref p.1)) ∧ (∀ p ∈ pf, H' p.1 = some (.tup (p.2.map V.int))) ∧ pf.map (·.2) = (List.range i).map (unitF m)) ⟨same_new nD, [], rfl, upd_same, (fun p hp => by cases hp), rfl⟩ ?_ ?_
    · rintro i H' hi ⟨sm, pf, lpf, hD, hpf, epf⟩
      rw [Int.zero_add]
      refine ⟨rfl, ?_⟩
      refine ⟨(by show 1 ≤ sizeLine; omega), fun z0 nz0 => ?_⟩
      have s12 := same_new (o := .lst [.int 0]) nz0
      have hz0 : (upd H' z0 (.lst [.int 0])) z0 = some (.lst [.int 0]) := upd_same
      generalize upd H' z0 (.lst [.int 0]) = H12 at *
      refine ⟨_, rfl, (m : Int), rfl, by omega, by omega, fun D2 nD2 => ?_⟩
      rw [eM]
      refine lc_range (lo := 0) (n := m) (fun j Hc => Same H12 Hc ∧ Hc D2 = some (.lst (((List.range j).map fun j => if j = i then (1 : Int) else 0).map V.int))) ⟨same_new nD2, upd_same⟩ ?_ ?_
      · rintro j Hc hj ⟨sm2, hD2⟩
        rw [Int.zero_add]
        refine ⟨rfl, ?_⟩
        refine ⟨_, rfl, _, rfl, rfl, .inr ⟨decide (j = i), congrArg (fun b => [V.bl b]) (nat_dec j i), _, hD2, ?_, fun b o e => ?_, ?_⟩⟩
        · rw [List.length_map, List.length_map, List.length_range]
          exact small1000 (by omega)
        · rw [upd_ne (ne_of_none (H := H12) e nD2)]
          exact sm2 _ _ e
        · rw [upd_same, range_snoc, List.map_append]
          refine congrArg (fun z => some (HO.lst (_ ++ [V.int z]))) ?_
          by_cases c : j = i
          · rw [decide_eq_true c, if_pos rfl, if_pos c]
          · rw [decide_eq_false c, if_neg (by decide), if_neg c]
      rintro H13 ⟨s13, hD2⟩
      refine ⟨z0, D2, _, _, rfl, rfl, s13 _ _ hz0, hD2, by rw [List.length_map, List.length_map, List.length_range]; show 1 + m ≤ sizeLine; omega, fun u nu => ?_⟩
      have s14 := same_new (o := .lst ([V.int 0] ++ (((List.range m).map fun j => if j = i then (1 : Int) else 0).map V.int))) nu
      refine ⟨u, _, rfl, .inl ⟨SqL.of upd_same, fun t nt => ?_⟩⟩
      have s15 := same_new (o := .tup ([V.int 0] ++ (((List.range m).map fun j => if j = i then (1 : Int) else 0).map V.int))) nt
      have S15 := ((s12.trans s13).trans s14).trans s15
      have hD15 := S15 _ _ hD
      refine ⟨_, hD15, ?_, fun b o e => ?_, pf ++ [(t, unitF m i)], by rw [List.length_append, lpf]; rfl, ?_, fun p hp => ?_, ?_⟩
      · rw [List.length_map]
        exact small1000 (by omega)
      · rw [upd_ne (ne_of_none (H := H11) e nD)]
        exact S15 _ _ (sm _ _ e)
      · rw [upd_same, List.map_append]
        rfl
      · rcases List.mem_append.mp hp with h | h
        · have e := S15 _ _ (hpf p h)
          rw [upd_ne (ne_of e hD15 (by intro z; cases z))]
          exact e
        · rw [List.mem_singleton.mp h]
          rw [upd_ne (ne_of upd_same hD15 (by intro z; cases z)), upd_same]
          rfl
      · rw [List.map_append, epf, range_snoc]
        rfl
    rintro H12 ⟨s12, pf, lpf, hD, hpf, epf⟩
    have efl : fls pf = (List.range m).map (unitF m) := epf
    have tx := tx.keep s12
    have hkp := hkp.keep s12
    have fl12 := fl11.keep s12
    have gl12 := gl11.keep s12
    have d12 := dr_same d11 s12
    have B12 := B11.trans (Same.but s12)
    have unit1 : ∀ i, ∀ y ∈ unitF m i, y = 0 ∨ y = 1 := fun i y hy => by
      rcases List.mem_cons.mp hy with h | h
      · exact .inl h
      · obtain ⟨j, _, rfl⟩ := List.mem_map.mp h
        split
        · exact .inr rfl
        · exact .inl rfl
    have pfF : Fs H12 D m pf := ⟨hD, fun p hp => by
      have hi : p.2 ∈ (List.range m).map (unitF m) := by
        rw [← epf]
        exact List.mem_map_of_mem hp
      obtain ⟨i, _, e⟩ := List.mem_map.mp hi
      refine ⟨hpf p hp, ?_, fun y hy => ?_⟩
      · rw [← e]
        show ((List.range m).map _).length + 1 = m + 1
        rw [List.length_map, List.length_range]
      · rw [← e] at hy
        rcases unit1 i y hy with rfl | rfl
        · exact ⟨by decide, by decide +kernel⟩
        · exact ⟨by decide, by decide +kernel⟩⟩
    have eld : d.map (led m (fls pf)) = d := by
      rw [efl]
      exact led_units tx.t.d.z
    refine ⟨_, rfl, _, rfl, _, rfl, .ref x, .int (m : Int), .ref D, rfl, .inr ⟨x, m, d, rfl, tx.t.t, .int _, .inr ⟨m, rfl, hm, .inr ⟨D, 400, 444, pf, rfl, hm, tx.pq, pfF, lpf, fun _ _ H13 s13 => ?_, fun ne => absurd ⟨rfl, eld⟩ ne⟩⟩⟩⟩
    refine ⟨_, rfl, x, x, m, d, rfl, rfl, tx.t.t.keep s13, tx.t.t.keep s13, tx.ab, true, rfl, iteF ?_⟩
    have tx := tx.keep s13
    have hkp := hkp.keep s13
    have fl13 := fl12.keep s13
    have gl13 := gl12.keep s13
    refine ⟨_, rfl, _, rfl, _, rfl, (by show 3 ≤ sizeLine; omega), fun ga nga => ?_⟩
    have s8 := same_new (o := .lst [.ref x, .int (mo : Int), .ref G]) nga
    refine ⟨_, rfl, _, rfl, _, rfl, _, rfl, mo, m, 400, kp, F, d, fs, rfl, hmo, hm, hkp.keep s8, tx.pq, (fl13.keep s8).fs, lfs, fun H9 cl s9 ncl hcl => ?_⟩
    have S9 := s8.trans s9
    refine ⟨2, ga, _, mo, 444, cl, _, rfl, s9 _ _ upd_same, ask (ga := ga) (tx.keep S9) (gl13.keep S9), hmo, hcl, pqL, fun H14 s14 => ⟨true, rfl, iteF ?_⟩⟩
    have S14 := S9.trans s14
    have tx := tx.keep S14
    have fl14 := fl13.keep S14
    have gl14 := gl13.keep S14
    have d14 := dr_same (dr_same d12 s13) S14
    have B14 := B12.trans (Same.but (s13.trans S14))
    clear s8 s9 S9 hcl nga ncl fl13 gl13 s14 S14 fl12 gl12 pfF hD hpf fl11 gl11 nD hkp
    -- the point
    have eO : ((mo : Nat) : Int).toNat = mo := rfl
    refine ⟨_, rfl, (mo : Int), rfl, by omega, by omega, fun D1 nD1 => ?_⟩
    rw [eO]
    have gD1 := dr_neK d14 nD1
    refine lc_range (lo := 0) (n := mo) (fun i H' => But H14 H' g ∧ Dr H' g (n + 20 + 200 * m + 20 * i) ∧ ∃ is : List Int, is.length = i ∧ (∀ y ∈ is, 0 ≤ y ∧ y ≤ 2) ∧ H' D1 = some (.lst (is.map V.int))) ⟨Same.but (same_new nD1), dr_newK d14 nD1, [], rfl, (fun y hy => by cases hy), upd_same⟩ ?_ ?_
    · rintro i H' hi ⟨bt, dd, is, li, hs, hD⟩
      refine ⟨rfl, ?_⟩
      refine ⟨_, rfl, g, n + 20 + 200 * m + 20 * i, 3, rfl, dd, by omega, by decide, by decide +kernel, fun H5 v v0 v1 bt5 d5 => ?_⟩
      have hD5 := bt5 _ _ (Ne.symm gD1) hD
      refine ⟨_, hD5, ?_, fun b o nb e => ?_, (dr_updK d5 gD1).mono (by omega), is ++ [v], by rw [List.length_append, li]; rfl, fun y hy => ?_, ?_⟩
      · rw [List.length_map]
        exact small1000 (by omega)
      · rw [upd_ne (ne_of_none e nD1)]
        exact bt5 _ _ nb (bt _ _ nb e)
      · rcases List.mem_append.mp hy with h | h
        · exact hs y h
        · rw [List.mem_singleton.mp h]
          omega
      · rw [upd_same, List.map_append]
        rfl
    rintro H15 ⟨bt15, d15, pt, lpt, spt, hpt⟩
    have tx := tx.but d14 bt15
    have fl15 := fl14.but d14 bt15 (Ne.symm gF)
    have gG : G ≠ g := fun z => by
      have h1 := gl14.l
      obtain ⟨_, _, _, h2, _⟩ := d14
      rw [z, h2] at h1
      have h1 := HO.lst.inj (Option.some.inj h1)
      cases fs with
      | nil => cases h1
      | cons p fs => cases h1
    have gl15 := gl14.but d14 bt15 gG
    have B15 := B14.trans bt15
    have hL15 := hL.but dr B15
    have nnp : ∀ y ∈ pt, 0 ≤ y := fun y hy => (spt y hy).1
    have spt4 : ∀ y ∈ pt, Sz 400 y := fun y hy => ⟨nnp y hy, Int.lt_of_le_of_lt (spt y hy).2 (by decide +kernel)⟩
    clear bt15 d14 fl14 gl14 nD1 gD1
    -- the values
    refine ⟨_, rfl, F, rfl, ⟨_, SqL.of fl15.l⟩, fun D2 nD2 => ?_⟩
    refine lc_list (K := K) (a := F) (xs := fs.map fun p => V.ref p.1) (fun k H' => Same H15 H' ∧ H' D2 = some (.lst (((fs.take k).map fun p => valF p.2 pt).map V.int))) ⟨same_new nD2, upd_same⟩ (fun k H' _ p => SqL.of (p.1 _ _ fl15.l)) ?_ ?_
    · rintro k y H' hk' ⟨sm, hD⟩
      rw [List.getElem?_map] at hk'
      obtain ⟨p, ep, rfl⟩ := Option.map_eq_some_iff.mp hk'
      have hp1 := List.mem_of_getElem? ep
      have lk : k < fs.length := (List.getElem?_eq_some_iff.mp ep).1
      obtain ⟨c0, xs, ec⟩ : ∃ c0 xs, p.2 = c0 :: xs := by
        have := fl15.b.l p hp1
        cases e : p.2 with
        | nil => rw [e] at this; cases this
        | cons c0 xs => exact ⟨c0, xs, rfl⟩
      have lxs : xs.length = mo := by
        have := fl15.b.l p hp1
        rw [ec] at this
        simpa using this
      have hpt' := fl15.t p hp1
      rw [ec] at hpt'
      refine ⟨rfl, ?_⟩
      refine ⟨_, rfl, _, rfl, p.1, D1, c0, xs, pt, rfl, sm _ _ hpt', sm _ _ hpt, by rw [lxs, lpt], by omega, fun x hx => Sz.le (fl15.b.z p hp1 x (by rw [ec]; exact List.mem_cons_of_mem _ hx)) (by decide), fun y hy => Sz.le (spt4 y hy) (by decide), fun H2 s2 => ⟨_, s2 _ _ hD, ?_, fun b o e => ?_, ?_⟩⟩
      · rw [List.length_map, List.length_map]
        exact small1000 (Nat.le_trans (List.length_take_le _ _) (by omega))
      · rw [upd_ne (ne_of_none (H := H15) e nD2)]
        exact s2 _ _ (sm _ _ e)
      · have ev : valF p.2 pt = c0 + K5.dot xs pt := by rw [ec]; rfl
        rw [upd_same, List.take_add_one, ep, List.map_append, List.map_append, ← ev]
        rfl
    rintro H16 ⟨s16, hD2⟩
    rw [List.length_map, List.take_length] at hD2
    obtain ⟨vals, evals⟩ : ∃ vals : List Int, (fs.map fun p => valF p.2 pt) = vals := ⟨_, rfl⟩
    rw [evals] at hD2
    have efv : (fls fs).map (fun n => valF n pt) = vals := by
      rw [← evals]
      unfold fls
      rw [List.map_map]
      rfl
    have lvals : vals.length = m := by rw [← evals, List.length_map, lfs]
    have nvals : ∀ v ∈ vals, 0 ≤ v := fun v hv => by
      rw [← efv] at hv
      obtain ⟨nn', hn', rfl⟩ := List.mem_map.mp hv
      have h1 := fl15.b.fl.2.2 nn' hn'
      have h2 : 0 ≤ K5.dot nn'.tail pt := NP.dot_nn (xs := nn'.tail) (fun x hx => (fl15.b.fl.2.1 nn' hn' x (List.mem_of_mem_tail hx)).1) nnp
      show 0 ≤ nn'.getD 0 0 + K5.dot nn'.tail pt
      omega
    have tx := tx.keep s16
    have gl16 := gl15.keep s16
    have hL16 := hL15.keep s16
    have hpt16 := s16 _ _ hpt
    have B16 := B15.trans (Same.but s16)
    have d16 := dr_same d15 s16
    have fin : ∀ Hc, Same H16 Hc → Q (.bl true) Hc := fun Hc sm => q Hc (B16.trans (Same.but sm)) (dr_same (d16.mono (by omega)) sm)
    -- the words
    obtain ⟨us, e1, P1⟩ := id hL16
    have lu := P1.len
    refine ⟨_, rfl, pl, rfl, ⟨_, SqL.of e1⟩, fun D3 nD3 => ?_⟩
    refine lc_list (K := K) (a := pl) (xs := us) (fun k H' => Same H16 H' ∧ ∃ acc, H' D3 = some (.lst acc) ∧ acc.length ≤ k ∧ Pcs H' acc ((ps.take k).filter big)) ⟨same_new nD3, [], upd_same, Nat.le_refl _, .nil⟩ (fun k H' _ p => SqL.of (p.1 _ _ e1)) ?_ ?_
    · rintro k v H' hk' ⟨sm, acc, hD3, lacc, hA⟩
      obtain ⟨p, ep, ⟨t, f1, rfl, ht, hf⟩⟩ := (P1.keep sm).get hk'
      have lk : k < ps.length := (List.getElem?_eq_some_iff.mp ep).1
      refine ⟨rfl, ?_⟩
      refine ⟨_, rfl, t, _, _, _, rfl, rfl, SqT.of ht, pc1 p f1, f1, p.2.1, p.2.2, rfl, SqT.of hf, _, _, rfl, rfl, _, rfl, ite2 (fun c => ?_) (fun c => ?_)⟩
      · refine ⟨_, rfl, acc, hD3, small1000 (by omega), fun b o e => ?_, acc ++ [.ref t], upd_same, by rw [List.length_append, List.length_singleton]; omega, ?_⟩
        · rw [upd_ne (ne_of_none (H := H16) e nD3)]
          exact sm _ _ e
        · rw [filter_take big _ k ep, show big p = true from c, if_pos rfl]
          exact Pcs.updL hD3 (Pcs.snoc ⟨t, f1, rfl, ht, hf⟩ hA)
      · refine ⟨sm, acc, hD3, by omega, ?_⟩
        rw [filter_take big _ k ep, if_neg (show ¬ big p = true from c), List.append_nil]
        exact hA
    rintro H17 ⟨s17, acc, hD3, lacc, hA⟩
    rw [lu, List.take_length] at hA
    refine ⟨(by show 0 ≤ sizeLine; omega), fun e0 ne0 => ?_⟩
    have s18 := same_new (o := .lst []) ne0
    have abf : ∀ p ∈ ps.filter big, AB p.1 := fun p hp => (hk p (List.mem_filter.mp hp).1).w
    refine ⟨psD _, psD [], pl_dp ⟨acc, s18 _ _ hD3, hA.keep s18⟩, .lst (SqL.of upd_same) .nil, ps_shaped abf, ps_shaped (fun p hp => by cases hp), ?_⟩
    rw [eqv_D]
    have S18 : Same H16 (upd H17 e0 (.lst [])) := s17.trans s18
    generalize upd H17 e0 (.lst []) = H18 at *
    by_cases ef : ps.filter big = []
    rotate_left
    · rw [decide_eq_false ef]
      exact ⟨false, rfl, iteF (fin H18 S18)⟩
    rw [decide_eq_true ef]
    refine ⟨true, rfl, iteT ?_⟩
    have nb := filter_nil ef
    -- the greatest value
    refine ⟨_, rfl, (by show 1 ≤ sizeLine; omega), fun z0 nz0 => ?_⟩
    have s19 := same_new (o := .lst [.int 0]) nz0
    have hz0 : (upd H18 z0 (.lst [.int 0])) z0 = some (.lst [.int 0]) := upd_same
    have hD19 := s19 _ _ (S18 _ _ hD2)
    refine ⟨D2, z0, _, _, rfl, rfl, hD19, hz0, by rw [List.length_map]; show vals.length + 1 ≤ sizeLine; omega, fun wl nwl => ?_⟩
    have s20 := same_new (o := .lst (vals.map V.int ++ [V.int 0])) nwl
    obtain ⟨v1, vs, en, em⟩ := mp_cons vals
    have hwl : (upd (upd H18 z0 (.lst [.int 0])) wl (.lst (vals.map V.int ++ [V.int 0]))) wl = some (.lst ((v1 :: vs).map V.int)) := by
      rw [upd_same, ← en, List.map_append]
      rfl
    have S20 : Same H16 (upd (upd H18 z0 (.lst [.int 0])) wl (.lst (vals.map V.int ++ [V.int 0]))) := (S18.trans s19).trans s20
    refine ⟨wl, v1, vs, rfl, SqL.of hwl, _, _, rfl, rfl, _, rfl, ?_⟩
    clear hD19 hz0 nwl
    generalize upd (upd H18 z0 (.lst [.int 0])) wl (.lst (vals.map V.int ++ [V.int 0])) = H20 at *
    rw [← em]
    refine ite2 (fun c => ?_) (fun c => fin H20 S20)
    have c60 : mp vals < 60 := of_decide_eq_true c
    have v59 : ∀ v ∈ vals, 0 ≤ v ∧ v ≤ 59 := fun v hv => ⟨nvals v hv, ((mp_le vals 59).mp (by omega)).1 v hv⟩
    have t1 : ∀ p ∈ ps, 0 ≤ tms p vals ∧ tms p vals ≤ 356 := fun p hp => tms_le (hk p hp) (nb p hp) (by decide) v59 hm
    have mled : meas (d.map (led mo (fls fs))) ≤ 2000 := tx.led hk l4 hm nb fl15.b.fl.2.2
    have eVl : NP.V pt (d.map (led mo (fls fs))) = NP.V vals ps := by
      rw [led_V (fls fs) pt fl15.b.fl.1 d, efv, V_ni tx.ni nvals]
    have lV : (NP.V vals ps).length ≤ 20000 := by
      have a := V_len (b := 10) (c := 356) vals (fun p hp => (hk p hp).l) fun p hp => (t1 p hp).2
      have a2 : 10 * 356 * ps.length ≤ 10 * 356 * 4 := Nat.mul_le_mul_left _ l4
      omega
    have isp : ∀ {Hc : Hp}, Same H16 Hc → IsP Hc mo (.ref D1) true := fun {Hc} sm => by
      refine .inl ⟨D1, _, rfl, sm _ _ hpt16, by rw [List.length_map, lpt]; omega, fun v hv => ?_, ?_⟩
      · obtain ⟨y, _, rfl⟩ := List.mem_map.mp hv
        exact .int y
      · have e : (pt.map L2.V.int).all cntV = true := List.all_eq_true.mpr fun v hv => by
          obtain ⟨y, hy, rfl⟩ := List.mem_map.mp hv
          exact decide_eq_true (nnp y hy)
        rw [e, List.length_map, lpt, decide_eq_true rfl]
        rfl
    have svals : ∀ v ∈ vals, Sz 400 v := fun v hv => ⟨(v59 v hv).1, Int.lt_of_le_of_lt (v59 v hv).2 (by decide +kernel)⟩
    refine ⟨_, rfl, _, rfl, _, rfl, rfl, .ref x, .int (mo : Int), .ref G, rfl, .inr ⟨x, m, d, rfl, tx.t.t.keep S20, .int _, .inr ⟨mo, rfl, hmo, .inr ⟨G, 400, 444, fs, rfl, hm, tx.pq, (gl16.keep S20).fs, lfs, fun e1 e2 H21 s21 => ?_, fun _ => ⟨pqL, fun gt => absurd mled (by omega), fun _ H21 z jd s21 nz hz nij exj ldj dnj => ?_⟩⟩⟩⟩⟩
    · have S21 := S20.trans s21
      have eV : NP.V pt d = NP.V vals ps := by
        have h := eVl
        rw [e2] at h
        exact h
      have hz : Tx C H21 x mo d := by
        have := tx.t.t.keep S21
        rw [← e1] at this
        exact this
      have dn8 : Dn mo 800 d := by
        have := tx.t.d.le (show 400 ≤ 800 by decide)
        rw [← e1] at this
        exact this
      have ljd : d.length ≤ 90 := by omega
      refine ⟨_, rfl, .ref x, .ref D1, rfl, .inr ⟨x, mo, d, true, rfl, hz, isp S21, .inr ⟨rfl, D1, pt, ⟨rfl, S21 _ _ hpt16, lpt, hmo, spt4, dn8, ljd⟩, fun _ H22 zz s22 hzz => ?_, fun gt => ?_⟩⟩⟩
      · have S22 := S21.trans s22
        refine ⟨_, rfl, _, rfl, m, pl, D2, ps, vals, rfl, hm, hL16.keep S22, hk, by omega, S22 _ _ hD2, lvals, svals, fun p hp => ⟨(t1 p hp).1, by have := (t1 p hp).2; omega⟩, fun H23 w1 s23 hw1 => ⟨rfl, ?_⟩⟩
        have ew : zz = w1 := cs_ext (by rw [hzz, eV, hw1])
        show Q (.bl (decide (V.str zz = V.str w1))) H23
        rw [ew, decide_eq_true rfl]
        exact fin H23 (S22.trans s23)
      · have eLR : lenR (d.map (rn pt)) = (((NP.V pt d).length : Nat) : Int) := lenR_V dn8.z nnp
        rw [eLR, eV] at gt
        omega
    · have S21 := S20.trans s21
      have eV : NP.V pt jd = NP.V vals ps := by
        rw [V_ni nij nnp, eVl]
      have dn8 := dnj.le (show 444 + 200 ≤ 800 by decide)
      have ljd : jd.length ≤ 90 := by
        rw [List.length_map] at ldj
        omega
      refine ⟨_, rfl, .ref z, .ref D1, rfl, .inr ⟨z, mo, jd, true, rfl, hz, isp S21, .inr ⟨rfl, D1, pt, ⟨rfl, S21 _ _ hpt16, lpt, hmo, spt4, dn8, ljd⟩, fun _ H22 zz s22 hzz => ?_, fun gt => ?_⟩⟩⟩
      · have S22 := S21.trans s22
        refine ⟨_, rfl, _, rfl, m, pl, D2, ps, vals, rfl, hm, hL16.keep S22, hk, by omega, S22 _ _ hD2, lvals, svals, fun p hp => ⟨(t1 p hp).1, by have := (t1 p hp).2; omega⟩, fun H23 w1 s23 hw1 => ⟨rfl, ?_⟩⟩
        have ew : zz = w1 := cs_ext (by rw [hzz, eV, hw1])
        show Q (.bl (decide (V.str zz = V.str w1))) H23
        rw [ew, decide_eq_true rfl]
        exact fin H23 (S22.trans s23)
      · have eLR : lenR (jd.map (rn pt)) = (((NP.V pt jd).length : Nat) : Int) := lenR_V dn8.z nnp
        rw [eLR, eV] at gt
        omega
end
end K5
set_option Elab.async false
set_option linter.all false
set_option maxRecDepth 100000
set_option maxHeartbeats 8000000
namespace K5
open PySem PySem.Spec PyProof.Rows L2 XV NP
/-! ### what is refused: one question -/
abbrev sCaught : Stmt := top 83
abbrev sOnly : Stmt := top 84
abbrev nCaught : List Str := ["_law_which", "_law_given", "_law_error", "e", "_law_kinds"]
theorem scCaught : FnScope nCaught ["_law_which", "_law_given"] (defScope sCaught) := ⟨rfl, rfl, rfl, by decide +kernel, rfl, by decide +kernel, by decide +kernel⟩
theorem scOnly : FnScope ["_law_place", "_law_bad", "_law_at"] ["_law_place", "_law_bad"] (defScope sOnly) := ⟨rfl, rfl, rfl, by decide +kernel, rfl, by decide +kernel, by decide +kernel⟩
/-- the class that is due at a place -/
def ci : Nat → Nat
  | 0 => 0
  | 1 => 5
  | 2 => 3
  | _ => 6
def kinds (j : Nat) : List L2.V := [.bl (decide (j = 0)), .bl (decide (j = 1)), .bl (decide (j = 2)), .bl (decide (j = 3))]
/-- what is told: a list of four truths, and the value -/
def Told (H : Hp) (p : Addr) (j : Nat) (v : L2.V) : Prop := ∃ k, H p = some (.lst [.ref k, v]) ∧ H k = some (.lst (kinds j))
theorem Told.keep {H H' : Hp} (s : Same H H') {p : Addr} {j : Nat} {v : L2.V} (h : Told H p j v) : Told H' p j v := by
  obtain ⟨k, h1, h2⟩ := h
  exact ⟨k, s _ _ h1, s _ _ h2⟩
inductive Ask (K : PySem.W.Frag) (C : Addr) (H : Hp) : Nat → List L2.V → Nat → L2.V → Prop
  | t0 {u v : L2.V} {r : List L2.V} : NoT K H u → Ask K C H 0 (u :: v :: r) 0 u
  | t1 {u v : L2.V} {r : List L2.V} : NoT K H u → Ask K C H 1 (u :: v :: r) 0 u
  | t2 {u v w : L2.V} {r : List L2.V} : NoT K H u → Ask K C H 2 (u :: v :: w :: r) 0 u
  | j1 {x : Addr} {m : Nat} {d : List Pc} {v : L2.V} {r : List L2.V} : Tx C H x m d → NoT K H v → Ask K C H 0 (.ref x :: v :: r) 0 v
  | j2 {x y : Addr} {m m2 : Nat} {d d2 : List Pc} {r : List L2.V} : Tx C H x m d → Tx C H y m2 d2 → m ≠ m2 → Ask K C H 0 (.ref x :: .ref y :: r) 1 (.ref y)
  | r1 {x : Addr} {m : Nat} {d : List Pc} {v : L2.V} {r : List L2.V} : Tx C H x m d → Kn H v → cntV v = false → Ask K C H 1 (.ref x :: v :: r) 2 v
  | p1 {x : Addr} {m : Nat} {d : List Pc} {v w : L2.V} {r : List L2.V} : Tx C H x m d → Kn H v → belV 4 v = false → Ask K C H 2 (.ref x :: v :: w :: r) 2 v
  | p2 {x : Addr} {m m0 : Nat} {d : List Pc} {w : L2.V} {r : List L2.V} : Tx C H x m0 d → m ≤ 3 → IsFs H m m0 w false → Ask K C H 2 (.ref x :: .int m :: w :: r) 3 w
def spCaught (K : PySem.W.Frag) (C : Addr) : Sp := fun vs H Q _ => ∃ (wh : Nat) (ga : Addr) (as_ : List L2.V) (j : Nat) (v : L2.V), vs = [.int wh, .ref ga] ∧ H ga = some (.lst as_) ∧ Ask K C H wh as_ j v ∧ ∀ (H' : Hp) (p : Addr), Same H H' → Told H' p j v → Q (.ref p) H'
def spOnly : Sp := fun vs H Q _ => ∃ (j : Nat) (v : L2.V), vs = [.int j, v] ∧ ∀ (H' : Hp) (p : Addr), Same H H' → Told H' p j v → Q (.ref p) H'
theorem look_v (f : Str) (v : L2.V) : List.lookup f [(f, v)] = some v := by simp [List.lookup]
theorem ci_kinds {j : Nat} (h : j < 4) : decide (ci j = 0) = decide (j = 0) ∧ decide (ci j = 5) = decide (j = 1) ∧ decide (ci j = 3) = decide (j = 2) ∧ decide (ci j = 6) = decide (j = 3) := by
  have : j = 0 ∨ j = 1 ∨ j = 2 ∨ j = 3 := by omega
  rcases this with rfl | rfl | rfl | rfl <;> exact ⟨rfl, rfl, rfl, rfl⟩
theorem ci_lt (j : Nat) : ci j < 7 := by
  unfold ci
  split <;> decide
section
variable {P : Program} {w : World} {K : PySem.W.Frag} {mg : Str → Option Value} {base : Heap} {f : Addr} {fd : FuncData} {C : Addr}
theorem ok_caught (F : FnP K "_law_caught" sCaught f fd) (Z : Cl4 P w K mg base) (o_joined : OkX P w K mg base "joined" 8 ["one", "other"] (spJoined K C)) (o_repeated : OkX P w K mg base "repeated" 8 ["text", "times"] (spRepeated K C)) (o_replaced : OkX P w K mg base "replaced" 9 ["text", "many", "forms"] (spReplaced K C)) (z_isinstance : mg "isinstance" = none) :
    FnOk P w K mg base CX0 10 f fd ["_law_which", "_law_given"] (spCaught K C) := by
  have nd := scCaught.nd
  have g0 : mg "InvalidText" = some (.ref (C4 K 0)) := Z.g 0 (by decide)
  have g5 : mg "Unlike" = some (.ref (C4 K 5)) := Z.g 5 (by decide)
  have g3 : mg "InvalidNumber" = some (.ref (C4 K 3)) := Z.g 3 (by decide)
  have g6 : mg "InvalidList" = some (.ref (C4 K 6)) := Z.g 6 (by decide)
  have gE : mg "LoopError" = some (.ref (C4 K 7)) := Z.g 7 (by decide)
  refine F.ok scCaught (fun vs H Q E h => ?_) (fun cdv A outer s H vs Q E hr h => ?_)
  · obtain ⟨wh, ga, as_, j, v, rfl, _⟩ := h
    rfl
  · obtain ⟨wh, ga, as_, j, v, rfl, hg, ask, q⟩ := h
    have szl := sizeLine_eq
    have r9 : Room 9 (A.deeper (envOfC "_law_caught" (defScope sCaught) s.heap.objs.size f cdv)) := hr
    have r8 := r9.mono (by decide : 8 ≤ 9)
    refine ⟨_, PSs.nox (pss_cons (ps_set (i := 2) nd rfl (Or.inl rfl) pe_non)
      (C8.pss_cut (ps_try_keep (i := 3) rfl rfl rfl nd rfl rfl ⟨by rfl, by decide, .inl gE⟩ takes0
        (fun W pn xe tk _ => pss_one (ps_if (pt_cmpR op_eq (pv 0) pe_int (nomark _))
          (pss_one (ps_expr (pe_callT o_joined tk r8 (by rfl) (pa_cons (pe_ix (ix_listK (K := K) rfl) (pv 1) pe_int (fun _ _ => rfl)) (pa_cons (pe_ix (ix_listK (K := K) rfl) (pv 1) pe_int (fun _ _ => rfl)) pa_nil)))))
          (pss_one (ps_if (pt_cmpR op_eq (pv 0) pe_int (nomark _))
            (pss_one (ps_expr (pe_callT o_repeated tk r8 (by rfl) (pa_cons (pe_ix (ix_listK (K := K) rfl) (pv 1) pe_int (fun _ _ => rfl)) (pa_cons (pe_ix (ix_listK (K := K) rfl) (pv 1) pe_int (fun _ _ => rfl)) pa_nil)))))
            (pss_one (ps_expr (pe_callT o_replaced tk r9 (by rfl) (pa_cons (pe_ix (ix_listK (K := K) rfl) (pv 1) pe_int (fun _ _ => rfl)) (pa_cons (pe_ix (ix_listK (K := K) rfl) (pv 1) pe_int (fun _ _ => rfl)) (pa_cons (pe_ix (ix_listK (K := K) rfl) (pv 1) pe_int (fun _ _ => rfl)) pa_nil))))))))))
        (fun a oe cls d pn hz hf => pss_one (ps_set (i := 2) nd rfl (Or.inl rfl) (pv 3))))
      (pss_cons (ps_set (i := 4) nd rfl (Or.inl rfl) (pe_lst (pa_cons (pe_callB call_isZ (by rfl) z_isinstance (by decide +kernel) (pa_cons (pv 2) (pa_cons (pe_glob (v := .ref (C4 K 0)) (by rfl) g0 rfl) pa_nil)))
          (pa_cons (pe_callB call_isZ (by rfl) z_isinstance (by decide +kernel) (pa_cons (pv 2) (pa_cons (pe_glob (v := .ref (C4 K 5)) (by rfl) g5 rfl) pa_nil)))
          (pa_cons (pe_callB call_isZ (by rfl) z_isinstance (by decide +kernel) (pa_cons (pv 2) (pa_cons (pe_glob (v := .ref (C4 K 3)) (by rfl) g3 rfl) pa_nil))) pa_nil)))))
      (pss_one (ps_ret (pe_lst (pa_cons (pe_op op_cat (pv 4) (pe_lst (pa_cons (pe_callB call_isZ (by rfl) z_isinstance (by decide +kernel) (pa_cons (pv 2) (pa_cons (pe_glob (v := .ref (C4 K 6)) (by rfl) g6 rfl) pa_nil))) pa_nil)))
        (pa_cons (pe_ifExp (pt_cmp (pc_isN (pv 2))) pe_non (pe_zget (pv 2))) pa_nil)))))))), ?_⟩
    refine ⟨fun σ' H' => ∃ (a dx : Addr), σ' = [some (.int wh), some (.ref ga), some (.ref a), none, none] ∧ j < 4 ∧ Same H H' ∧ H' a = some (exz a (.ref (C4 K (ci j))) (some dx)) ∧ H' dx = some (.xd [("value", v)]), ?_, ?_⟩
    · have wish : ∀ j0, j0 = j → j < 4 → Rz (WE (wKeep K (.ref (C4 K 7)) 3 (fun a cls d => tAsg (tVar 3) (gName 2)) (fun _ _ _ _ => False)
          { nx := fun σ' H' => ∃ (a dx : Addr), σ' = [some (.int wh), some (.ref ga), some (.ref a), none, none] ∧ j < 4 ∧ Same H H' ∧ H' a = some (exz a (.ref (C4 K (ci j))) (some dx)) ∧ H' dx = some (.xd [("value", v)]), rt := Q })
          [some (.int wh), some (.ref ga), some .non, none, none]) H (C4 K (ci j0)) v := fun j0 e0 hj H' dx sm nd => by
        subst e0
        refine ⟨true, Z.exm (ci j0) (ci_lt j0), fun _ a na => ?_, fun z => nomatch z⟩
        refine ⟨_, rfl, fun na2 => ⟨a, dx, rfl, hj, (sm.trans (same_new nd)).trans (same_new na2), upd_same, ?_⟩⟩
        rw [upd_ne (ne_of_none upd_same na2)]
        exact upd_same
      have a0 : ∀ (x : L2.V) (r : List L2.V), atI (x :: r) ((0 : Nat) : Int) = some x := fun x r => atI_nat rfl
      have a1 : ∀ (x y : L2.V) (r : List L2.V), atI (x :: y :: r) ((1 : Nat) : Int) = some y := fun x y r => atI_nat rfl
      have a2 : ∀ (x y z : L2.V) (r : List L2.V), atI (x :: y :: z :: r) ((2 : Nat) : Int) = some z := fun x y z r => atI_nat rfl
      cases ask with
      | @t0 _ v2 r n =>
        refine ⟨_, rfl, rfl, _, rfl, ite2 (fun _ => ?_) (fun c => absurd (decide_eq_true rfl) c)⟩
        exact ⟨_, rfl, ga, _, _, _, rfl, rfl, SqL.of hg, a0 _ _, _, rfl, ga, _, _, _, rfl, rfl, SqL.of hg, a1 _ _ _, v, v2, rfl, .inl ⟨n, wish 0 rfl (by decide)⟩⟩
      | @j1 x m d _ r tx n =>
        refine ⟨_, rfl, rfl, _, rfl, ite2 (fun _ => ?_) (fun c => absurd (decide_eq_true rfl) c)⟩
        exact ⟨_, rfl, ga, _, _, _, rfl, rfl, SqL.of hg, a0 _ _, _, rfl, ga, _, _, _, rfl, rfl, SqL.of hg, a1 _ _ _, .ref x, v, rfl, .inr ⟨x, m, d, rfl, tx, .inl ⟨n, wish 0 rfl (by decide)⟩⟩⟩
      | @j2 x y m m2 d d2 r tx ty ne =>
        refine ⟨_, rfl, rfl, _, rfl, ite2 (fun _ => ?_) (fun c => absurd (decide_eq_true rfl) c)⟩
        exact ⟨_, rfl, ga, _, _, _, rfl, rfl, SqL.of hg, a0 _ _, _, rfl, ga, _, _, _, rfl, rfl, SqL.of hg, a1 _ _ _, .ref x, .ref y, rfl, .inr ⟨x, m, d, rfl, tx, .inr ⟨y, m2, d2, rfl, ty, .inl ⟨ne, wish 1 rfl (by decide)⟩⟩⟩⟩
      | @t1 _ v2 r n =>
        refine ⟨_, rfl, rfl, _, rfl, ite2 (fun c => absurd c (int_ne (x := 1) (y := 0) (by decide))) fun _ => ⟨_, rfl, rfl, _, rfl, ite2 (fun _ => ?_) (fun c => absurd (decide_eq_true rfl) c)⟩⟩
        exact ⟨_, rfl, ga, _, _, _, rfl, rfl, SqL.of hg, a0 _ _, _, rfl, ga, _, _, _, rfl, rfl, SqL.of hg, a1 _ _ _, v, v2, rfl, .inl ⟨n, wish 0 rfl (by decide)⟩⟩
      | @r1 x m d _ r tx kn ec =>
        refine ⟨_, rfl, rfl, _, rfl, ite2 (fun c => absurd c (int_ne (x := 1) (y := 0) (by decide))) fun _ => ⟨_, rfl, rfl, _, rfl, ite2 (fun _ => ?_) (fun c => absurd (decide_eq_true rfl) c)⟩⟩
        exact ⟨_, rfl, ga, _, _, _, rfl, rfl, SqL.of hg, a0 _ _, _, rfl, ga, _, _, _, rfl, rfl, SqL.of hg, a1 _ _ _, .ref x, v, rfl, .inr ⟨x, m, d, rfl, tx, kn, .inl ⟨ec, wish 2 rfl (by decide)⟩⟩⟩
      | @t2 _ v2 w2 r n =>
        refine ⟨_, rfl, rfl, _, rfl, ite2 (fun c => absurd c (int_ne (x := 2) (y := 0) (by decide))) fun _ => ⟨_, rfl, rfl, _, rfl, ite2 (fun c => absurd c (int_ne (x := 2) (y := 1) (by decide))) fun _ => ?_⟩⟩
        exact ⟨_, rfl, ga, _, _, _, rfl, rfl, SqL.of hg, a0 _ _, _, rfl, ga, _, _, _, rfl, rfl, SqL.of hg, a1 _ _ _, _, rfl, ga, _, _, _, rfl, rfl, SqL.of hg, a2 _ _ _ _, v, v2, w2, rfl, .inl ⟨n, wish 0 rfl (by decide)⟩⟩
      | @p1 x m d _ w2 r tx kn eb =>
        refine ⟨_, rfl, rfl, _, rfl, ite2 (fun c => absurd c (int_ne (x := 2) (y := 0) (by decide))) fun _ => ⟨_, rfl, rfl, _, rfl, ite2 (fun c => absurd c (int_ne (x := 2) (y := 1) (by decide))) fun _ => ?_⟩⟩
        exact ⟨_, rfl, ga, _, _, _, rfl, rfl, SqL.of hg, a0 _ _, _, rfl, ga, _, _, _, rfl, rfl, SqL.of hg, a1 _ _ _, _, rfl, ga, _, _, _, rfl, rfl, SqL.of hg, a2 _ _ _ _, .ref x, v, w2, rfl, .inr ⟨x, m, d, rfl, tx, kn, .inl ⟨eb, wish 2 rfl (by decide)⟩⟩⟩
      | @p2 x m m0 d _ r tx hm isf =>
        refine ⟨_, rfl, rfl, _, rfl, ite2 (fun c => absurd c (int_ne (x := 2) (y := 0) (by decide))) fun _ => ⟨_, rfl, rfl, _, rfl, ite2 (fun c => absurd c (int_ne (x := 2) (y := 1) (by decide))) fun _ => ?_⟩⟩
        exact ⟨_, rfl, ga, _, _, _, rfl, rfl, SqL.of hg, a0 _ _, _, rfl, ga, _, _, _, rfl, rfl, SqL.of hg, a1 _ _ _, _, rfl, ga, _, _, _, rfl, rfl, SqL.of hg, a2 _ _ _ _, .ref x, .int (m : Int), v, rfl, .inr ⟨x, m0, d, rfl, tx, .int _, .inr ⟨m, rfl, hm, .inl ⟨isf, wish 3 rfl (by decide)⟩⟩⟩⟩
    · rintro σ' H1 ⟨a, dx, rfl, hj, sm, ha, hx⟩
      obtain ⟨k0, k1, k2, k3⟩ := ci_kinds hj
      have hj7 := ci_lt j
      refine ⟨_, rfl, _, _, _, _, _, _, _, rfl, ha, hx, Z.e _ hj7, (fun u r => r), Z.kit _ hj7 0 (by decide), _, rfl, _, _, _, _, _, _, _, rfl, ha, hx, Z.e _ hj7, (fun u r => r), Z.kit _ hj7 5 (by decide),
        _, rfl, _, _, _, _, _, _, _, rfl, ha, hx, Z.e _ hj7, (fun u r => r), Z.kit _ hj7 3 (by decide), (by show 3 ≤ sizeLine; omega), fun l1 n1 => ?_⟩
      rw [k0, k1, k2]
      have s1 := same_new (o := .lst [.bl (decide (j = 0)), .bl (decide (j = 1)), .bl (decide (j = 2))]) n1
      refine ⟨_, rfl, _, rfl, _, _, _, _, _, _, _, rfl, s1 _ _ ha, s1 _ _ hx, Z.e _ hj7, (fun u r => r), Z.kit _ hj7 6 (by decide), (by show 1 ≤ sizeLine; omega), fun l2 n2 => ?_⟩
      rw [k3]
      have s2 := same_new (o := .lst [.bl (decide (j = 3))]) n2
      refine ⟨_, _, _, _, rfl, rfl, s2 _ _ upd_same, upd_same, (by show 3 + 1 ≤ sizeLine; omega), fun l3 n3 => ?_⟩
      have s3 := same_new (o := .lst [.bl (decide (j = 0)), .bl (decide (j = 1)), .bl (decide (j = 2)), .bl (decide (j = 3))]) n3
      have sA := (s1.trans s2).trans s3
      refine ⟨_, rfl, _, rfl, ite2 (fun c => nomatch of_decide_eq_true c) fun _ => ?_⟩
      refine ⟨_, rfl, a, _, dx, _, v, rfl, sA _ _ ha, sA _ _ hx, Z.f _ hj7, look_v _ _, (by show 2 ≤ sizeLine; omega), fun p np => ?_⟩
      exact q _ p ((sm.trans sA).trans (same_new np)) ⟨l3, upd_same, same_new np _ _ upd_same⟩
theorem ok_only (F : FnP K "_law_only" sOnly f fd) (z_range : mg "range" = none) : FnOk P w K mg base CX0 1 f fd ["_law_place", "_law_bad"] spOnly := by
  have nd := scOnly.nd
  refine F.ok scOnly (fun vs H Q E h => ?_) (fun cdv A outer s H vs Q E hr h => ?_)
  · obtain ⟨j, v, rfl, _⟩ := h
    rfl
  · obtain ⟨j, v, rfl, q⟩ := h
    refine ⟨_, PSs.nox (pss_one (ps_ret (pe_lst (pa_cons
      (pe_lc (own := [("_law_at", 2)]) (g := gName 2) (by rfl) nd (pi_range1 (by rfl) z_range (pa_cons pe_int pa_nil)) (blkOk_by (N := ["_law_place", "_law_bad", "_law_at"]) (sc := defScope sOnly) (own := [("_law_at", 2)]) (by decide +kernel)) (fun _ _ _ _ _ => pg_name (i := 2) nd rfl (Or.inl rfl)) (fun _ _ _ _ _ => pts_nil)
        (fun _ _ _ _ _ => pe_cmpR op_eq (pv 2) (pv 0) (nomark _))) (pa_cons (pv 1) pa_nil))))), ?_⟩
    refine ⟨4, rfl, by decide, by decide, fun D nD => lc_range (lo := 0) (n := 4) (fun k H' => Same H H' ∧ H' D = some (.lst (((List.range k).map fun m => decide (j = m)).map V.bl))) ⟨same_new nD, upd_same⟩ ?_ ?_⟩
    · rintro k H' hk ⟨sm, hD⟩
      rw [Int.zero_add]
      have e : decide (V.int (k : Int) = V.int (j : Int)) = decide (j = k) := by
        rw [nat_dec]
        exact decide_eq_decide.mpr ⟨Eq.symm, Eq.symm⟩
      refine ⟨rfl, _, rfl, _, rfl, rfl, _, hD, ?_, fun b o z => ?_, ?_⟩
      · rw [List.length_map, List.length_map, List.length_range]
        exact small1000 (by omega)
      · rw [upd_ne (ne_of_none (H := H) z nD)]
        exact sm _ _ z
      · rw [upd_same, List.range_succ, List.map_append, List.map_append, e]
        rfl
    · rintro H' ⟨sm, hD⟩
      refine ⟨_, rfl, (by show 2 ≤ sizeLine; decide), fun p np => ?_⟩
      exact q _ p (sm.trans (same_new np)) ⟨D, upd_same, same_new np _ _ hD⟩
end
end K5
set_option Elab.async false
set_option linter.all false
set_option maxRecDepth 100000
set_option maxHeartbeats 8000000
namespace K5
open PySem PySem.Spec PyProof.Rows L2 XV NP
/-! ### what is refused -/
abbrev sRefused : Stmt := top 85
abbrev nRefused : List Str := ["_law_text", "_law_other", "_law_bad", "_law_which"]
theorem scRefused : FnScope nRefused [] (defScope sRefused) := ⟨rfl, rfl, rfl, by decide +kernel, rfl, by decide +kernel, by decide +kernel⟩
/-! of data -/
def cntD : PyData → Bool
  | .int i => decide (0 ≤ i)
  | _ => false
def belD (b : Int) : PyData → Bool
  | .int i => decide (0 ≤ i) && decide (i < b)
  | _ => false
def formD (m : Nat) : PyData → Bool
  | .tuple ds => decide (ds.length = m + 1) && ds.all cntD
  | _ => false
def formsD (m n : Nat) : PyData → Bool
  | .list ds => decide (ds.length = n) && (ds.map (formD m)).all id
  | _ => false
def shF : PyData → Bool
  | .tuple ds => decide (ds.length ≤ 100)
  | _ => true
def shFs : PyData → Bool
  | .list ds => decide (ds.length ≤ 10) && ds.all shF
  | _ => true
def noBool : PyData → Bool
  | .bool _ => false
  | _ => true
theorem da_kn {H : Hp} {v : L2.V} {d : PyData} (h : Da H v d) : Kn H v := by
  cases h with
  | non => exact .non
  | bl b => exact .bl b
  | int i => exact .int i
  | str x => exact .str x
  | lst h _ => exact .lst h
  | tup h _ => exact .tup h
theorem da_cnt {H : Hp} {v : L2.V} {d : PyData} (h : Da H v d) : cntV v = cntD d := by cases h <;> rfl
theorem da_bel {H : Hp} {v : L2.V} {d : PyData} (b : Int) (h : Da H v d) : belV b v = belD b d := by cases h <;> rfl
theorem daAll_cnt {H : Hp} : ∀ {ds : List PyData} {vs : List L2.V}, DaAll H vs ds → vs.all cntV = ds.all cntD
  | _, _, .nil => rfl
  | _, _, .cons h r => by rw [List.all_cons, List.all_cons, da_cnt h, daAll_cnt r]
theorem daAll_kn {H : Hp} : ∀ {ds : List PyData} {vs : List L2.V}, DaAll H vs ds → ∀ x ∈ vs, Kn H x
  | _, _, .nil, x, hx => by cases hx
  | _, _, .cons h r, x, hx => by
    rcases List.mem_cons.mp hx with rfl | hx
    · exact da_kn h
    · exact daAll_kn r x hx
theorem da_isF {H : Hp} {v : L2.V} {d : PyData} (m : Nat) (h : Da H v d) (s : shF d = true) : IsF H m v (formD m d) := by
  cases h with
  | non => exact .inr ⟨.inr (.inr (.inl rfl)), rfl⟩
  | bl b => exact .inr ⟨.inr (.inr (.inr (.inl ⟨b, rfl⟩))), rfl⟩
  | int i => exact .inr ⟨.inr (.inl ⟨i, rfl⟩), rfl⟩
  | str x => exact .inr ⟨.inr (.inr (.inr (.inr ⟨x, rfl⟩))), rfl⟩
  | lst h _ => exact .inr ⟨.inl ⟨_, _, rfl, h⟩, rfl⟩
  | @tup a xs ds h r =>
    have l := r.length
    refine .inl ⟨a, xs, rfl, h, ?_, daAll_kn r, ?_⟩
    · rw [l]
      exact of_decide_eq_true s
    · show (decide (ds.length = m + 1) && ds.all cntD) = _
      rw [l, daAll_cnt r]
theorem da_isFs {H : Hp} {v : L2.V} {d : PyData} (m n : Nat) (h : Da H v d) (s : shFs d = true) : IsFs H m n v (formsD m n d) := by
  cases h with
  | non => exact .inr ⟨.inr (.inr (.inl rfl)), rfl⟩
  | bl b => exact .inr ⟨.inr (.inr (.inr (.inl ⟨b, rfl⟩))), rfl⟩
  | int i => exact .inr ⟨.inr (.inl ⟨i, rfl⟩), rfl⟩
  | str x => exact .inr ⟨.inr (.inr (.inr (.inr ⟨x, rfl⟩))), rfl⟩
  | tup h _ => exact .inr ⟨.inl ⟨_, _, rfl, h⟩, rfl⟩
  | @lst a xs ds h r =>
    have l := r.length
    have s : (decide (ds.length ≤ 10) && ds.all shF) = true := s
    rw [Bool.and_eq_true] at s
    refine .inl ⟨a, xs, ds.map (formD m), rfl, h, by rw [l]; exact of_decide_eq_true s.1, by rw [List.length_map, l], fun i x c hx hc => ?_, ?_⟩
    · obtain ⟨d, ed, hd⟩ := r.get hx
      rw [List.getElem?_map, ed] at hc
      cases hc
      exact da_isF m hd (List.all_eq_true.mp s.2 d (List.mem_of_getElem? ed))
    · show (decide (ds.length = n) && (ds.map (formD m)).all id) = _
      rw [l]
theorem da_noT {K : PySem.W.Frag} {H : Hp} {v : L2.V} {d : PyData} (h : Da H v d) (s : noBool d = true) : NoT K H v := by
  cases h with
  | non => exact ⟨"NoneType", by simp [tys], .base .non⟩
  | bl b => cases s
  | int i => exact ⟨"int", by simp [tys], .base (.int i)⟩
  | str x => exact ⟨"str", by simp [tys], .base (.str x)⟩
  | lst h _ => exact ⟨"list", by simp [tys], .base (.lst h)⟩
  | tup h _ => exact ⟨"tuple", by simp [tys], .base (.tup h)⟩
theorem da_ints {H : Hp} : ∀ (l : List Int) (vs : List L2.V), DaAll H vs (l.map PyData.int) → vs = l.map L2.V.int
  | [], _, .nil => rfl
  | x :: l, _, .cons (.int _) r => congrArg (L2.V.int x :: ·) (da_ints l _ r)
theorem da_tup {H : Hp} {v : L2.V} (l : List Int) (h : Da H v (.tuple (l.map PyData.int))) : ∃ a, v = .ref a ∧ H a = some (.tup (l.map L2.V.int)) := by
  cases h with
  | @tup a xs _ h r => exact ⟨a, rfl, by rw [h, da_ints l xs r]⟩
theorem da_pc {H : Hp} {v : L2.V} (p : Pc) (h : Da H v (pcD p)) : IsPc H v p := by
  cases h with
  | @tup a xs _ h r =>
    cases r with
    | cons h1 r1 =>
      cases r1 with
      | cons h2 r2 =>
        cases r2
        cases h1
        obtain ⟨b, rfl, hb⟩ := da_tup (fm p) h2
        exact ⟨a, b, rfl, h, hb⟩
theorem da_pcsA {H : Hp} : ∀ (ps : List Pc) (vs : List L2.V), DaAll H vs (ps.map pcD) → Pcs H vs ps
  | [], _, .nil => .nil
  | p :: ps, _, .cons h r => .cons (da_pc p h) (da_pcsA ps _ r)
theorem da_pcs {H : Hp} {v : L2.V} (ps : List Pc) (h : Da H v (.list (ps.map pcD))) : ∃ a, v = .ref a ∧ PL H a ps := by
  cases h with
  | @lst a xs _ h r => exact ⟨a, rfl, xs, h, da_pcsA ps xs r⟩
/-- pieces that are written, looked at -/
def pkB (m : Nat) (p : Pc) : Bool := (cs p.1).all (fun c => decide (c = 97) || decide (c = 98)) && (decide ((cs p.1).length ≤ 10) && (decide (0 ≤ p.2.1) && (decide (p.2.1 ≤ 2) && (decide (p.2.2.length = m) && p.2.2.all fun x => decide (0 ≤ x) && decide (x < 2 ^ 100)))))
theorem pkB_ok {m : Nat} {ps : List Pc} (h : ps.all (pkB m) = true) : ∀ p ∈ ps, Pk m p := fun p hp => by
  have z := List.all_eq_true.mp h p hp
  unfold pkB at z
  simp only [Bool.and_eq_true, decide_eq_true_eq, List.all_eq_true, Bool.or_eq_true] at z
  obtain ⟨h1, h2, h3, h4, h5, h6⟩ := z
  exact ⟨h1, h2, h3, h4, h5, h6⟩
/-! what is told, as data -/
def k4D (j : Nat) : PyData := .list [.bool (decide (j = 0)), .bool (decide (j = 1)), .bool (decide (j = 2)), .bool (decide (j = 3))]
def kD (j : Nat) (d : PyData) : PyData := .list [k4D j, d]
def okD (d : PyData) : Bool := d.canLay0 && decide (d.depth ≤ 60)
theorem kD_lay (j : Nat) {d : PyData} (h : okD d = true) : (kD j d).canLay0 = true := by
  unfold okD at h
  rw [Bool.and_eq_true] at h
  simp [kD, k4D, PyData.canLay0, PyData.canLayAll0, h.1]
theorem kD_shaped (j : Nat) {d : PyData} (h : okD d = true) : SeqAt.shaped (kD j d) = true := by
  have h2 := h
  unfold okD at h2
  rw [Bool.and_eq_true, decide_eq_true_eq] at h2
  have e : (kD j d).depth ≤ 64 := by
    simp only [kD, k4D, PyData.depth, PyData.depthAll]
    omega
  unfold SeqAt.shaped
  rw [kD_lay j h, decide_eq_true e]
  rfl
theorem k4D_lay (j : Nat) : (k4D j).canLay0 = true := by simp [k4D, PyData.canLay0, PyData.canLayAll0]
theorem k4D_shaped (j : Nat) : SeqAt.shaped (k4D j) = true := by
  have e : (k4D j).depth ≤ 64 := by simp [k4D, PyData.depth, PyData.depthAll]
  unfold SeqAt.shaped
  rw [k4D_lay j, decide_eq_true e]
  rfl
theorem kinds_dp {K : PySem.W.Frag} {H : Hp} {k : Addr} {j : Nat} (h : H k = some (.lst (kinds j))) : Dp K H (.ref k) (k4D j) := .lst (SqL.of h) (.cons (.bl _) (.cons (.bl _) (.cons (.bl _) (.cons (.bl _) .nil))))
theorem Told.dp {K : PySem.W.Frag} {H : Hp} {p : Addr} {j : Nat} {v : L2.V} {d : PyData} (h : Told H p j v) (hv : Da H v d) : Dp K H (.ref p) (kD j d) := by
  obtain ⟨k, h1, h2⟩ := h
  exact .lst (SqL.of h1) (.cons (kinds_dp h2) (.cons hv.dp .nil))
theorem cmpD {K : PySem.W.Frag} {H H2 : Hp} {p1 p2 : Addr} {j : Nat} {v : L2.V} {d : PyData} {Q : VK} (s : Same H H2) (t1 : Told H p1 j v) (t2 : Told H2 p2 j v) (hv : Da H2 v d) (o : okD d = true) (q : Q (.bl false) H2) : rNeD K (.ref p1) (.ref p2) H2 Q := by
  refine ⟨_, _, (t1.keep s).dp hv, t2.dp hv, kD_shaped j o, kD_shaped j o, ?_⟩
  rw [SeqAt.eqv_refl _ (kD_lay j o)]
  exact q
theorem cmpI {K : PySem.W.Frag} {H H2 : Hp} {p1 p2 g : Addr} {j : Nat} {Q : VK} (s : Same H H2) (t1 : Told H p1 j (.ref g)) (t2 : Told H2 p2 j (.ref g)) (q : Q (.bl false) H2) : rNeI K (.ref p1) (.ref p2) H2 Q := by
  obtain ⟨k, h1, h2⟩ := t1.keep s
  obtain ⟨k2, h3, h4⟩ := t2
  refine ⟨p1, p2, _, _, _, _, _, rfl, rfl, h1, h3, ⟨g, rfl⟩, kinds_dp h2, kinds_dp h4, k4D_shaped j, k4D_shaped j, ?_⟩
  rw [SeqAt.eqv_refl _ (k4D_lay j)]
  exact q
/-- one question, with the value in a name -/
theorem ask_ {K : PySem.W.Frag} {C : Addr} {H : Hp} {σ : L2.St} {i wh : Nat} {ga : Addr} {as_ : List L2.V} {j : Nat} {v : L2.V} {d : PyData} {Q : VK} (hg : H ga = some (.lst as_)) (a : Ask K C H wh as_ j v) (o : okD d = true) (hv : Da H v d)
    (hσ : σ[i]? = some (some v)) (q : ∀ H', Same H H' → Q (.bl false) H') : spCaught K C [.int wh, .ref ga] H (fun x H1 => ∃ v', σ[i]? = some (some v') ∧ spOnly [.int j, v'] H1 (fun y H2 => rNeD K x y H2 Q) E0) E0 := by
  refine ⟨wh, ga, as_, j, v, rfl, hg, a, fun H1 p1 sm1 d1 => ⟨v, hσ, j, v, rfl, fun H2 p2 sm2 d2 => cmpD sm2 d1 d2 (hv.keep (sm1.trans sm2)) o (q H2 (sm1.trans sm2))⟩⟩
theorem askI_ {K : PySem.W.Frag} {C : Addr} {H : Hp} {σ : L2.St} {i wh : Nat} {ga g : Addr} {as_ : List L2.V} {j : Nat} {Q : VK} (hg : H ga = some (.lst as_)) (a : Ask K C H wh as_ j (.ref g))
    (hσ : σ[i]? = some (some (.ref g))) (q : ∀ H', Same H H' → Q (.bl false) H') : spCaught K C [.int wh, .ref ga] H (fun x H1 => ∃ v', σ[i]? = some (some v') ∧ spOnly [.int j, v'] H1 (fun y H2 => rNeI K x y H2 Q) E0) E0 := by
  refine ⟨wh, ga, as_, j, .ref g, rfl, hg, a, fun H1 p1 sm1 d1 => ⟨_, hσ, j, .ref g, rfl, fun H2 p2 sm2 d2 => cmpI sm2 d1 d2 (q H2 (sm1.trans sm2))⟩⟩
def psA : List Pc := [("ab", 0, [1])]
theorem pkA : ∀ p ∈ psA, Pk 1 p := pkB_ok (by decide +kernel)
def bads1 : List PyData := [.none, .str "ab", .list [.tuple [.str "a", .tuple [.int 1, .int 0]]], .int 3]
def bads2 : List PyData := [.none, .int (-1), .str "1", .list [.int 1], .tuple [.int 1]]
def bads3 : List PyData := [.none, .list [], .tuple [.tuple [.int 1, .int 2]], .list [.tuple [.int 1, .int 2], .tuple [.int 1, .int 2]], .list [.tuple [.int 1]], .list [.tuple [.int 1, .int 2, .int 3]], .list [.list [.int 1, .int 2]], .list [.tuple [.int 1, .int (-2)]], .list [.none]]
def bads4 : List PyData := [.list [.tuple [.int 1, .int (-2)], .tuple [.int 1, .int 2]], .list [.tuple [.int 1, .int 2], .tuple [.int 1, .int (-2)]], .list [.tuple [.int 1, .int 2, .int 0], .tuple [.int 1, .int 2]], .list [.none, .tuple [.int 1, .int 2]], .list [.tuple [.bool true, .int 2], .tuple [.int 1, .int 2]], .list [.tuple [.int 1, .int 2]]]
theorem okb1 : (bads1.all fun d => okD d && noBool d) = true := by decide +kernel
theorem okb2 : (bads2.all fun d => okD d && (!cntD d && !belD 4 d)) = true := by decide +kernel
theorem okb3 : (bads3.all fun d => okD d && (shFs d && !formsD 1 1 d)) = true := by decide +kernel
theorem okb4 : (bads4.all fun d => okD d && (shFs d && !formsD 1 2 d)) = true := by decide +kernel
def spRefused : Sp := fun vs H Q _ => vs = [] ∧ ∀ H', Same H H' → Q (.bl true) H'
section
variable {P : Program} {w : World} {K : PySem.W.Frag} {mg : Str → Option Value} {base : Heap} {f : Addr} {fd : FuncData} {C : Addr}
theorem ok_refused (F : FnP K "_law_refused" sRefused f fd) (o_mk : OkMkT P w K mg base C) (o_c : Ok P w K mg base "_law_caught" 10 ["_law_which", "_law_given"] (spCaught K C)) (o_o : Ok P w K mg base "_law_only" 1 ["_law_place", "_law_bad"] spOnly) (z_range : mg "range" = none) (z_repr : mg "repr" = none) : FnG P w K mg base CX0 11 f fd [] spRefused := by
  have nd := scRefused.nd
  refine okG F scRefused (fun vs H Q E h => ?_) (fun cdv A outer s H vs Q E ag hr h => ?_)
  · obtain ⟨rfl, _⟩ := h
    rfl
  · obtain ⟨rfl, q⟩ := h
    have hu := hr.units
    have szl := sizeLine_eq
    have hu66 : (A.deeper (envOfC "_law_refused" (defScope sRefused) s.heap.objs.size f cdv)).units + 66 < cLine := by have := hr.un; omega
    have r7 : Room 7 (A.deeper (envOfC "_law_refused" (defScope sRefused) s.heap.objs.size f cdv)) := hr.mono (by decide)
    have r1 : Room 1 (A.deeper (envOfC "_law_refused" (defScope sRefused) s.heap.objs.size f cdv)) := hr.mono (by decide)
    refine ⟨_, PSs.nox (pss_cons (ps_par (i := 0) (j := 1) rfl nd rfl rfl (by decide) rfl rfl (pa_cons (pe_mkT o_mk r7 (by rfl) pe_int (pe_lit 6 (d := .list (psA.map pcD)) rfl)) (pa_cons (pe_mkT o_mk r7 (by rfl) pe_int (pe_lst pa_nil)) pa_nil)) (by rfl))
      (pss_cons (ps_for PassesOwn.never rfl (pi_list (pe_lit 7 (d := .list bads1) rfl)) (pg_name (i := 2) nd rfl (Or.inl rfl))
        (pss_cons (ps_for PassesOwn.never rfl (pi_range1 (by rfl) z_range (pa_cons pe_int pa_nil)) (pg_name (i := 3) nd rfl (Or.inl rfl))
          (pss_one (ps_if (pt_cmpR (op_neD hu) (pe_callO o_c hr (by rfl) (pa_cons (pv 3) (pa_cons (pe_lst (pa_cons (pv 2) (pa_cons pe_non (pa_cons pe_non pa_nil)))) pa_nil))) (pe_callO o_o r1 (by rfl) (pa_cons pe_int (pa_cons (pv 2) pa_nil))) (nomark _)) (pss_one (ps_ret pe_bl)) pss_nil)))
        (pss_one (ps_if (pt_cmpR (op_neD hu) (pe_callO o_c hr (by rfl) (pa_cons pe_int (pa_cons (pe_lst (pa_cons (pv 0) (pa_cons (pv 2) pa_nil))) pa_nil))) (pe_callO o_o r1 (by rfl) (pa_cons pe_int (pa_cons (pv 2) pa_nil))) (nomark _)) (pss_one (ps_ret pe_bl)) pss_nil))))
      (pss_cons (ps_if (PW.pt (pw_or (pt_cmpR (op_neI hu66) (pe_callO o_c hr (by rfl) (pa_cons pe_int (pa_cons (pe_lst (pa_cons (pv 0) (pa_cons (pv 1) pa_nil))) pa_nil))) (pe_callO o_o r1 (by rfl) (pa_cons pe_int (pa_cons (pv 1) pa_nil))) (nomark _))
          (pw_or1 (pt_cmpR (op_neI hu66) (pe_callO o_c hr (by rfl) (pa_cons pe_int (pa_cons (pe_lst (pa_cons (pv 1) (pa_cons (pv 0) pa_nil))) pa_nil))) (pe_callO o_o r1 (by rfl) (pa_cons pe_int (pa_cons (pv 0) pa_nil))) (nomark _))))) (pss_one (ps_ret pe_bl)) pss_nil)
      (pss_cons (ps_for PassesOwn.never rfl (pi_list (pe_lit 5 (d := .list bads2) rfl)) (pg_name (i := 2) nd rfl (Or.inl rfl))
        (pss_one (ps_if (PW.pt (pw_or (pt_cmpR (op_neD hu) (pe_callO o_c hr (by rfl) (pa_cons pe_int (pa_cons (pe_lst (pa_cons (pv 0) (pa_cons (pv 2) pa_nil))) pa_nil))) (pe_callO o_o r1 (by rfl) (pa_cons pe_int (pa_cons (pv 2) pa_nil))) (nomark _))
          (pw_or1 (pt_cmpR (op_neD hu) (pe_callO o_c hr (by rfl) (pa_cons pe_int (pa_cons (pe_lst (pa_cons (pv 0) (pa_cons (pv 2) (pa_cons pe_non pa_nil)))) pa_nil))) (pe_callO o_o r1 (by rfl) (pa_cons pe_int (pa_cons (pv 2) pa_nil))) (nomark _))))) (pss_one (ps_ret pe_bl)) pss_nil)))
      (pss_cons (ps_if (PW.pt (pw_or (pt_cmpR (op_neD hu) (pe_callO o_c hr (by rfl) (pa_cons pe_int (pa_cons (pe_lst (pa_cons (pv 0) (pa_cons pe_int (pa_cons pe_non pa_nil)))) pa_nil))) (pe_callO o_o r1 (by rfl) (pa_cons pe_int (pa_cons pe_int pa_nil))) (nomark _))
          (pw_or1 (pt_cmpR op_ne (pe_callB (call_reprD ag hu) (by rfl) z_repr (by decide +kernel) (pa_cons (pe_callO o_c hr (by rfl) (pa_cons pe_int (pa_cons (pe_lst (pa_cons (pv 0) (pa_cons pe_bl pa_nil))) pa_nil))) pa_nil))
            (pe_callB (call_reprD ag hu) (by rfl) z_repr (by decide +kernel) (pa_cons (pe_callO o_o r1 (by rfl) (pa_cons pe_int (pa_cons pe_bl pa_nil))) pa_nil)) (nomark _))))) (pss_one (ps_ret pe_bl)) pss_nil)
      (pss_cons (ps_if (pt_cmpR op_ne (pe_callB (call_reprD ag hu) (by rfl) z_repr (by decide +kernel) (pa_cons (pe_callO o_c hr (by rfl) (pa_cons pe_int (pa_cons (pe_lst (pa_cons (pv 0) (pa_cons pe_bl (pa_cons (pe_lit 5 (d := .list [.tuple [.int 1, .int 2]]) rfl) pa_nil)))) pa_nil))) pa_nil))
            (pe_callB (call_reprD ag hu) (by rfl) z_repr (by decide +kernel) (pa_cons (pe_callO o_o r1 (by rfl) (pa_cons pe_int (pa_cons pe_bl pa_nil))) pa_nil)) (nomark _)) (pss_one (ps_ret pe_bl)) pss_nil)
      (pss_cons (ps_for PassesOwn.never rfl (pi_list (pe_lit 7 (d := .list bads3) rfl)) (pg_name (i := 2) nd rfl (Or.inl rfl))
        (pss_one (ps_if (pt_cmpR (op_neD hu) (pe_callO o_c hr (by rfl) (pa_cons pe_int (pa_cons (pe_lst (pa_cons (pv 0) (pa_cons pe_int (pa_cons (pv 2) pa_nil)))) pa_nil))) (pe_callO o_o r1 (by rfl) (pa_cons pe_int (pa_cons (pv 2) pa_nil))) (nomark _)) (pss_one (ps_ret pe_bl)) pss_nil)))
      (pss_cons (ps_for PassesOwn.never rfl (pi_list (pe_lit 7 (d := .list bads4) rfl)) (pg_name (i := 2) nd rfl (Or.inl rfl))
        (pss_one (ps_if (pt_cmpR (op_neD hu) (pe_callO o_c hr (by rfl) (pa_cons pe_int (pa_cons (pe_lst (pa_cons (pv 1) (pa_cons pe_int (pa_cons (pv 2) pa_nil)))) pa_nil))) (pe_callO o_o r1 (by rfl) (pa_cons pe_int (pa_cons (pv 2) pa_nil))) (nomark _)) (pss_one (ps_ret pe_bl)) pss_nil)))
      (pss_one (ps_ret pe_bl)))))))))), ?_⟩
    have z1 : ∀ d, d ∈ bads1 → okD d = true ∧ noBool d = true := fun d hd => by
      have z := List.all_eq_true.mp okb1 d hd
      simpa only [Bool.and_eq_true] using z
    have z2 : ∀ d, d ∈ bads2 → okD d = true ∧ cntD d = false ∧ belD 4 d = false := fun d hd => by
      have z := List.all_eq_true.mp okb2 d hd
      simpa only [Bool.and_eq_true, Bool.not_eq_true'] using z
    have z3 : ∀ d, d ∈ bads3 → okD d = true ∧ shFs d = true ∧ formsD 1 1 d = false := fun d hd => by
      have z := List.all_eq_true.mp okb3 d hd
      simpa only [Bool.and_eq_true, Bool.not_eq_true'] using z
    have z4 : ∀ d, d ∈ bads4 → okD d = true ∧ shFs d = true ∧ formsD 1 2 d = false := fun d hd => by
      have z := List.all_eq_true.mp okb4 d hd
      simpa only [Bool.and_eq_true, Bool.not_eq_true'] using z
    have n2 : 2 ≤ sizeLine := by omega
    have n3 : 3 ≤ sizeLine := by omega
    have m30 := pks_m30 pkA
    -- the two texts
    refine fun v1 Ha sa dv1 => ?_
    obtain ⟨pl, rfl, hL⟩ := da_pcs psA dv1
    refine ⟨1, 200, pl, psA, rfl, rfl, by decide, hL, pks_pq pkA (by decide), (by have : psA.length = 1 := rfl; omega), fun Hb x d sb nx hx ni ex ld dn => ?_⟩
    refine ⟨(by show 0 ≤ sizeLine; omega), fun l0 nl0 => ?_⟩
    have s0 := same_new (o := .lst []) nl0
    refine ⟨2, 200, l0, [], rfl, rfl, by decide, ⟨[], upd_same, .nil⟩, pks_pq (fun p hp => by cases hp) (by decide), (by show (0 : Int) ≤ 2000; decide), fun Hc y d2 sc ny hy ni2 ex2 ld2 dn2 => ⟨_, _, rfl, ?_⟩⟩
    have tx := hx.keep (s0.trans sc)
    have S0 := (sa.trans sb).trans (s0.trans sc)
    clear nl0 sa sb sc s0 hx
    -- the first loop
    refine fun l1 H1 s1 d1 => ?_
    cases d1 with
    | @lst a1 xs1 _ h1 da1 =>
    refine ⟨a1, rfl, ⟨_, SqL.of h1⟩, for_list (K := K) (a := a1) (xs := xs1) (fun i σ H' => (∃ u1 u2, σ = [some (.ref x), some (.ref y), u1, u2]) ∧ Same H1 H') ⟨⟨_, _, rfl⟩, Same.refl _⟩ (fun i σ H' _ p => SqL.of (p.2 _ _ h1)) ?_ ?_⟩
    · rintro i b σ H' hi ⟨⟨u1, u2, rfl⟩, sm⟩
      obtain ⟨d, ed, hd⟩ := da1.get hi
      obtain ⟨o, k1⟩ := z1 d (List.mem_of_getElem? ed)
      have hd1 := hd.keep sm
      refine ⟨3, rfl, by decide, by decide, for_range (lo := 0) (n := 3) (fun i σ H2 => (∃ u2, σ = [some (.ref x), some (.ref y), some b, u2]) ∧ Same H' H2) ⟨⟨_, rfl⟩, Same.refl _⟩ ?_ ?_⟩
      · rintro wh σ H2 hwh ⟨⟨u2, rfl⟩, sm2⟩
        rw [Int.zero_add]
        refine ⟨_, rfl, _, rfl, n3, fun l nl => ?_⟩
        have hl := same_new (o := .lst [b, .non, .non]) nl
        have hd2 := (hd1.keep sm2).keep hl
        have n := da_noT (K := K) hd2 k1
        have hask : Ask K C (upd H2 l (.lst [b, .non, .non])) wh [b, .non, .non] 0 b := by
          match wh, hwh with
          | 0, _ => exact .t0 n
          | 1, _ => exact .t1 n
          | 2, _ => exact .t2 n
        exact ask_ (K := K) (i := 2) (σ := [some (.ref x), some (.ref y), some b, some (.int wh)]) upd_same hask o hd2 rfl fun H5 sm5 => ⟨false, rfl, iteF ⟨⟨_, rfl⟩, (sm2.trans hl).trans sm5⟩⟩
      · rintro σ H2 ⟨⟨u2, rfl⟩, sm2⟩
        refine ⟨_, rfl, _, rfl, n2, fun l nl => ?_⟩
        have hl := same_new (o := .lst [.ref x, b]) nl
        have hd2 := (hd1.keep sm2).keep hl
        have tx2 := (((tx.keep s1).keep sm).keep sm2).keep hl
        exact ask_ (K := K) (i := 2) (wh := 0) (σ := [some (.ref x), some (.ref y), some b, u2]) upd_same (.j1 tx2 (da_noT hd2 k1)) o hd2 rfl fun H5 sm5 => ⟨false, rfl, iteF ⟨⟨_, _, rfl⟩, ((sm.trans sm2).trans hl).trans sm5⟩⟩
    rintro σ H2 ⟨⟨u1, u2, rfl⟩, sm2⟩
    have S2 := s1.trans sm2
    have tx2 := tx.keep S2
    have ty2 := hy.keep S2
    have T2 := S0.trans S2
    clear h1 da1 sm2 S2 S0
    -- texts that are not alike
    refine ⟨_, rfl, _, rfl, n2, fun l3 nl3 => ?_⟩
    have s3 := same_new (o := .lst [.ref x, .ref y]) nl3
    refine askI_ (K := K) (i := 1) (wh := 0) (σ := [some (.ref x), some (.ref y), u1, u2]) upd_same (.j2 (tx2.keep s3) (ty2.keep s3) (by decide)) rfl fun H4 s4 => ⟨false, rfl, ?_⟩
    have tx4 := (tx2.keep s3).keep s4
    have ty4 := (ty2.keep s3).keep s4
    refine ⟨_, rfl, _, rfl, n2, fun l5 nl5 => ?_⟩
    have s5 := same_new (o := .lst [.ref y, .ref x]) nl5
    refine askI_ (K := K) (i := 0) (wh := 0) (σ := [some (.ref x), some (.ref y), u1, u2]) upd_same (.j2 (ty4.keep s5) (tx4.keep s5) (by decide)) rfl fun H6 s6 => ⟨false, rfl, iteF ?_⟩
    have tx6 := (tx4.keep s5).keep s6
    have ty6 := (ty4.keep s5).keep s6
    have T6 := ((T2.trans s3).trans s4).trans (s5.trans s6)
    clear nl3 nl5 s3 s4 s5 s6 tx2 ty2 tx4 ty4 T2 tx hy s1
    -- the second loop
    refine fun l7 H7 s7 d7 => ?_
    cases d7 with
    | @lst a7 xs7 _ h7 da7 =>
    have tx7 := tx6.keep s7
    refine ⟨a7, rfl, ⟨_, SqL.of h7⟩, for_list (K := K) (a := a7) (xs := xs7) (fun i σ H' => (∃ u1 u2, σ = [some (.ref x), some (.ref y), u1, u2]) ∧ Same H7 H') ⟨⟨_, _, rfl⟩, Same.refl _⟩ (fun i σ H' _ p => SqL.of (p.2 _ _ h7)) ?_ ?_⟩
    · rintro i b σ H' hi ⟨⟨u1, u2, rfl⟩, sm⟩
      obtain ⟨d, ed, hd⟩ := da7.get hi
      obtain ⟨o, k1, k2⟩ := z2 d (List.mem_of_getElem? ed)
      have hd1 := hd.keep sm
      refine ⟨_, rfl, _, rfl, n2, fun l nl => ?_⟩
      have hl := same_new (o := .lst [.ref x, b]) nl
      have hd2 := hd1.keep hl
      refine ask_ (K := K) (i := 2) (wh := 1) (σ := [some (.ref x), some (.ref y), some b, u2]) upd_same (.r1 ((tx7.keep sm).keep hl) (da_kn hd2) (by rw [da_cnt hd2]; exact k1)) o hd2 rfl fun H5 sm5 => ⟨false, rfl, ?_⟩
      refine ⟨_, rfl, _, rfl, n3, fun l nl => ?_⟩
      have hl2 := same_new (o := .lst [.ref x, b, .non]) nl
      have hd3 := (hd2.keep sm5).keep hl2
      exact ask_ (K := K) (i := 2) (wh := 2) (σ := [some (.ref x), some (.ref y), some b, u2]) upd_same (.p1 ((((tx7.keep sm).keep hl).keep sm5).keep hl2) (da_kn hd3) (by rw [da_bel 4 hd3]; exact k2)) o hd3 rfl fun H6 sm6 => ⟨false, rfl, iteF ⟨⟨_, _, rfl⟩, ((sm.trans hl).trans sm5).trans (hl2.trans sm6)⟩⟩
    rintro σ H8 ⟨⟨v1, v2, rfl⟩, sm8⟩
    have tx8 := tx7.keep sm8
    have ty8 := (ty6.keep s7).keep sm8
    have T8 := (T6.trans s7).trans sm8
    clear h7 da7 s7 sm8 tx7 tx6 ty6 T6
    -- numbers
    refine ⟨_, rfl, n3, fun l9 nl9 => ?_⟩
    have s9 := same_new (o := .lst [.ref x, .int 4, .non]) nl9
    have tx9 := tx8.keep s9
    refine ⟨2, l9, _, 2, .int 4, rfl, upd_same, .p1 tx9 (.int 4) rfl, fun H10 p10 s10 d10 => ⟨2, .int 4, rfl, fun H11 p11 s11 d11 => cmpD (d := .int 4) s11 d10 d11 (.int 4) (by decide +kernel) ⟨false, rfl, ?_⟩⟩⟩
    have S11 := (s9.trans s10).trans s11
    have tx11 := tx8.keep S11
    have tb : ∀ (H : Hp) (p : Addr), Told H p 2 (.bl true) → Dp K H (.ref p) (kD 2 (.bool true)) := fun H p t => t.dp (.bl true)
    have rb : (kD 2 (.bool true)).showable = true ∧ (kD 2 (.bool true)).hasDict = false ∧ (kD 2 (.bool true)).depth ≤ 60 ∧ (kD 2 (.bool true)).shown.length ≤ 100 := by decide +kernel
    obtain ⟨rb1, rb2, rb3, rb4⟩ := rb
    have rb4 : (kD 2 (.bool true)).shown.length ≤ sizeLine := by omega
    have en : (!decide (V.str (kD 2 (.bool true)).shown = V.str (kD 2 (.bool true)).shown)) = false := by rw [decide_eq_true rfl]; rfl
    refine ⟨_, rfl, n2, fun l12 nl12 => ?_⟩
    have s12 := same_new (o := .lst [.ref x, .bl true]) nl12
    have tx12 := tx11.keep s12
    refine ⟨1, l12, _, 2, .bl true, rfl, upd_same, .r1 tx12 (.bl true) rfl, fun H13 p13 s13 d13 => ⟨_, _, rfl, tb _ _ d13, rb1, rb2, rb3, rb4, 2, .bl true, rfl, fun H14 p14 s14 d14 => ⟨_, _, rfl, tb _ _ d14, rb1, rb2, rb3, rb4, rfl, false, congrArg V.bl en, iteF ?_⟩⟩⟩
    have S14 := S11.trans ((s12.trans s13).trans s14)
    have tx14 := tx8.keep S14
    refine ⟨_, rfl, fun vf H15 s15 df => ⟨n3, fun l16 nl16 => ?_⟩⟩
    have s16 := same_new (o := .lst [.ref x, .bl true, vf]) nl16
    have tx16 := (tx14.keep s15).keep s16
    refine ⟨2, l16, _, 2, .bl true, rfl, upd_same, .p1 tx16 (.bl true) rfl, fun H17 p17 s17 d17 => ⟨_, _, rfl, tb _ _ d17, rb1, rb2, rb3, rb4, 2, .bl true, rfl, fun H18 p18 s18 d18 => ⟨_, _, rfl, tb _ _ d18, rb1, rb2, rb3, rb4, rfl, false, congrArg V.bl en, iteF ?_⟩⟩⟩
    have S18 := (S14.trans s15).trans ((s16.trans s17).trans s18)
    have tx18 := tx8.keep S18
    have ty18 := ty8.keep S18
    have T18 := T8.trans S18
    clear nl9 nl12 nl16 d10 d11 d13 d14 d17 d18 df tx16 tx14 tx12 tx11 tx9 tx8 ty8 s9 s10 s11 s12 s13 s14 s15 s16 s17 s18 S11 S14 S18 T8
    -- the third loop
    refine fun l1 H1 s1 d1 => ?_
    cases d1 with
    | @lst a1 xs1 _ h1 da1 =>
    have tx1 := tx18.keep s1
    refine ⟨a1, rfl, ⟨_, SqL.of h1⟩, for_list (K := K) (a := a1) (xs := xs1) (fun i σ H' => (∃ u1 u2, σ = [some (.ref x), some (.ref y), u1, u2]) ∧ Same H1 H') ⟨⟨_, _, rfl⟩, Same.refl _⟩ (fun i σ H' _ p => SqL.of (p.2 _ _ h1)) ?_ ?_⟩
    · rintro i b σ H' hi ⟨⟨u1, u2, rfl⟩, sm⟩
      obtain ⟨d, ed, hd⟩ := da1.get hi
      obtain ⟨o, k1, k2⟩ := z3 d (List.mem_of_getElem? ed)
      have hd1 := hd.keep sm
      refine ⟨_, rfl, _, rfl, n3, fun l nl => ?_⟩
      have hl := same_new (o := .lst [.ref x, .int 1, b]) nl
      have hd2 := hd1.keep hl
      have isf := da_isFs 1 1 hd2 k1
      rw [k2] at isf
      exact ask_ (K := K) (i := 2) (wh := 2) (σ := [some (.ref x), some (.ref y), some b, u2]) upd_same (.p2 (m := 1) (m0 := 1) ((tx1.keep sm).keep hl) (by decide) isf) o hd2 rfl fun H6 sm6 => ⟨false, rfl, iteF ⟨⟨_, _, rfl⟩, (sm.trans hl).trans sm6⟩⟩
    rintro σ H2 ⟨⟨w1, w2, rfl⟩, sm2⟩
    have ty2 := (ty18.keep s1).keep sm2
    have T2 := (T18.trans s1).trans sm2
    clear h1 da1 s1 sm2 tx1 tx18 ty18 T18
    -- the fourth loop
    refine fun l3 H3 s3 d3 => ?_
    cases d3 with
    | @lst a3 xs3 _ h3 da3 =>
    have ty3 := ty2.keep s3
    refine ⟨a3, rfl, ⟨_, SqL.of h3⟩, for_list (K := K) (a := a3) (xs := xs3) (fun i σ H' => (∃ u1 u2, σ = [some (.ref x), some (.ref y), u1, u2]) ∧ Same H3 H') ⟨⟨_, _, rfl⟩, Same.refl _⟩ (fun i σ H' _ p => SqL.of (p.2 _ _ h3)) ?_ ?_⟩
    · rintro i b σ H' hi ⟨⟨u1, u2, rfl⟩, sm⟩
      obtain ⟨d, ed, hd⟩ := da3.get hi
      obtain ⟨o, k1, k2⟩ := z4 d (List.mem_of_getElem? ed)
      have hd1 := hd.keep sm
      refine ⟨_, rfl, _, rfl, n3, fun l nl => ?_⟩
      have hl := same_new (o := .lst [.ref y, .int 1, b]) nl
      have hd2 := hd1.keep hl
      have isf := da_isFs 1 2 hd2 k1
      rw [k2] at isf
      exact ask_ (K := K) (i := 2) (wh := 2) (σ := [some (.ref x), some (.ref y), some b, u2]) upd_same (.p2 (m := 1) (m0 := 2) ((ty3.keep sm).keep hl) (by decide) isf) o hd2 rfl fun H6 sm6 => ⟨false, rfl, iteF ⟨⟨_, _, rfl⟩, (sm.trans hl).trans sm6⟩⟩
    rintro σ H4 ⟨_, sm4⟩
    exact q H4 ((T2.trans s3).trans sm4)
end
end K5
set_option Elab.async false
set_option linter.all false
set_option maxRecDepth 100000
set_option maxHeartbeats 16000000
namespace K5
open PySem PySem.Spec PyProof.Rows L2 XV NP
/-! ### the law -/
abbrev sLaw : Stmt := top 86
abbrev nLaw : List Str := ["_law_script", "_law_index", "_law_generator_here", "_law_many", "_law_one", "_law_other", "_law_text", "_law_whole", "_law_more"]
theorem scLaw : FnScope nLaw ["_law_script"] (defScope sLaw) := ⟨rfl, rfl, rfl, by decide +kernel, rfl, by decide +kernel, by decide +kernel⟩
/-! a word of one letter -/
def aN (n : Nat) : Str := Txt.mul "a" (n : Int)
theorem aN_cs (n : Nat) : cs (aN n) = pw [97] n := by
  unfold aN
  rw [cs_mul "a" (Int.natCast_nonneg n), Int.toNat_natCast]
  rfl
theorem aN_len (n : Nat) : (cs (aN n)).length = n := by
  rw [aN_cs, pw_len]
  exact Nat.mul_one n
def wN (n : Nat) : Pc := (aN n, 1, [])
theorem wN_pi (n : Nat) : pi (wN n) = (pw [97] n, 1, []) := by
  show (cs (aN n), _, _) = _
  rw [aN_cs]
  rfl
theorem pw97_ne {n : Nat} (h : 1 ≤ n) : pw [97] n ≠ [] := fun e => by
  have := congrArg List.length e
  rw [pw_len] at this
  simp at this
  omega
theorem step_w {st : List (N5.Pi Nat) × List Nat} {n : Nat} (h : 1 ≤ n) : N5.stepC 0 st (pw [97] n, 1, []) = (st.1, st.2 ++ pw [97] n) := by
  unfold N5.stepC
  rw [if_neg (fun z => z.elim (pw97_ne h) fun z => by cases z.1), if_pos (show N5.plainB ((pw [97] n, (1 : Int), ([] : List Int)) : N5.Pi Nat).2.2 = true from rfl)]
  show (st.1, st.2 ++ pw (pw [97] n) 1) = _
  rw [pw_one]
theorem nrm_w {n : Nat} (h : 1 ≤ n) : N5.nrmC 0 ([wN n].map pi) = [wN n].map pi := by
  rw [List.map_cons, List.map_nil, wN_pi]
  unfold N5.nrmC
  rw [List.foldl_cons, List.foldl_nil, step_w h]
  show N5.addFC 0 [] ([] ++ pw [97] n) = _
  rw [List.nil_append]
  unfold N5.addFC
  rw [if_neg (pw97_ne h)]
  rfl
theorem nrm_w2 {a b : Nat} (h : 1 ≤ a) (k : 1 ≤ b) : N5.nrmC 0 ([wN a, wN b].map pi) = [wN (a + b)].map pi := by
  rw [List.map_cons, List.map_cons, List.map_nil, List.map_cons, List.map_nil, wN_pi, wN_pi, wN_pi]
  unfold N5.nrmC
  rw [List.foldl_cons, List.foldl_cons, List.foldl_nil, step_w h, step_w k]
  show N5.addFC 0 [] ([] ++ pw [97] a ++ pw [97] b) = _
  rw [List.nil_append, ← pw_add]
  unfold N5.addFC
  rw [if_neg (pw97_ne (by omega))]
  rfl
theorem aN_ab (n : Nat) : AB (aN n) := fun c hc => by
  rw [aN_cs] at hc
  unfold pw at hc
  obtain ⟨l, hl, h⟩ := List.mem_flatten.mp hc
  rw [(List.mem_replicate.mp hl).2] at h
  exact .inl (List.mem_singleton.mp h)
theorem me_w (n : Nat) : me1 (wN n) = (n : Int) := by
  show ((aN n).length : Int) * (1 + if (∀ x ∈ ([] : List Int), x = 0) then 0 else 1) = _
  rw [if_pos (fun x hx => by cases hx), cs_len, aN_len]
  omega
theorem pz_w (n : Nat) : Pz 0 100 (wN n) := ⟨⟨by show (0 : Int) ≤ 1; decide, by show (1 : Int) < 2 ^ 100; decide +kernel⟩, rfl, fun x hx => by cases hx⟩
theorem pq_w {l : List Pc} (h : ∀ p ∈ l, ∃ n, n ≤ 2000 ∧ p = wN n) (l4 : l.length ≤ 90) : Pq 0 100 l := by
  refine ⟨by decide, fun p hp => ?_, fun p hp => ?_, l4⟩
  · obtain ⟨n, _, rfl⟩ := h p hp
    exact pz_w n
  · obtain ⟨n, hn, rfl⟩ := h p hp
    exact ⟨aN_ab n, by show (cs (aN n)).length ≤ 2000; rw [aN_len]; exact hn⟩
theorem pl_w {H : Hp} {l t f : Addr} {n : Nat} (hl : H l = some (.lst [.ref t])) (ht : H t = some (.tup [.str (aN n), .ref f])) (hf : H f = some (.tup [.int 1])) : PL H l [wN n] := ⟨_, hl, .cons ⟨t, f, rfl, ht, hf⟩ .nil⟩
def tWh (n : Nat) : TE := fun _ H Q => ∀ (l : Addr) (H' : Hp), Same H H' → PL H' l [wN n] → Q (.ref l) H'
abbrev mulR : R2 := fun x y H Q => ∃ (z : Str) (i : Int), x = .str z ∧ y = .int i ∧ MulOk z i ∧ Q (.str (Txt.mul z i)) H
theorem pe_whole {X : Cx} {e : Expr} (n : Nat) (hk : MulOk "a" (n : Int)) (h : PE X e (tLst (tCons (tTup (tCons (tOp mulR (tC (.str "a")) (tC (.int (n : Int)))) (tCons (tLit (.tuple (([1] : List Int).map PyData.int))) tNil))) tNil))) : PE X e (tWh n) := by
  refine PE.le h fun σ H Q q => ?_
  refine ⟨_, _, rfl, rfl, hk, fun v H1 s1 d1 => ?_⟩
  obtain ⟨f, rfl, hf⟩ := da_tup [1] d1
  have szl := sizeLine_eq
  refine ⟨(by show 2 ≤ sizeLine; omega), fun t nt => ⟨(by show 1 ≤ sizeLine; omega), fun l nl => ?_⟩⟩
  have s2 := same_new (o := .tup [.str (aN n), .ref f]) nt
  have s3 := same_new (o := .lst [.ref t]) nl
  exact q l _ ((s1.trans s2).trans s3) (pl_w upd_same (s3 _ _ upd_same) (s3 _ _ (s2 _ _ hf)))
/-! the text of two unknowns -/
def psB : List Pc := [("ab", 1, [1, 0]), ("b", 0, [0, 3])]
def dB : List Pc := [("ab", 0, [1, 0]), ("a", 1, [0, 0]), ("b", 0, [0, 3]), ("b", 1, [0, 0])]
def lB : List Pc := dB.map (led 1 [[1, 2], [0, 0]])
def rB : List Pc := [("ab", 0, [2]), ("abab", 1, [0])]
theorem pkB' : ∀ p ∈ psB, Pk 2 p := pkB_ok (by decide +kernel)
theorem pkD : ∀ p ∈ dB, Pk 2 p := pkB_ok (by decide +kernel)
theorem pkL : ∀ p ∈ lB, Pk 1 p := pkB_ok (by decide +kernel)
theorem nrmB : N5.nrmC 2 (psB.map pi) = dB.map pi := by decide +kernel
theorem nrmL : N5.nrmC 1 (lB.map pi) = rB.map pi := by decide +kernel
theorem ab_of {m : Nat} {l : List Pc} (h : ∀ p ∈ l, Pk m p) : ∀ p ∈ l, AB p.1 := fun p hp => (h p hp).w
theorem abR : ∀ p ∈ rB, AB p.1 := ab_of (m := 1) (pkB_ok (by decide +kernel))
theorem d2D {K : PySem.W.Frag} {H : Hp} {l : Addr} {v : L2.V} {d : PyData} (h : H l = some (.lst [.non, v])) (hv : Da H v d) : Dp K H (.ref l) (.list [.none, d]) := .lst (SqL.of h) (.cons .non (.cons hv.dp .nil))
theorem sh2 (i : Int) : SeqAt.shaped (.list [.none, .int i]) = true := by
  unfold SeqAt.shaped
  simp [PyData.canLay0, PyData.canLayAll0, PyData.depth, PyData.depthAll]
theorem mulA {n : Int} (h : n = 1000 ∨ n = 1001 ∨ n = 2000) : MulOk "a" n := by
  rcases h with rfl | rfl | rfl <;> exact ⟨by decide +kernel, fun _ _ => by decide +kernel, fun _ _ => by decide +kernel⟩
def spLaw (K : PySem.W.Frag) : Sp := fun vs H Q _ => ∃ (a : Addr) (ns : List Int), vs = [.ref a] ∧ SqL K H a (ns.map L2.V.int) ∧ ns.length ≤ 63 ∧ ∀ H' : Hp, Q (.bl true) H'
section
variable {P : Program} {w : World} {K : PySem.W.Frag} {mg : Str → Option Value} {base : Heap} {f : Addr} {fd : FuncData} {C : Addr}
theorem ok_law (F : FnP K "law" sLaw f fd) (T : TT K mg C) (o_mk : OkMkT P w K mg base C) (o_eq : OkEq P w K mg base C) (o_piecesT : OkMt P w K mg base C "pieces" (spPiecesT C)) (o_gen : Ok P w K mg base "_law_generator" 1 ["_law_script", "_law_index"] (spGen K)) (o_rand : Ok P w K mg base "_law_random" 2 ["_law_generator_here", "_law_bound"] spRand)
    (o_pieces : Ok P w K mg base "_law_pieces" 5 ["_law_generator_here", "_law_many", "_law_most", "_law_great"] spLPieces) (o_jg : Ok P w K mg base "_law_joined_good" 12 ["_law_generator_here", "_law_many", "_law_one", "_law_other"] spJG)
    (o_rg : Ok P w K mg base "_law_repeated_good" 12 ["_law_generator_here", "_law_many", "_law_one"] spRG) (o_pg : Ok P w K mg base "_law_replaced_good" 12 ["_law_generator_here", "_law_many", "_law_one"] spPG)
    (o_joined : Ok P w K mg base "joined" 8 ["one", "other"] (cm (spJoined K C))) (o_repeated : Ok P w K mg base "repeated" 8 ["text", "times"] (cm (spRepeated K C))) (o_replaced : Ok P w K mg base "replaced" 9 ["text", "many", "forms"] (cm (spReplaced K C)))
    (o_told : Ok P w K mg base "_law_told" 10 ["_law_which", "_law_given"] (spTold C)) (o_ref : OkG P w K mg base "_law_refused" 11 [] spRefused) (z_range : mg "range" = none) : FnG P w K mg base CX0 13 f fd ["_law_script"] (spLaw K) := by
  have nd := scLaw.nd
  refine okG F scLaw (fun vs H Q E h => ?_) (fun cdv A outer s H vs Q E ag hr h => ?_)
  · obtain ⟨a, ns, rfl, _⟩ := h
    rfl
  · obtain ⟨a, ns, rfl, hS, hlen, q⟩ := h
    have hu := hr.units
    have szl := sizeLine_eq
    have r12 : Room 12 (A.deeper (envOfC "law" (defScope sLaw) s.heap.objs.size f cdv)) := hr
    have r11 := r12.mono (by decide : 11 ≤ 12)
    have r10 := r12.mono (by decide : 10 ≤ 12)
    have r9 := r12.mono (by decide : 9 ≤ 12)
    have r8 := r12.mono (by decide : 8 ≤ 12)
    have r7 := r12.mono (by decide : 7 ≤ 12)
    have r5 := r12.mono (by decide : 5 ≤ 12)
    have r2 := r12.mono (by decide : 2 ≤ 12)
    have r1 := r12.mono (by decide : 1 ≤ 12)
    refine ⟨_, PSs.nox (C8.pss_cut (ps_for PassesOwn.never rfl (pi_range1 (by rfl) z_range (pa_cons pe_int pa_nil)) (pg_name (i := 1) nd rfl (Or.inl rfl))
        (pss_cons (ps_set (i := 2) nd rfl (Or.inl rfl) (pe_callO o_gen r1 (by rfl) (pa_cons (pv 0) (pa_cons (pv 1) pa_nil))))
        (pss_cons (ps_set (i := 3) nd rfl (Or.inl rfl) (pe_callO o_rand r2 (by rfl) (pa_cons (pv 2) (pa_cons pe_int pa_nil))))
        (pss_cons (ps_par (i := 4) (j := 5) rfl nd rfl rfl (by decide) rfl rfl (pa_cons (pe_callO o_pieces r5 (by rfl) (pa_cons (pv 2) (pa_cons (pv 3) (pa_cons pe_int (pa_cons pe_bl pa_nil))))) (pa_cons (pe_callO o_pieces r5 (by rfl) (pa_cons (pv 2) (pa_cons (pv 3) (pa_cons pe_int (pa_cons pe_bl pa_nil))))) pa_nil)) (by rfl))
        (pss_cons (ps_if (PW.pt (pw_or (pt_not (pt_val (pe_callO o_jg r12 (by rfl) (pa_cons (pv 2) (pa_cons (pv 3) (pa_cons (pv 4) (pa_cons (pv 5) pa_nil))))))) (pw_or1 (pt_not (pt_val (pe_callO o_rg r12 (by rfl) (pa_cons (pv 2) (pa_cons (pv 3) (pa_cons (pv 4) pa_nil))))))))) (pss_one (ps_ret pe_bl)) pss_nil)
        (pss_one (ps_if (pt_not (pt_val (pe_callO o_pg r12 (by rfl) (pa_cons (pv 2) (pa_cons (pv 3) (pa_cons (pv 4) pa_nil)))))) (pss_one (ps_ret pe_bl)) pss_nil)))))))
      (pss_cons (ps_set (i := 6) nd rfl (Or.inl rfl) (pe_mkT o_mk r7 (by rfl) pe_int (pe_lit 6 (d := .list (psB.map pcD)) rfl)))
      (C8.pss_cut (ps_if (PW.pt (pw_or (pt_cmpR (op_neD hu) (pe_piecesT o_piecesT T (pe_callO o_replaced r9 (by rfl) (pa_cons (pv 6) (pa_cons pe_int (pa_cons (pe_lst (pa_cons (pe_lit 4 (d := .tuple (([1, 2] : List Int).map PyData.int)) rfl) (pa_cons (pe_lit 4 (d := .tuple (([0, 0] : List Int).map PyData.int)) rfl) pa_nil))) pa_nil)))) r1) (pe_lit 6 (d := psD rB) rfl) (nomark _))
          (pw_or1 (pt_not (pt_cmpR (op_eqT o_eq T r1) (pe_callO o_joined r8 (by rfl) (pa_cons (pv 6) (pa_cons (pv 6) pa_nil))) (pe_callO o_repeated r8 (by rfl) (pa_cons (pv 6) (pa_cons pe_int pa_nil))) (nomark _)))))) (pss_one (ps_ret pe_bl)) pss_nil)
      (pss_cons (ps_set (i := 7) nd rfl (Or.inl rfl) (pe_mkT o_mk r7 (by rfl) pe_int (pe_whole 1000 (mulA (.inl rfl)) (pe_lst (pa_cons (pe_tup (pa_cons (pe_op op_mulS pe_str pe_int) (pa_cons (pe_lit 3 (d := .tuple (([1] : List Int).map PyData.int)) rfl) pa_nil))) pa_nil)))))
      (pss_cons (ps_set (i := 8) nd rfl (Or.inl rfl) (pe_mkT o_mk r7 (by rfl) pe_int (pe_whole 1001 (mulA (.inr (.inl rfl))) (pe_lst (pa_cons (pe_tup (pa_cons (pe_op op_mulS pe_str pe_int) (pa_cons (pe_lit 3 (d := .tuple (([1] : List Int).map PyData.int)) rfl) pa_nil))) pa_nil)))))
      (pss_cons (ps_if (PW.pt (pw_or (pt_cmpR (op_neD hu) (pe_callO o_told r10 (by rfl) (pa_cons pe_int (pa_cons (pe_lst (pa_cons (pv 7) (pa_cons (pv 8) pa_nil))) pa_nil))) (pe_lit 3 (d := .list [.none, .int 2001]) rfl) (nomark _))
          (pw_or1 (pt_cmpR (op_neD hu) (pe_piecesT o_piecesT T (pe_callO o_joined r8 (by rfl) (pa_cons (pv 7) (pa_cons (pv 7) pa_nil))) r1) (pe_whole 2000 (mulA (.inr (.inr rfl))) (pe_lst (pa_cons (pe_tup (pa_cons (pe_op op_mulS pe_str pe_int) (pa_cons (pe_lit 3 (d := .tuple (([1] : List Int).map PyData.int)) rfl) pa_nil))) pa_nil))) (nomark _))))) (pss_one (ps_ret pe_bl)) pss_nil)
      (pss_one (ps_ret (pe_and (pe_cmpR (op_eqD hu) (pe_piecesT o_piecesT T (pe_callO o_repeated r8 (by rfl) (pa_cons (pv 7) (pa_cons pe_int pa_nil))) r1) (pe_whole 2000 (mulA (.inr (.inr rfl))) (pe_lst (pa_cons (pe_tup (pa_cons (pe_op op_mulS pe_str pe_int) (pa_cons (pe_lit 3 (d := .tuple (([1] : List Int).map PyData.int)) rfl) pa_nil))) pa_nil))) (nomark _))
          (pe_and (pe_cmpR (op_eqD hu) (pe_callO o_told r10 (by rfl) (pa_cons pe_int (pa_cons (pe_lst (pa_cons (pv 7) (pa_cons pe_int pa_nil))) pa_nil))) (pe_lit 3 (d := .list [.none, .int 3000]) rfl) (nomark _))
          (pe_one (pe_callG0 o_ref ag r11 (by rfl))))))))))))), ?_⟩
    refine ⟨fun σ' H' => ∃ x1 x2 x3 x4 x5, σ' = [some (.ref a), x1, x2, x3, x4, x5, none, none, none], ?_, ?_⟩
    · refine ⟨3, rfl, by decide, by decide, for_range (lo := 0) (n := 3) (fun i σ H' => (∃ x1 x2 x3 x4 x5, σ = [some (.ref a), x1, x2, x3, x4, x5, none, none, none]) ∧ Same H H') ⟨⟨_, _, _, _, _, rfl⟩, Same.refl _⟩ ?_ (fun σ' H' z => z.1)⟩
      rintro i σ H' hi ⟨⟨x1, x2, x3, x4, x5, rfl⟩, sm⟩
      rw [Int.zero_add]
      refine ⟨_, rfl, _, rfl, a, ns, i, rfl, sm.seq hS, by omega, fun H1 g s1 ng d1 => ?_⟩
      refine ⟨_, rfl, g, 1000 * i, 4, rfl, d1, by omega, by decide, by decide +kernel, fun H2 r r0 r4' b2 d2 => ?_⟩
      obtain ⟨m, rfl⟩ := Int.eq_ofNat_of_zero_le r0
      have hm : m ≤ 3 := by omega
      refine ⟨_, rfl, _, rfl, g, 1000 * i + 20, m, 4, rfl, by decide, hm, d2, by omega, fun H3 pl ps npl hL hk l4 b3 d3 => ?_⟩
      refine ⟨_, rfl, _, rfl, g, 1000 * i + 20 + 10000, m, 4, rfl, by decide, hm, d3, by omega, fun H4 ql qs nql hM hk2 k4 b4 d4 => ⟨_, _, rfl, ?_⟩⟩
      have hL4 := hL.but d3 b4
      refine ⟨_, rfl, _, rfl, _, rfl, _, rfl, g, 1000 * i + 20 + 10000 + 10000, m, pl, ql, ps, qs, rfl, hm, hL4, hM, hk, hk2, l4, k4, d4, by omega, fun H5 b5 d5 => ⟨true, rfl, iteF ?_⟩⟩
      have hL5 := hL4.but d4 b5
      refine ⟨_, rfl, _, rfl, _, rfl, g, 1000 * i + 20 + 10000 + 10000 + 60, m, pl, ps, rfl, hm, hL5, hk, l4, d5, by omega, fun H6 b6 d6 => ⟨true, rfl, iteF ?_⟩⟩
      have hL6 := hL5.but d5 b6
      refine ⟨_, rfl, _, rfl, _, rfl, g, 1000 * i + 20 + 10000 + 10000 + 60 + 40, m, pl, ps, rfl, hm, hL6, hk, l4, d6, by omega, fun H7 b7 d7 => ⟨true, rfl, iteF ⟨⟨_, _, _, _, _, rfl⟩, fun b o e => ?_⟩⟩⟩
      have e1 := sm _ _ e
      exact (((((b2.trans b3).trans b4).trans b5).trans b6).trans b7) _ _ (fun z => by rw [z, ng] at e1; cases e1) (s1 _ _ e1)
    rintro σ H1 ⟨x1, x2, x3, x4, x5, rfl⟩
    have mD := pks_m30 pkD
    have mL := pks_m30 pkL
    have mB := pks_m30 pkB'
    have pkDD : ∀ p ∈ dB ++ dB, Pk 2 p := pkB_ok (by decide +kernel)
    have mDD := pks_m30 pkDD
    have lD : dB.length = 4 := rfl
    have lL : lB.length = 4 := rfl
    have lBB : psB.length = 2 := rfl
    have lDD : (dB ++ dB).length = 8 := rfl
    -- the text
    refine fun v1 H2 s2 dv1 => ?_
    obtain ⟨pl, rfl, hL⟩ := da_pcs psB dv1
    refine ⟨2, 200, pl, psB, rfl, rfl, by decide, hL, pks_pq pkB' (by decide), by omega, fun H3 x d s3 nx hx ni ex ld dn => ?_⟩
    obtain rfl : d = dB := pi_inj (ex.trans nrmB)
    refine ⟨fun σ' H' => ∃ x1 x2 x3 x4 x5 x6, σ' = [some (.ref a), x1, x2, x3, x4, x5, x6, none, none], ?_, ?_⟩
    · refine ⟨_, rfl, fun u1 Ha sa da => fun u2 Hb sb db => ⟨(by show 2 ≤ sizeLine; omega), fun la nla => ?_⟩⟩
      obtain ⟨f1, rfl, hf1⟩ := da_tup [1, 2] da
      obtain ⟨f2, rfl, hf2⟩ := da_tup [0, 0] db
      have sl := same_new (o := .lst [.ref f1, .ref f2]) nla
      have tx := ((hx.keep sa).keep sb).keep sl
      have fs : Fs (upd Hb la (.lst [.ref f1, .ref f2])) la 1 [(f1, [1, 2]), (f2, [0, 0])] := by
        refine ⟨upd_same, fun p hp => ?_⟩
        rcases List.mem_cons.mp hp with rfl | hp
        · exact ⟨sl _ _ (sb _ _ hf1), rfl, fun x hx => by
            rcases List.mem_cons.mp hx with rfl | hx
            · exact ⟨by decide, by decide +kernel⟩
            · rw [List.mem_singleton.mp hx]
              exact ⟨by decide, by decide +kernel⟩⟩
        · rw [List.mem_singleton.mp hp]
          exact ⟨sl _ _ hf2, rfl, fun x hx => by
            rcases List.mem_cons.mp hx with rfl | hx
            · exact ⟨by decide, by decide +kernel⟩
            · rw [List.mem_singleton.mp hx]
              exact ⟨by decide, by decide +kernel⟩⟩
      refine ⟨.ref x, .int 1, .ref la, rfl, .inr ⟨x, 2, dB, rfl, tx, .int 1, .inr ⟨1, rfl, by decide, .inr ⟨la, 200, 200, [(f1, [1, 2]), (f2, [0, 0])], rfl, by decide, pks_pq pkD (by decide), fs, rfl, fun e => absurd e (by decide), fun _ => ?_⟩⟩⟩⟩
      refine ⟨(pks_pq pkL (by decide) : Pq 1 200 lB), fun gt => absurd (show 2000 < meas lB from gt) (by omega), fun _ Hc x2 d2 s2 nx2 tx2 ni2 ex2 ld2 dn2 => ?_⟩
      obtain rfl : d2 = rB := pi_inj (ex2.trans nrmL)
      refine ⟨x2, 1, rB, rfl, tx2, fun Hd p sd np hp => fun v3 He se dv3 => ⟨psD rB, psD rB, pl_dp (hp.keep se), dv3.dp, ps_shaped abR, ps_shaped abR, ?_⟩⟩
      rw [ps_eqv abR]
      refine ⟨false, rfl, iteF ?_⟩
      have tx5 := ((tx.keep s2).keep sd).keep se
      refine ⟨_, rfl, _, rfl, .ref x, .ref x, rfl, .inr ⟨x, 2, dB, rfl, tx5, .inr ⟨x, 2, dB, rfl, tx5, .inr ⟨rfl, by decide, 200, pks_pq pkDD (by decide), fun gt => absurd gt (by omega), fun _ Hf z dz sf nz tz niz exz ldz dnz => ?_⟩⟩⟩⟩
      have tx6 := tx5.keep sf
      refine ⟨_, rfl, .ref x, .int 2, rfl, .inr ⟨x, 2, dB, rfl, tx6, .int 2, .inr ⟨2, 200, rfl, ⟨by decide, by decide +kernel⟩, by decide, pks_pq pkD (by decide), fun e => (by cases e), fun _ gt => absurd gt (by omega), fun _ _ => ⟨(pks_pq pkDD (by decide) : Pq 2 200 (dB ++ dB)), fun Hg y dy sg ny ty niy exy ldy dny => ?_⟩⟩⟩⟩
      have e2 : dy.map pi = N5.nrmC 2 ((dB ++ dB).map pi) := exy
      obtain rfl : dy = dz := pi_inj (e2.trans exz.symm)
      refine ⟨z, y, 2, dy, rfl, rfl, tz.keep sg, ty, fun p hp => (dnz.w p hp).1, true, rfl, iteF ?_⟩
      exact ⟨_, _, _, _, _, _, rfl⟩
    clear hx ni ex ld dn hL dv1 s2 s3 nx
    rintro σ H4 ⟨x1, x2, x3, x4, x5, x6, rfl⟩
    -- the long words
    have mw : ∀ n, meas [wN n] = (n : Int) := fun n => by
      show me1 (wN n) + 0 = _
      rw [me_w, Int.add_zero]
    have mw2 : ∀ n k, meas [wN n, wN k] = (n : Int) + (k : Int) := fun n k => by
      show me1 (wN n) + (me1 (wN k) + 0) = _
      rw [me_w, me_w, Int.add_zero]
    have q1 : ∀ n, n ≤ 2000 → Pq 0 100 [wN n] := fun n hn => pq_w (fun p hp => ⟨n, hn, List.mem_singleton.mp hp⟩) (by show 1 ≤ 90; decide)
    have q2 : ∀ n k, n ≤ 2000 → k ≤ 2000 → Pq 0 100 [wN n, wN k] := fun n k hn hk => pq_w (fun p hp => by
      rcases List.mem_cons.mp hp with rfl | hp
      · exact ⟨n, hn, rfl⟩
      · exact ⟨k, hk, List.mem_singleton.mp hp⟩) (by show 2 ≤ 90; decide)
    have ab1 : ∀ n, ∀ p ∈ [wN n], AB p.1 := fun n p hp => by
      rw [List.mem_singleton.mp hp]
      exact aN_ab n
    refine fun l5 H5 s5 hL5 => ⟨0, 100, l5, [wN 1000], rfl, rfl, by decide, hL5, q1 1000 (by decide), by rw [mw]; decide, fun H6 x d s6 nx hx ni ex ld dn => ?_⟩
    obtain rfl : d = [wN 1000] := pi_inj (ex.trans (nrm_w (by decide)))
    refine fun l7 H7 s7 hL7 => ⟨0, 100, l7, [wN 1001], rfl, rfl, by decide, hL7, q1 1001 (by decide), by rw [mw]; decide, fun H8 y e s8 ny hy ni2 ex2 ld2 dn2 => ?_⟩
    obtain rfl : e = [wN 1001] := pi_inj (ex2.trans (nrm_w (by decide)))
    have tx : Tn C H8 x 0 300 3 [wN 1000] := ⟨(hx.keep s7).keep s8, nrm_w (by decide), dn, by decide, by rw [mw]; decide⟩
    have ty : Tn C H8 y 0 300 3 [wN 1001] := ⟨hy, nrm_w (by decide), dn2, by decide, by rw [mw]; decide⟩
    clear hx ni ex ld dn hL5 hy ni2 ex2 ld2 dn2 hL7 s5 s6 s7 s8 nx ny
    -- too long
    refine ⟨_, rfl, _, rfl, (by show 2 ≤ sizeLine; omega), fun g9 ng9 => ?_⟩
    have s9 := same_new (o := .lst [.ref x, .ref y]) ng9
    have tx9 := tx.keep s9
    have ty9 := ty.keep s9
    refine ⟨0, g9, _, 0, [wN 1000] ++ [wN 1001], _, rfl, upd_same, .j tx9 ty9 (by decide) (q2 1000 1001 (by decide) (by decide)) (by decide), fun H10 l10 u v s10 nl10 hl10 res => ?_⟩
    have e21 : meas ([wN 1000] ++ [wN 1001]) = 2001 := mw2 1000 1001
    rw [e21] at res
    rcases res with ⟨_, rfl, rfl⟩ | ⟨le, _⟩
    rotate_left
    · exact absurd le (by decide)
    have tx10 := tx9.keep s10
    refine fun v11 H11 s11 d11 => ⟨.list [.none, .int 2001], _, d2D (s11 _ _ hl10) (.int _), d11.dp, sh2 _, sh2 _, ?_⟩
    rw [SeqAt.eqv_refl _ (SeqAt.canLay_of_shaped (sh2 2001))]
    refine ⟨false, rfl, iteF ?_⟩
    have tx11 := tx10.keep s11
    -- joined
    refine ⟨_, rfl, _, rfl, .ref x, .ref x, rfl, .inr ⟨x, 0, _, rfl, tx11.t, .inr ⟨x, 0, _, rfl, tx11.t, .inr ⟨rfl, by decide, 100, q2 1000 1000 (by decide) (by decide), fun gt => absurd gt (by rw [show meas ([wN 1000] ++ [wN 1000]) = 2000 from mw2 1000 1000]; decide), fun _ H12 z dz s12 nz tz niz exz ldz dnz => ?_⟩⟩⟩⟩
    obtain rfl : dz = [wN 2000] := pi_inj (exz.trans (nrm_w2 (by decide) (by decide)))
    refine ⟨z, 0, _, rfl, tz, fun H13 p13 s13 np13 hp13 => fun l14 H14 s14 hL14 => ⟨_, _, pl_dp (hp13.keep s14), pl_dp hL14, ps_shaped (ab1 _), ps_shaped (ab1 _), ?_⟩⟩
    rw [ps_eqv (ab1 2000)]
    refine ⟨false, rfl, iteF ?_⟩
    have tx14 := ((tx11.keep s12).keep s13).keep s14
    -- repeated
    refine ⟨_, rfl, .ref x, .int 2, rfl, .inr ⟨x, 0, _, rfl, tx14.t, .int 2, .inr ⟨2, 100, rfl, ⟨by decide, by decide +kernel⟩, by decide, q1 1000 (by decide), fun e => (by cases e), fun _ gt => absurd gt (by rw [mw]; decide), fun _ _ => ⟨(q2 1000 1000 (by decide) (by decide) : Pq 0 100 [wN 1000, wN 1000]), fun H15 y2 dy s15 ny2 ty2 niy exy ldy dny => ?_⟩⟩⟩⟩
    obtain rfl : dy = [wN 2000] := pi_inj (exy.trans (nrm_w2 (by decide) (by decide)))
    refine ⟨y2, 0, _, rfl, ty2, fun H16 p16 s16 np16 hp16 => fun l17 H17 s17 hL17 => ⟨_, _, pl_dp (hp16.keep s17), pl_dp hL17, ps_shaped (ab1 _), ps_shaped (ab1 _), ?_⟩⟩
    rw [ps_eqv (ab1 2000)]
    refine ⟨true, rfl, iteT ?_⟩
    have tx17 := ((tx14.keep s15).keep s16).keep s17
    refine ⟨_, rfl, (by show 2 ≤ sizeLine; omega), fun g18 ng18 => ?_⟩
    have s18 := same_new (o := .lst [.ref x, .int 3]) ng18
    refine ⟨1, g18, _, 0, [], _, rfl, upd_same, .g (n := 3) (tx17.keep s18) (by decide) ⟨by decide, by decide +kernel⟩ (q1 1000 (by decide)) (fun e => by cases e) (by rw [mw]; decide), fun H19 l19 u v s19 nl19 hl19 res => ?_⟩
    have e3 : meas [wN 1000] * 3 = 3000 := by
      rw [mw]
      decide
    rw [e3] at res
    rcases res with ⟨_, rfl, rfl⟩ | ⟨le, _⟩
    rotate_left
    · exact absurd le (by decide)
    refine fun v20 H20 s20 d20 => ⟨.list [.none, .int 3000], _, d2D (s20 _ _ hl19) (.int _), d20.dp, sh2 _, sh2 _, ?_⟩
    rw [SeqAt.eqv_refl _ (SeqAt.canLay_of_shaped (sh2 3000))]
    refine ⟨true, rfl, iteT ?_⟩
    exact ⟨rfl, fun H' _ => q H'⟩
end
end K5
set_option Elab.async false
set_option linter.all false
set_option maxRecDepth 100000
set_option maxHeartbeats 2000000
namespace XV
open PySem PySem.Spec PyProof.Rows L2
/-! ### what isinstance says of a class, by its order of classes -/
def mroB (K : PySem.W.Frag) (C : Addr) (m : List Value) : Bool := match K.lookup C with
  | some ⟨t, _, .cls cd, _⟩ => decide (t = .type "type") && decide (cd.mro = m)
  | _ => false
theorem mroB_ok {K : PySem.W.Frag} {C : Addr} {m : List Value} (h : mroB K C m = true) : (∃ cd, PySem.W.clsIn K C = some cd ∧ cd.mro = m) ∧ PySem.W.typeIn K (.ref C) = some (.type "type") := by
  unfold mroB at h
  split at h
  · rename_i t d cd sl ho
    obtain ⟨h1, h2⟩ := He.ba h
    have e1 : t = .type "type" := of_decide_eq_true h1
    have e2 : cd.mro = m := of_decide_eq_true h2
    refine ⟨⟨cd, ?_, e2⟩, ?_⟩
    · unfold PySem.W.clsIn
      rw [ho]
    · show (K.lookup C).map (fun o => o.cls) = _
      rw [ho, e1]
      rfl
  · cases h
theorem sub_mro {K : PySem.W.Frag} {C : Addr} {m : List Value} (h : mroB K C m = true) (hm : m.isEmpty = false) (b : Value) : PySem.W.subIn K (.ref C) b = some (m.contains b) := by
  obtain ⟨⟨cd, h1, h2⟩, _⟩ := mroB_ok h
  show PySem.W.mroIn K C b = _
  unfold PySem.W.mroIn
  rw [h1]
  show (if cd.mro.isEmpty = true then none else some (cd.mro.contains b)) = _
  rw [h2, hm, if_neg Bool.false_ne_true]
theorem kit_mro {K : PySem.W.Frag} {C D : Addr} {m m' : List Value} (h : mroB K C m = true) (hm : m.isEmpty = false) (h' : mroB K D m' = true) (hs : C = D → m.contains (.ref D) = true) : PySem.W.kitOne K (.ref C) (.ref D) = some (m.contains (.ref D)) := by
  unfold PySem.W.kitOne
  by_cases e : C = D
  · rw [hs e, if_pos (beq_iff_eq.mpr (congrArg Value.ref e))]
  · rw [if_neg (fun z => e (Value.ref.inj (beq_iff_eq.mp z)))]
    obtain ⟨⟨cd, h1, _⟩, h2⟩ := mroB_ok h'
    show (if ((PySem.W.clsIn K D).isSome && PySem.W.typeIn K (.ref D) == some (.type "type")) = true then PySem.W.subIn K (.ref C) (.ref D) else none) = _
    rw [h1, h2, if_pos (by rw [Bool.and_eq_true]; exact ⟨rfl, beq_iff_eq.mpr rfl⟩)]
    exact sub_mro h hm _
theorem kit_ve {K : PySem.W.Frag} {C : Addr} {m : List Value} (h : mroB K C m = true) (hm : m.isEmpty = false) : PySem.W.kitOne K (.ref C) (.type "ValueError") = some (m.contains (.type "ValueError")) := by
  unfold PySem.W.kitOne
  rw [if_neg (fun z => by cases (beq_iff_eq.mp z))]
  show (if PySem.W.kitMeta "ValueError" = true then PySem.W.subIn K (.ref C) (.type "ValueError") else none) = _
  rw [if_pos (by decide +kernel)]
  exact sub_mro h hm _
/-! ### a part of the heap, each object once, written out -/
def refsK (o : Obj) : List Addr := match o.data with
  | .dict es _ => es.toList.flatMap fun e => He.refV e.val
  | .func fd => He.refV fd.code ++ He.refV fd.defaults
  | .cls cd => [cd.ns]
  | _ => []
def refsA (g : Addr → Option Obj) (a : Addr) : List Addr := match g a with
  | some o => refsK o
  | none => []
def frcA {α : Type} (l : List Addr) (k : List Addr → α) : α := match l with
  | [] => k []
  | a :: r => HandSHeadRun.frNat a fun a => frcA r fun r => k (a :: r)
theorem frcA_eq {α : Type} : ∀ (l : List Addr) (k : List Addr → α), frcA l k = k l
  | [], _ => rfl
  | a :: r, k => by
    show HandSHeadRun.frNat a (fun a => frcA r fun r => k (a :: r)) = _
    rw [HandSHeadRun.frNat_eq, frcA_eq r]
def asK (g : Addr → Option Obj) : List Addr := frcA (refsA g mainGlobals) fun l1 => frcA (l1.flatMap (refsA g)) fun l2 => frcA (l2.flatMap (refsA g)) fun l3 => frcA (l3.flatMap (refsA g)) fun l4 => mainGlobals :: (l1 ++ (l2 ++ (l3 ++ l4)))
def frcK {α : Type} (l : PySem.W.Frag) (k : PySem.W.Frag → α) : α := match l with
  | [] => k []
  | (a, o) :: r => HandSHeadRun.frNat a fun a => frcK r fun r => k ((a, o) :: r)
theorem frcK_eq {α : Type} : ∀ (l : PySem.W.Frag) (k : PySem.W.Frag → α), frcK l k = k l
  | [], _ => rfl
  | (a, o) :: r, k => by
    show HandSHeadRun.frNat a (fun a => frcK r fun r => k ((a, o) :: r)) = _
    rw [HandSHeadRun.frNat_eq, frcK_eq r]
def hookF (α : Type) (obs : PySem.W.Frag → α) (val : α) : PySem.W.Hook where
  α := α
  obs := fun s => obs (He.frG s.heap.get? (asK s.heap.get?))
  val := fun _ => val
  says := fun _ h => ∃ K : PySem.W.Frag, K.In h ∧ obs K = val
  of := fun _ _ e => ⟨_, He.frG_in, e⟩
  keeps := fun _ _ _ ⟨K, hK, c⟩ k => ⟨K, PySem.W.Frag.In.keeps hK k, c⟩
def obF {α : Type} (obs : PySem.W.Frag → α) (s : PySem.W.SharedT) : α := frcK (He.frG (HandSHeadRun.getT s) (asK (HandSHeadRun.getT s))) obs
theorem obF_eq {α : Type} {obs : PySem.W.Frag → α} {val : α} (s : PySem.W.SharedT) : obF obs s = (hookF α obs val).obs s.abs := by
  unfold obF
  rw [frcK_eq]
  have e : HandSHeadRun.getT s = s.abs.heap.get? := funext (HandSHeadRun.getT_eq s)
  rw [e]
  rfl
theorem map_two {S A B C D : Type} {e : Option S} {f : S → A} {g : S → B} {o : S → C} {o' : S → D} {a : A} {b : B} {c : C} {d : D} (h1 : e.map (fun s => (f s, g s, o s)) = some (a, b, c)) (h2 : e.map (fun s => o' s) = some d) :
    e.map (fun s => (f s, g s, (o s, o' s))) = some (a, b, (c, d)) := by
  cases e with
  | none => cases h1
  | some s =>
    have z1 : (f s, g s, o s) = (a, b, c) := Option.some.inj h1
    have z2 : o' s = d := Option.some.inj h2
    cases z2
    cases z1
    rfl
end XV
set_option Elab.async false
set_option linter.all false
set_option maxRecDepth 100000
set_option maxHeartbeats 0
namespace K5
open PySem PySem.Spec PyProof.Rows L2 XV
/-! ### what the top must say -/
def dF (x : Str) (i : Nat) : He.DefD := ⟨(x, none), x, x, defArgs (top i), defBody (top i), defScope (top i), [], []⟩
def dM (x q : Str) (s : Stmt) : He.DefD := ⟨("OpenText", some x), x, q, defArgs s, defBody s, defScope s, [], []⟩
def dI (x q : Str) (l : Nat) (fld : Str) : He.DefD := ⟨(x, some "__init__"), "__init__", q, initA fld ⟨l, 17, l, 21⟩ ⟨l, 23, l, 28⟩ ⟨l, 29, l, 33⟩, initB fld ⟨l + 1, 8, l + 1, 12⟩ ⟨l + 1, 8, l + 1, 18⟩ ⟨l + 1, 21, l + 1, 26⟩ ⟨l + 1, 8, l + 1, 26⟩, initS fld, [.non], []⟩
def fn : List He.DefD := [dI "InvalidText" "InvalidText.__init__" 26 "value", dI "InvalidPoint" "InvalidPoint.__init__" 14 "value", dI "InvalidWord" "InvalidWord.__init__" 10 "value", dI "InvalidNumber" "InvalidNumber.__init__" 6 "value", dI "TooLong" "TooLong.__init__" 38 "value", dI "Unlike" "Unlike.__init__" 34 "value", dI "InvalidList" "InvalidList.__init__" 22 "value", dF "is_whole" 14, dF "is_count" 15, dF "is_count_below" 16, dF "require_many" 17, dF "is_string_of_letters" 18, dF "is_letter" 19, dF "is_point" 20, dF "has_form" 22, dF "require_forms" 23, dF "form_value" 24, dF "form_with" 25, dF "is_plain" 26, dF "form_times" 27, dF "sum_of_forms" 28, dF "plain_form" 29, dF "root_of" 31, dF "common_end" 32, dF "turned" 33, dF "letters_of_runs" 34, dF "normal" 39, dF "is_piece" 40, dF "measure" 41, dF "require_measure" 42, dF "normal_pieces" 43, dF "add_fixed" 44, dF "add_power" 45, dF "size" 48, dF "spread" 49, dF "unknowns" 50, dF "written" 51, dF "text_letter" 52, dF "length" 53, dF "letters" 54, dF "joined" 55, dF "repeated" 56, dF "replaced" 57, dF "require_text" 58, dF "require_text_point" 59, dF "require_like_texts" 60, dF "powers" 61, dF "text_with" 62, dF "pieces_with" 63, dF "runs_at" 64, dF "letter_of_runs" 65, dF "_law_hash" 67, dF "_law_generator" 68, dF "_law_random" 69, dF "_law_word" 70, dF "_law_piece" 71, dF "_law_pieces" 72, dF "_law_value" 73, dF "_law_written" 74, dF "_law_measure" 75, dF "_law_led" 76, dF "_law_told" 77, dF "_law_seen_good" 78, dF "_law_made_good" 79, dF "_law_joined_good" 80, dF "_law_repeated_good" 81, dF "_law_replaced_good" 82, dF "_law_caught" 83, dF "_law_only" 84, dF "_law_refused" 85, dF "law" 86, dM "__init__" "OpenText.__init__" sInit, dM "many" "OpenText.many" sManyT, dM "pieces" "OpenText.pieces" sPiecesT, dM "__eq__" "OpenText.__eq__" sEq]
def fa : List He.Fa := [.glo "is_whole", .glo "is_count", .glo "is_count_below", .glo "require_many", .glo "is_string_of_letters", .glo "is_letter", .glo "is_point", .glo "has_form", .glo "require_forms", .glo "form_value", .glo "form_with", .glo "is_plain", .glo "form_times", .glo "sum_of_forms", .glo "plain_form", .glo "root_of", .glo "common_end", .glo "turned", .glo "letters_of_runs", .glo "normal", .glo "is_piece", .glo "measure", .glo "require_measure", .glo "normal_pieces", .glo "add_fixed", .glo "add_power", .glo "size", .glo "spread", .glo "unknowns", .glo "written", .glo "text_letter", .glo "length", .glo "letters", .glo "joined", .glo "repeated", .glo "replaced", .glo "require_text", .glo "require_text_point", .glo "require_like_texts", .glo "powers", .glo "text_with", .glo "pieces_with", .glo "runs_at", .glo "letter_of_runs", .glo "_law_hash", .glo "_law_generator", .glo "_law_random", .glo "_law_word", .glo "_law_piece", .glo "_law_pieces", .glo "_law_value", .glo "_law_written", .glo "_law_measure", .glo "_law_led", .glo "_law_told", .glo "_law_seen_good", .glo "_law_made_good", .glo "_law_joined_good", .glo "_law_repeated_good", .glo "_law_replaced_good", .glo "_law_caught", .glo "_law_only", .glo "_law_refused", .glo "law", .glo "OpenText", .free "int", .free "range", .free "len", .free "sum", .free "max", .free "isinstance", .free "str", .free "bool", .free "zip", .free "tuple", .free "any", .free "all", .free "list", .free "repr", .int "MOST_UNKNOWNS" 3, .int "LONGEST_WORD" 20000, .int "LONGEST_PIECE" 2000, .int "MOST_PIECES" 5000, .int "MOST_MEASURE" 2000, .cls "OpenText", .mkr "OpenText", .noat "OpenText" "_pieces", .noat "OpenText" "_many", .meth "OpenText" "many", .meth "OpenText" "pieces", .meth "OpenText" "__eq__"]
abbrev GA (K : PySem.W.Frag) : Addr := He.ga K "OpenText"
def bxX (K : PySem.W.Frag) : Bool := (List.range 7).all fun i => xclsB K (nm4 i) "value"
def mroI (K : PySem.W.Frag) (i : Nat) : List Value := .ref (C4 K i) :: .ref (C4 K 7) :: He.veBase
def bxK (K : PySem.W.Frag) : Bool := ecls0B K "LoopError" && ((Nat.blt (C4 K 7) (C4 K 3) && (Nat.blt (C4 K 3) (C4 K 2) && (Nat.blt (C4 K 2) (C4 K 1) && (Nat.blt (C4 K 1) (C4 K 6) && (Nat.blt (C4 K 6) (C4 K 0) && (Nat.blt (C4 K 0) (C4 K 5) && (Nat.blt (C4 K 5) (C4 K 4)))))))) && (((List.range 7).all fun i => mroB K (C4 K i) (mroI K i)) && mroB K (C4 K 7) (.ref (C4 K 7) :: He.veBase)))
def bxT (K : PySem.W.Frag) : Bool := He.eqO (PySem.W.findIn K (.ref (GA K)) "__class__") (some (some (.builtin "object.__class__"))) && (He.eqO (PySem.W.specialIn K (.builtin "object.__class__") "__get__") (some (some (.builtin "getset_descriptor.__get__"))) &&
  (decide (PySem.W.takesIn K (.builtin "object.__class__") = some true) && (decide (PySem.W.mroIn K (GA K) (.type "object") = some true) && (decide (PySem.W.kitOne K (.ref (GA K)) (.ref (GA K)) = some true) &&
  (tys.all fun T => decide (PySem.W.kitOne K (.type T) (.ref (GA K)) = some false))))))
def bx (K : PySem.W.Frag) : Bool := bxX K && (bxK K && bxT K)
end K5
set_option Elab.async false
set_option linter.all false
set_option maxRecDepth 100000
set_option maxHeartbeats 0
namespace K5
open PySem PySem.Spec PyProof.Rows L2 XV
section
variable {P : Program} {w : World} {K : PySem.W.Frag} {mg : Str → Option Value} {base h : Heap}
theorem cl_of (X : K.In h) (G : h.Ns mainGlobals mg) (c : He.SaysD fa fn K) (b : bx K = true) : Cl4 P w K mg base := by
  obtain ⟨b1, b⟩ := He.ba b
  obtain ⟨b2, _⟩ := He.ba b
  obtain ⟨b2, b⟩ := He.ba b2
  obtain ⟨k1, b⟩ := He.ba b
  obtain ⟨k3, k4⟩ := He.ba b
  obtain ⟨q0, k1⟩ := He.ba k1
  obtain ⟨q1, k1⟩ := He.ba k1
  obtain ⟨q2, k1⟩ := He.ba k1
  obtain ⟨q3, k1⟩ := He.ba k1
  obtain ⟨q4, k1⟩ := He.ba k1
  obtain ⟨q5, k1⟩ := He.ba k1
  have q6 := k1
  have a7_3 : C4 K 7 < C4 K 3 := Nat.le_of_ble_eq_true q0
  have a3_2 : C4 K 3 < C4 K 2 := Nat.le_of_ble_eq_true q1
  have a2_1 : C4 K 2 < C4 K 1 := Nat.le_of_ble_eq_true q2
  have a1_6 : C4 K 1 < C4 K 6 := Nat.le_of_ble_eq_true q3
  have a6_0 : C4 K 6 < C4 K 0 := Nat.le_of_ble_eq_true q4
  have a0_5 : C4 K 0 < C4 K 5 := Nat.le_of_ble_eq_true q5
  have a5_4 : C4 K 5 < C4 K 4 := Nat.le_of_ble_eq_true q6
  have a7_2 : C4 K 7 < C4 K 2 := Nat.lt_trans a7_3 a3_2
  have a3_1 : C4 K 3 < C4 K 1 := Nat.lt_trans a3_2 a2_1
  have a2_6 : C4 K 2 < C4 K 6 := Nat.lt_trans a2_1 a1_6
  have a1_0 : C4 K 1 < C4 K 0 := Nat.lt_trans a1_6 a6_0
  have a6_5 : C4 K 6 < C4 K 5 := Nat.lt_trans a6_0 a0_5
  have a0_4 : C4 K 0 < C4 K 4 := Nat.lt_trans a0_5 a5_4
  have a7_1 : C4 K 7 < C4 K 1 := Nat.lt_trans a7_2 a2_1
  have a3_6 : C4 K 3 < C4 K 6 := Nat.lt_trans a3_1 a1_6
  have a2_0 : C4 K 2 < C4 K 0 := Nat.lt_trans a2_6 a6_0
  have a1_5 : C4 K 1 < C4 K 5 := Nat.lt_trans a1_0 a0_5
  have a6_4 : C4 K 6 < C4 K 4 := Nat.lt_trans a6_5 a5_4
  have a7_6 : C4 K 7 < C4 K 6 := Nat.lt_trans a7_1 a1_6
  have a3_0 : C4 K 3 < C4 K 0 := Nat.lt_trans a3_6 a6_0
  have a2_5 : C4 K 2 < C4 K 5 := Nat.lt_trans a2_0 a0_5
  have a1_4 : C4 K 1 < C4 K 4 := Nat.lt_trans a1_5 a5_4
  have a7_0 : C4 K 7 < C4 K 0 := Nat.lt_trans a7_6 a6_0
  have a3_5 : C4 K 3 < C4 K 5 := Nat.lt_trans a3_0 a0_5
  have a2_4 : C4 K 2 < C4 K 4 := Nat.lt_trans a2_5 a5_4
  have a7_5 : C4 K 7 < C4 K 5 := Nat.lt_trans a7_0 a0_5
  have a3_4 : C4 K 3 < C4 K 4 := Nat.lt_trans a3_5 a5_4
  have a7_4 : C4 K 7 < C4 K 4 := Nat.lt_trans a7_5 a5_4
  have five : ∀ i, i < 7 → i = 0 ∨ i = 1 ∨ i = 2 ∨ i = 3 ∨ i = 4 ∨ i = 5 ∨ i = 6 := fun i h => by omega
  have lL : ∀ i, i < 7 → C4 K 7 < C4 K i := fun i hi => by
    rcases five i hi with rfl | rfl | rfl | rfl | rfl | rfl | rfl <;> assumption
  have ne : ∀ i, i < 7 → ∀ j, j < 7 → i ≠ j → ¬ C4 K i = C4 K j := fun i hi j hj hij => by
    rcases five i hi with rfl | rfl | rfl | rfl | rfl | rfl | rfl <;> rcases five j hj with rfl | rfl | rfl | rfl | rfl | rfl | rfl <;> first
      | exact absurd rfl hij
      | exact Nat.ne_of_lt (by assumption)
      | exact fun z => absurd z.symm (Nat.ne_of_lt (by assumption))
  have hm : ∀ i, i < 7 → mroB K (C4 K i) (mroI K i) = true := fun i hi => List.all_eq_true.mp k3 i (List.mem_range.mpr hi)
  have ct : ∀ i x, (mroI K i).contains (.ref x) = (decide (C4 K i = x) || decide (C4 K 7 = x)) := fun i x => by
    have e : ∀ y : Addr, (Value.ref x == Value.ref y) = decide (y = x) := fun y => by
      by_cases q : y = x
      · rw [q, decide_eq_true rfl]; exact beq_iff_eq.mpr rfl
      · rw [decide_eq_false q]; exact beq_eq_false_iff_ne.mpr (fun z => q (Value.ref.inj z).symm)
    have e2 : ∀ n : String, (Value.ref x == Value.type n) = false := fun n => beq_eq_false_iff_ne.mpr (fun z => by cases z)
    unfold mroI He.veBase
    simp only [List.contains_cons, List.contains_nil, e, e2, Bool.or_false]
  have hx : ∀ i, i < 7 → xclsB K (nm4 i) "value" = true := fun i hi => List.all_eq_true.mp b1 i (List.mem_range.mpr hi)
  have gL := (He.ba b2).1
  have eL : ExcC K (C4 K 7) := excB_ok (He.ba (He.ba (He.ba b2).2).2).2
  have tL := (mroB_ok k4).2
  refine ⟨?_, ?_, ?_, ?_, ?_, ?_, ?_⟩
  · intro i hi
    have x0 : ∃ fI fd, XCls P w K mg base (nm4 0) "value" (C4 K 0) fI fd := by
      obtain ⟨fd, F⟩ := c.def_ 0 (d := dI "InvalidText" "InvalidText.__init__" 26 "value") rfl
      exact ⟨_, fd, xcls_V (nm := "InvalidText") X G (hx 0 (by decide)) F⟩
    have x1 : ∃ fI fd, XCls P w K mg base (nm4 1) "value" (C4 K 1) fI fd := by
      obtain ⟨fd, F⟩ := c.def_ 1 (d := dI "InvalidPoint" "InvalidPoint.__init__" 14 "value") rfl
      exact ⟨_, fd, xcls_V (nm := "InvalidPoint") X G (hx 1 (by decide)) F⟩
    have x2 : ∃ fI fd, XCls P w K mg base (nm4 2) "value" (C4 K 2) fI fd := by
      obtain ⟨fd, F⟩ := c.def_ 2 (d := dI "InvalidWord" "InvalidWord.__init__" 10 "value") rfl
      exact ⟨_, fd, xcls_V (nm := "InvalidWord") X G (hx 2 (by decide)) F⟩
    have x3 : ∃ fI fd, XCls P w K mg base (nm4 3) "value" (C4 K 3) fI fd := by
      obtain ⟨fd, F⟩ := c.def_ 3 (d := dI "InvalidNumber" "InvalidNumber.__init__" 6 "value") rfl
      exact ⟨_, fd, xcls_V (nm := "InvalidNumber") X G (hx 3 (by decide)) F⟩
    have x4 : ∃ fI fd, XCls P w K mg base (nm4 4) "value" (C4 K 4) fI fd := by
      obtain ⟨fd, F⟩ := c.def_ 4 (d := dI "TooLong" "TooLong.__init__" 38 "value") rfl
      exact ⟨_, fd, xcls_V (nm := "TooLong") X G (hx 4 (by decide)) F⟩
    have x5 : ∃ fI fd, XCls P w K mg base (nm4 5) "value" (C4 K 5) fI fd := by
      obtain ⟨fd, F⟩ := c.def_ 5 (d := dI "Unlike" "Unlike.__init__" 34 "value") rfl
      exact ⟨_, fd, xcls_V (nm := "Unlike") X G (hx 5 (by decide)) F⟩
    have x6 : ∃ fI fd, XCls P w K mg base (nm4 6) "value" (C4 K 6) fI fd := by
      obtain ⟨fd, F⟩ := c.def_ 6 (d := dI "InvalidList" "InvalidList.__init__" 22 "value") rfl
      exact ⟨_, fd, xcls_V (nm := "InvalidList") X G (hx 6 (by decide)) F⟩
    match i, hi with
    | 0, _ => exact x0
    | 1, _ => exact x1
    | 2, _ => exact x2
    | 3, _ => exact x3
    | 4, _ => exact x4
    | 5, _ => exact x5
    | 6, _ => exact x6
    | _ + 7, hi => exact absurd hi (by omega)
  · intro i hi
    by_cases q : i < 7
    · exact PySem.W.mg_of X G (He.eqO_ok (He.ba (hx i q)).1)
    · obtain rfl : i = 7 := by omega
      exact PySem.W.mg_of X G (He.eqO_ok gL)
  · intro i hi
    exact (xcls_E (hx i hi)).1
  · intro i hi
    exact (xcls_E (hx i hi)).2
  · intro i hi j hj
    rw [kit_mro (hm i hi) rfl (hm j hj) (fun e => by rw [ct, decide_eq_true e]; rfl), ct]
    have nL : ¬ C4 K 7 = C4 K j := fun z => absurd z (Nat.ne_of_lt (lL j hj))
    rw [decide_eq_false nL, Bool.or_false]
    by_cases q : i = j
    · rw [q, decide_eq_true rfl, decide_eq_true rfl]
    · rw [decide_eq_false q, decide_eq_false (ne i hi j hj q)]
  · intro i hi
    refine PySem.W.exm_ref eL.hs eL.hd tL ?_
    rw [sub_mro (hm i hi) rfl, ct, decide_eq_true (rfl : C4 K 7 = C4 K 7), Bool.or_true]
  · intro i hi
    have e2 : ExcC K (C4 K i) := (xcls_E (hx i hi)).1
    refine PySem.W.exm_ref e2.hs e2.hd (mroB_ok (hm i hi)).2 ?_
    rw [sub_mro (hm i hi) rfl, ct, decide_eq_true (rfl : C4 K i = C4 K i), Bool.true_or]
theorem tt_of (X : K.In h) (G : h.Ns mainGlobals mg) (c : He.SaysD fa fn K) (b : bx K = true) : TT K mg (GA K) := by
  obtain ⟨_, b⟩ := He.ba b
  obtain ⟨_, t⟩ := He.ba b
  obtain ⟨t1, t⟩ := He.ba t
  obtain ⟨t2, t⟩ := He.ba t
  obtain ⟨t3, t⟩ := He.ba t
  obtain ⟨t4, t⟩ := He.ba t
  obtain ⟨t5, t6⟩ := He.ba t
  exact ⟨⟨He.cls_ok (c.fact 84 (f := .cls "OpenText") rfl), He.eqO_ok t1, He.eqO_ok t2, of_decide_eq_true t3, of_decide_eq_true t4, of_decide_eq_true t5⟩, He.noat_ok (c.fact 86 (f := .noat "OpenText" "_pieces") rfl), He.noat_ok (c.fact 87 (f := .noat "OpenText" "_many") rfl), He.glo_ok X G (c.fact 64 (f := .glo "OpenText") rfl), fun T hT => of_decide_eq_true (List.all_eq_true.mp t6 T hT)⟩
theorem facts {f : Addr} (X : K.In h) (G : h.Ns mainGlobals mg) (hfa : mg ("law" : Str) = some (.ref f)) (c : He.SaysD fa fn K) (b : bx K = true) :
    ∃ fd : FuncData, (∀ (s : Shared) (v : Value), BindsTo s fd ⟨[v], []⟩ [("_law_script", v)]) ∧ ∀ base : Heap, K.In base → base.Ns mainGlobals mg → FnG P w K mg base CX0 13 f fd ["_law_script"] (spLaw K) := by
  obtain ⟨fd_is_whole, F_is_whole⟩ := c.def_ 7 (d := dF "is_whole" 14) rfl
  obtain ⟨fd_is_count, F_is_count⟩ := c.def_ 8 (d := dF "is_count" 15) rfl
  obtain ⟨fd_is_count_below, F_is_count_below⟩ := c.def_ 9 (d := dF "is_count_below" 16) rfl
  obtain ⟨fd_require_many, F_require_many⟩ := c.def_ 10 (d := dF "require_many" 17) rfl
  obtain ⟨fd_is_string_of_letters, F_is_string_of_letters⟩ := c.def_ 11 (d := dF "is_string_of_letters" 18) rfl
  obtain ⟨fd_is_letter, F_is_letter⟩ := c.def_ 12 (d := dF "is_letter" 19) rfl
  obtain ⟨fd_is_point, F_is_point⟩ := c.def_ 13 (d := dF "is_point" 20) rfl
  obtain ⟨fd_has_form, F_has_form⟩ := c.def_ 14 (d := dF "has_form" 22) rfl
  obtain ⟨fd_require_forms, F_require_forms⟩ := c.def_ 15 (d := dF "require_forms" 23) rfl
  obtain ⟨fd_form_value, F_form_value⟩ := c.def_ 16 (d := dF "form_value" 24) rfl
  obtain ⟨fd_form_with, F_form_with⟩ := c.def_ 17 (d := dF "form_with" 25) rfl
  obtain ⟨fd_is_plain, F_is_plain⟩ := c.def_ 18 (d := dF "is_plain" 26) rfl
  obtain ⟨fd_form_times, F_form_times⟩ := c.def_ 19 (d := dF "form_times" 27) rfl
  obtain ⟨fd_sum_of_forms, F_sum_of_forms⟩ := c.def_ 20 (d := dF "sum_of_forms" 28) rfl
  obtain ⟨fd_plain_form, F_plain_form⟩ := c.def_ 21 (d := dF "plain_form" 29) rfl
  obtain ⟨fd_root_of, F_root_of⟩ := c.def_ 22 (d := dF "root_of" 31) rfl
  obtain ⟨fd_common_end, F_common_end⟩ := c.def_ 23 (d := dF "common_end" 32) rfl
  obtain ⟨fd_turned, F_turned⟩ := c.def_ 24 (d := dF "turned" 33) rfl
  obtain ⟨fd_letters_of_runs, F_letters_of_runs⟩ := c.def_ 25 (d := dF "letters_of_runs" 34) rfl
  obtain ⟨fd_normal, F_normal⟩ := c.def_ 26 (d := dF "normal" 39) rfl
  obtain ⟨fd_is_piece, F_is_piece⟩ := c.def_ 27 (d := dF "is_piece" 40) rfl
  obtain ⟨fd_measure, F_measure⟩ := c.def_ 28 (d := dF "measure" 41) rfl
  obtain ⟨fd_require_measure, F_require_measure⟩ := c.def_ 29 (d := dF "require_measure" 42) rfl
  obtain ⟨fd_normal_pieces, F_normal_pieces⟩ := c.def_ 30 (d := dF "normal_pieces" 43) rfl
  obtain ⟨fd_add_fixed, F_add_fixed⟩ := c.def_ 31 (d := dF "add_fixed" 44) rfl
  obtain ⟨fd_add_power, F_add_power⟩ := c.def_ 32 (d := dF "add_power" 45) rfl
  obtain ⟨fd_size, F_size⟩ := c.def_ 33 (d := dF "size" 48) rfl
  obtain ⟨fd_spread, F_spread⟩ := c.def_ 34 (d := dF "spread" 49) rfl
  obtain ⟨fd_unknowns, F_unknowns⟩ := c.def_ 35 (d := dF "unknowns" 50) rfl
  obtain ⟨fd_written, F_written⟩ := c.def_ 36 (d := dF "written" 51) rfl
  obtain ⟨fd_text_letter, F_text_letter⟩ := c.def_ 37 (d := dF "text_letter" 52) rfl
  obtain ⟨fd_length, F_length⟩ := c.def_ 38 (d := dF "length" 53) rfl
  obtain ⟨fd_letters, F_letters⟩ := c.def_ 39 (d := dF "letters" 54) rfl
  obtain ⟨fd_joined, F_joined⟩ := c.def_ 40 (d := dF "joined" 55) rfl
  obtain ⟨fd_repeated, F_repeated⟩ := c.def_ 41 (d := dF "repeated" 56) rfl
  obtain ⟨fd_replaced, F_replaced⟩ := c.def_ 42 (d := dF "replaced" 57) rfl
  obtain ⟨fd_require_text, F_require_text⟩ := c.def_ 43 (d := dF "require_text" 58) rfl
  obtain ⟨fd_require_text_point, F_require_text_point⟩ := c.def_ 44 (d := dF "require_text_point" 59) rfl
  obtain ⟨fd_require_like_texts, F_require_like_texts⟩ := c.def_ 45 (d := dF "require_like_texts" 60) rfl
  obtain ⟨fd_powers, F_powers⟩ := c.def_ 46 (d := dF "powers" 61) rfl
  obtain ⟨fd_text_with, F_text_with⟩ := c.def_ 47 (d := dF "text_with" 62) rfl
  obtain ⟨fd_pieces_with, F_pieces_with⟩ := c.def_ 48 (d := dF "pieces_with" 63) rfl
  obtain ⟨fd_runs_at, F_runs_at⟩ := c.def_ 49 (d := dF "runs_at" 64) rfl
  obtain ⟨fd_letter_of_runs, F_letter_of_runs⟩ := c.def_ 50 (d := dF "letter_of_runs" 65) rfl
  obtain ⟨fd__law_hash, F__law_hash⟩ := c.def_ 51 (d := dF "_law_hash" 67) rfl
  obtain ⟨fd__law_generator, F__law_generator⟩ := c.def_ 52 (d := dF "_law_generator" 68) rfl
  obtain ⟨fd__law_random, F__law_random⟩ := c.def_ 53 (d := dF "_law_random" 69) rfl
  obtain ⟨fd__law_word, F__law_word⟩ := c.def_ 54 (d := dF "_law_word" 70) rfl
  obtain ⟨fd__law_piece, F__law_piece⟩ := c.def_ 55 (d := dF "_law_piece" 71) rfl
  obtain ⟨fd__law_pieces, F__law_pieces⟩ := c.def_ 56 (d := dF "_law_pieces" 72) rfl
  obtain ⟨fd__law_value, F__law_value⟩ := c.def_ 57 (d := dF "_law_value" 73) rfl
  obtain ⟨fd__law_written, F__law_written⟩ := c.def_ 58 (d := dF "_law_written" 74) rfl
  obtain ⟨fd__law_measure, F__law_measure⟩ := c.def_ 59 (d := dF "_law_measure" 75) rfl
  obtain ⟨fd__law_led, F__law_led⟩ := c.def_ 60 (d := dF "_law_led" 76) rfl
  obtain ⟨fd__law_told, F__law_told⟩ := c.def_ 61 (d := dF "_law_told" 77) rfl
  obtain ⟨fd__law_seen_good, F__law_seen_good⟩ := c.def_ 62 (d := dF "_law_seen_good" 78) rfl
  obtain ⟨fd__law_made_good, F__law_made_good⟩ := c.def_ 63 (d := dF "_law_made_good" 79) rfl
  obtain ⟨fd__law_joined_good, F__law_joined_good⟩ := c.def_ 64 (d := dF "_law_joined_good" 80) rfl
  obtain ⟨fd__law_repeated_good, F__law_repeated_good⟩ := c.def_ 65 (d := dF "_law_repeated_good" 81) rfl
  obtain ⟨fd__law_replaced_good, F__law_replaced_good⟩ := c.def_ 66 (d := dF "_law_replaced_good" 82) rfl
  obtain ⟨fd__law_caught, F__law_caught⟩ := c.def_ 67 (d := dF "_law_caught" 83) rfl
  obtain ⟨fd__law_only, F__law_only⟩ := c.def_ 68 (d := dF "_law_only" 84) rfl
  obtain ⟨fd__law_refused, F__law_refused⟩ := c.def_ 69 (d := dF "_law_refused" 85) rfl
  obtain ⟨fd_law, F_law⟩ := c.def_ 70 (d := dF "law" 86) rfl
  obtain ⟨fdm___init__, Fm___init__⟩ := c.def_ 71 (d := dM "__init__" "OpenText.__init__" sInit) rfl
  obtain ⟨fdm_many, Fm_many⟩ := c.def_ 72 (d := dM "many" "OpenText.many" sManyT) rfl
  obtain ⟨fdm_pieces, Fm_pieces⟩ := c.def_ 73 (d := dM "pieces" "OpenText.pieces" sPiecesT) rfl
  obtain ⟨fdm___eq__, Fm___eq__⟩ := c.def_ 74 (d := dM "__eq__" "OpenText.__eq__" sEq) rfl
  have g_is_whole : mg "is_whole" = some (.ref (He.ga K "is_whole")) := He.glo_ok X G (c.fact 0 (f := .glo "is_whole") rfl)
  have g_is_count : mg "is_count" = some (.ref (He.ga K "is_count")) := He.glo_ok X G (c.fact 1 (f := .glo "is_count") rfl)
  have g_is_count_below : mg "is_count_below" = some (.ref (He.ga K "is_count_below")) := He.glo_ok X G (c.fact 2 (f := .glo "is_count_below") rfl)
  have g_require_many : mg "require_many" = some (.ref (He.ga K "require_many")) := He.glo_ok X G (c.fact 3 (f := .glo "require_many") rfl)
  have g_is_string_of_letters : mg "is_string_of_letters" = some (.ref (He.ga K "is_string_of_letters")) := He.glo_ok X G (c.fact 4 (f := .glo "is_string_of_letters") rfl)
  have g_is_letter : mg "is_letter" = some (.ref (He.ga K "is_letter")) := He.glo_ok X G (c.fact 5 (f := .glo "is_letter") rfl)
  have g_is_point : mg "is_point" = some (.ref (He.ga K "is_point")) := He.glo_ok X G (c.fact 6 (f := .glo "is_point") rfl)
  have g_has_form : mg "has_form" = some (.ref (He.ga K "has_form")) := He.glo_ok X G (c.fact 7 (f := .glo "has_form") rfl)
  have g_require_forms : mg "require_forms" = some (.ref (He.ga K "require_forms")) := He.glo_ok X G (c.fact 8 (f := .glo "require_forms") rfl)
  have g_form_value : mg "form_value" = some (.ref (He.ga K "form_value")) := He.glo_ok X G (c.fact 9 (f := .glo "form_value") rfl)
  have g_form_with : mg "form_with" = some (.ref (He.ga K "form_with")) := He.glo_ok X G (c.fact 10 (f := .glo "form_with") rfl)
  have g_is_plain : mg "is_plain" = some (.ref (He.ga K "is_plain")) := He.glo_ok X G (c.fact 11 (f := .glo "is_plain") rfl)
  have g_form_times : mg "form_times" = some (.ref (He.ga K "form_times")) := He.glo_ok X G (c.fact 12 (f := .glo "form_times") rfl)
  have g_sum_of_forms : mg "sum_of_forms" = some (.ref (He.ga K "sum_of_forms")) := He.glo_ok X G (c.fact 13 (f := .glo "sum_of_forms") rfl)
  have g_plain_form : mg "plain_form" = some (.ref (He.ga K "plain_form")) := He.glo_ok X G (c.fact 14 (f := .glo "plain_form") rfl)
  have g_root_of : mg "root_of" = some (.ref (He.ga K "root_of")) := He.glo_ok X G (c.fact 15 (f := .glo "root_of") rfl)
  have g_common_end : mg "common_end" = some (.ref (He.ga K "common_end")) := He.glo_ok X G (c.fact 16 (f := .glo "common_end") rfl)
  have g_turned : mg "turned" = some (.ref (He.ga K "turned")) := He.glo_ok X G (c.fact 17 (f := .glo "turned") rfl)
  have g_letters_of_runs : mg "letters_of_runs" = some (.ref (He.ga K "letters_of_runs")) := He.glo_ok X G (c.fact 18 (f := .glo "letters_of_runs") rfl)
  have g_normal : mg "normal" = some (.ref (He.ga K "normal")) := He.glo_ok X G (c.fact 19 (f := .glo "normal") rfl)
  have g_is_piece : mg "is_piece" = some (.ref (He.ga K "is_piece")) := He.glo_ok X G (c.fact 20 (f := .glo "is_piece") rfl)
  have g_measure : mg "measure" = some (.ref (He.ga K "measure")) := He.glo_ok X G (c.fact 21 (f := .glo "measure") rfl)
  have g_require_measure : mg "require_measure" = some (.ref (He.ga K "require_measure")) := He.glo_ok X G (c.fact 22 (f := .glo "require_measure") rfl)
  have g_normal_pieces : mg "normal_pieces" = some (.ref (He.ga K "normal_pieces")) := He.glo_ok X G (c.fact 23 (f := .glo "normal_pieces") rfl)
  have g_add_fixed : mg "add_fixed" = some (.ref (He.ga K "add_fixed")) := He.glo_ok X G (c.fact 24 (f := .glo "add_fixed") rfl)
  have g_add_power : mg "add_power" = some (.ref (He.ga K "add_power")) := He.glo_ok X G (c.fact 25 (f := .glo "add_power") rfl)
  have g_size : mg "size" = some (.ref (He.ga K "size")) := He.glo_ok X G (c.fact 26 (f := .glo "size") rfl)
  have g_spread : mg "spread" = some (.ref (He.ga K "spread")) := He.glo_ok X G (c.fact 27 (f := .glo "spread") rfl)
  have g_unknowns : mg "unknowns" = some (.ref (He.ga K "unknowns")) := He.glo_ok X G (c.fact 28 (f := .glo "unknowns") rfl)
  have g_written : mg "written" = some (.ref (He.ga K "written")) := He.glo_ok X G (c.fact 29 (f := .glo "written") rfl)
  have g_text_letter : mg "text_letter" = some (.ref (He.ga K "text_letter")) := He.glo_ok X G (c.fact 30 (f := .glo "text_letter") rfl)
  have g_length : mg "length" = some (.ref (He.ga K "length")) := He.glo_ok X G (c.fact 31 (f := .glo "length") rfl)
  have g_letters : mg "letters" = some (.ref (He.ga K "letters")) := He.glo_ok X G (c.fact 32 (f := .glo "letters") rfl)
  have g_joined : mg "joined" = some (.ref (He.ga K "joined")) := He.glo_ok X G (c.fact 33 (f := .glo "joined") rfl)
  have g_repeated : mg "repeated" = some (.ref (He.ga K "repeated")) := He.glo_ok X G (c.fact 34 (f := .glo "repeated") rfl)
  have g_replaced : mg "replaced" = some (.ref (He.ga K "replaced")) := He.glo_ok X G (c.fact 35 (f := .glo "replaced") rfl)
  have g_require_text : mg "require_text" = some (.ref (He.ga K "require_text")) := He.glo_ok X G (c.fact 36 (f := .glo "require_text") rfl)
  have g_require_text_point : mg "require_text_point" = some (.ref (He.ga K "require_text_point")) := He.glo_ok X G (c.fact 37 (f := .glo "require_text_point") rfl)
  have g_require_like_texts : mg "require_like_texts" = some (.ref (He.ga K "require_like_texts")) := He.glo_ok X G (c.fact 38 (f := .glo "require_like_texts") rfl)
  have g_powers : mg "powers" = some (.ref (He.ga K "powers")) := He.glo_ok X G (c.fact 39 (f := .glo "powers") rfl)
  have g_text_with : mg "text_with" = some (.ref (He.ga K "text_with")) := He.glo_ok X G (c.fact 40 (f := .glo "text_with") rfl)
  have g_pieces_with : mg "pieces_with" = some (.ref (He.ga K "pieces_with")) := He.glo_ok X G (c.fact 41 (f := .glo "pieces_with") rfl)
  have g_runs_at : mg "runs_at" = some (.ref (He.ga K "runs_at")) := He.glo_ok X G (c.fact 42 (f := .glo "runs_at") rfl)
  have g_letter_of_runs : mg "letter_of_runs" = some (.ref (He.ga K "letter_of_runs")) := He.glo_ok X G (c.fact 43 (f := .glo "letter_of_runs") rfl)
  have g__law_hash : mg "_law_hash" = some (.ref (He.ga K "_law_hash")) := He.glo_ok X G (c.fact 44 (f := .glo "_law_hash") rfl)
  have g__law_generator : mg "_law_generator" = some (.ref (He.ga K "_law_generator")) := He.glo_ok X G (c.fact 45 (f := .glo "_law_generator") rfl)
  have g__law_random : mg "_law_random" = some (.ref (He.ga K "_law_random")) := He.glo_ok X G (c.fact 46 (f := .glo "_law_random") rfl)
  have g__law_word : mg "_law_word" = some (.ref (He.ga K "_law_word")) := He.glo_ok X G (c.fact 47 (f := .glo "_law_word") rfl)
  have g__law_piece : mg "_law_piece" = some (.ref (He.ga K "_law_piece")) := He.glo_ok X G (c.fact 48 (f := .glo "_law_piece") rfl)
  have g__law_pieces : mg "_law_pieces" = some (.ref (He.ga K "_law_pieces")) := He.glo_ok X G (c.fact 49 (f := .glo "_law_pieces") rfl)
  have g__law_value : mg "_law_value" = some (.ref (He.ga K "_law_value")) := He.glo_ok X G (c.fact 50 (f := .glo "_law_value") rfl)
  have g__law_written : mg "_law_written" = some (.ref (He.ga K "_law_written")) := He.glo_ok X G (c.fact 51 (f := .glo "_law_written") rfl)
  have g__law_measure : mg "_law_measure" = some (.ref (He.ga K "_law_measure")) := He.glo_ok X G (c.fact 52 (f := .glo "_law_measure") rfl)
  have g__law_led : mg "_law_led" = some (.ref (He.ga K "_law_led")) := He.glo_ok X G (c.fact 53 (f := .glo "_law_led") rfl)
  have g__law_told : mg "_law_told" = some (.ref (He.ga K "_law_told")) := He.glo_ok X G (c.fact 54 (f := .glo "_law_told") rfl)
  have g__law_seen_good : mg "_law_seen_good" = some (.ref (He.ga K "_law_seen_good")) := He.glo_ok X G (c.fact 55 (f := .glo "_law_seen_good") rfl)
  have g__law_made_good : mg "_law_made_good" = some (.ref (He.ga K "_law_made_good")) := He.glo_ok X G (c.fact 56 (f := .glo "_law_made_good") rfl)
  have g__law_joined_good : mg "_law_joined_good" = some (.ref (He.ga K "_law_joined_good")) := He.glo_ok X G (c.fact 57 (f := .glo "_law_joined_good") rfl)
  have g__law_repeated_good : mg "_law_repeated_good" = some (.ref (He.ga K "_law_repeated_good")) := He.glo_ok X G (c.fact 58 (f := .glo "_law_repeated_good") rfl)
  have g__law_replaced_good : mg "_law_replaced_good" = some (.ref (He.ga K "_law_replaced_good")) := He.glo_ok X G (c.fact 59 (f := .glo "_law_replaced_good") rfl)
  have g__law_caught : mg "_law_caught" = some (.ref (He.ga K "_law_caught")) := He.glo_ok X G (c.fact 60 (f := .glo "_law_caught") rfl)
  have g__law_only : mg "_law_only" = some (.ref (He.ga K "_law_only")) := He.glo_ok X G (c.fact 61 (f := .glo "_law_only") rfl)
  have g__law_refused : mg "_law_refused" = some (.ref (He.ga K "_law_refused")) := He.glo_ok X G (c.fact 62 (f := .glo "_law_refused") rfl)
  have g_law : mg "law" = some (.ref (He.ga K "law")) := He.glo_ok X G (c.fact 63 (f := .glo "law") rfl)
  have z_int : mg "int" = none := He.free_ok X G (c.fact 65 (f := .free "int") rfl)
  have z_range : mg "range" = none := He.free_ok X G (c.fact 66 (f := .free "range") rfl)
  have z_len : mg "len" = none := He.free_ok X G (c.fact 67 (f := .free "len") rfl)
  have z_sum : mg "sum" = none := He.free_ok X G (c.fact 68 (f := .free "sum") rfl)
  have z_max : mg "max" = none := He.free_ok X G (c.fact 69 (f := .free "max") rfl)
  have z_isinstance : mg "isinstance" = none := He.free_ok X G (c.fact 70 (f := .free "isinstance") rfl)
  have z_str : mg "str" = none := He.free_ok X G (c.fact 71 (f := .free "str") rfl)
  have z_bool : mg "bool" = none := He.free_ok X G (c.fact 72 (f := .free "bool") rfl)
  have z_zip : mg "zip" = none := He.free_ok X G (c.fact 73 (f := .free "zip") rfl)
  have z_tuple : mg "tuple" = none := He.free_ok X G (c.fact 74 (f := .free "tuple") rfl)
  have z_any : mg "any" = none := He.free_ok X G (c.fact 75 (f := .free "any") rfl)
  have z_all : mg "all" = none := He.free_ok X G (c.fact 76 (f := .free "all") rfl)
  have z_list : mg "list" = none := He.free_ok X G (c.fact 77 (f := .free "list") rfl)
  have z_repr : mg "repr" = none := He.free_ok X G (c.fact 78 (f := .free "repr") rfl)
  obtain ⟨t_MOST_UNKNOWNS, h_MOST_UNKNOWNS⟩ := He.int_ok X G (c.fact 79 (f := .int "MOST_UNKNOWNS" 3) rfl)
  obtain ⟨t_LONGEST_WORD, h_LONGEST_WORD⟩ := He.int_ok X G (c.fact 80 (f := .int "LONGEST_WORD" 20000) rfl)
  obtain ⟨t_LONGEST_PIECE, h_LONGEST_PIECE⟩ := He.int_ok X G (c.fact 81 (f := .int "LONGEST_PIECE" 2000) rfl)
  obtain ⟨t_MOST_PIECES, h_MOST_PIECES⟩ := He.int_ok X G (c.fact 82 (f := .int "MOST_PIECES" 5000) rfl)
  obtain ⟨t_MOST_MEASURE, h_MOST_MEASURE⟩ := He.int_ok X G (c.fact 83 (f := .int "MOST_MEASURE" 2000) rfl)
  have MK : Mk K (GA K) (He.ma K (GA K) "__init__") := He.mkr_ok (c.fact 85 (f := .mkr "OpenText") rfl)
  obtain ⟨ma1, ma2, ma3⟩ := He.meth_ok (c.fact 88 (f := .meth "OpenText" "many") rfl)
  obtain ⟨ml1, ml2, ml3⟩ := He.meth_ok (c.fact 89 (f := .meth "OpenText" "pieces") rfl)
  obtain ⟨me1, me2, me3⟩ := He.meth_ok (c.fact 90 (f := .meth "OpenText" "__eq__") rfl)
  have T := tt_of X G c b
  have eL := hfa.symm.trans g_law
  cases eL
  have bL := FunD.bindsA (ps := ["_law_script"]) F_law fun _ _ _ _ _ _ us hl => match us, hl with | [_], _ => rfl
  refine ⟨fd_law, fun s v => bL s [v] rfl, fun base Xb _ => ?_⟩
  have Z : Cl4 P w K mg base := cl_of X G c b
  have o__law_hash := Ok.mk' (P := P) (w := w) (base := base) F__law_hash g__law_hash (fun _ _ _ _ _ _ us hl => match us, hl with | [_, _], _ => rfl) (ok_hash F__law_hash z_int)
  have o__law_random := Ok.mk' (P := P) (w := w) (base := base) F__law_random g__law_random (fun _ _ _ _ _ _ us hl => match us, hl with | [_, _], _ => rfl) (ok_rand F__law_random o__law_hash z_int z_range)
  have o__law_generator := Ok.mk' (P := P) (w := w) (base := base) F__law_generator g__law_generator (fun _ _ _ _ _ _ us hl => match us, hl with | [_, _], _ => rfl) (ok_gen F__law_generator z_int z_len z_sum z_max)
  have o_is_string_of_letters := Ok.mk' (P := P) (w := w) (base := base) F_is_string_of_letters g_is_string_of_letters (fun _ _ _ _ _ _ us hl => match us, hl with | [_], _ => rfl) (ok_letters F_is_string_of_letters z_isinstance z_str)
  have o_root_of := Ok.mk' (P := P) (w := w) (base := base) F_root_of g_root_of (fun _ _ _ _ _ _ us hl => match us, hl with | [_], _ => rfl) (ok_root F_root_of )
  have o_common_end := Ok.mk' (P := P) (w := w) (base := base) F_common_end g_common_end (fun _ _ _ _ _ _ us hl => match us, hl with | [_, _], _ => rfl) (ok_common F_common_end z_len)
  have o_turned := Ok.mk' (P := P) (w := w) (base := base) F_turned g_turned (fun _ _ _ _ _ _ us hl => match us, hl with | [_, _], _ => rfl) (ok_turned F_turned z_len)
  have o_is_whole := Ok.mk' (P := P) (w := w) (base := base) F_is_whole g_is_whole (fun _ _ _ _ _ _ us hl => match us, hl with | [_], _ => rfl) (ok_whole F_is_whole z_isinstance z_int z_bool)
  have o_is_count := Ok.mk' (P := P) (w := w) (base := base) F_is_count g_is_count (fun _ _ _ _ _ _ us hl => match us, hl with | [_], _ => rfl) (ok_count F_is_count o_is_whole)
  have o_is_count_below := Ok.mk' (P := P) (w := w) (base := base) F_is_count_below g_is_count_below (fun _ _ _ _ _ _ us hl => match us, hl with | [_, _], _ => rfl) (ok_below F_is_count_below o_is_count)
  have o_form_value := Ok.mk' (P := P) (w := w) (base := base) F_form_value g_form_value (fun _ _ _ _ _ _ us hl => match us, hl with | [_, _], _ => rfl) (ok_formValue F_form_value z_sum z_zip)
  have o_form_times := Ok.mk' (P := P) (w := w) (base := base) F_form_times g_form_times (fun _ _ _ _ _ _ us hl => match us, hl with | [_, _], _ => rfl) (ok_times F_form_times z_tuple)
  have o_plain_form := Ok.mk' (P := P) (w := w) (base := base) F_plain_form g_plain_form (fun _ _ _ _ _ _ us hl => match us, hl with | [_, _], _ => rfl) (ok_plain F_plain_form z_tuple)
  have o_sum_of_forms := Ok.mk' (P := P) (w := w) (base := base) F_sum_of_forms g_sum_of_forms (fun _ _ _ _ _ _ us hl => match us, hl with | [_, _], _ => rfl) (ok_sum F_sum_of_forms z_tuple z_sum z_range)
  have o_is_plain := Ok.mk' (P := P) (w := w) (base := base) F_is_plain g_is_plain (fun _ _ _ _ _ _ us hl => match us, hl with | [_], _ => rfl) (ok_plainQ F_is_plain z_any)
  have o_add_fixed := Ok.mk' (P := P) (w := w) (base := base) F_add_fixed g_add_fixed (fun _ _ _ _ _ _ us hl => match us, hl with | [_, _, _], _ => rfl) (ok_addF F_add_fixed o_plain_form)
  have o_add_power := Ok.mk' (P := P) (w := w) (base := base) F_add_power g_add_power (fun _ _ _ _ _ _ us hl => match us, hl with | [_, _, _, _], _ => rfl) (ok_addP F_add_power o_is_plain o_sum_of_forms)
  have o_normal_pieces := Ok.mk' (P := P) (w := w) (base := base) F_normal_pieces g_normal_pieces (fun _ _ _ _ _ _ us hl => match us, hl with | [_, _], _ => rfl) (ok_np F_normal_pieces o_is_plain o_root_of o_form_times o_common_end o_turned o_add_fixed o_add_power z_any z_len)
  have o_has_form := Ok.mk' (P := P) (w := w) (base := base) F_has_form g_has_form (fun _ _ _ _ _ _ us hl => match us, hl with | [_, _], _ => rfl) (ok_hasForm F_has_form o_is_count z_isinstance z_tuple z_len z_all)
  have x_require_many := OkX.mk' (P := P) (w := w) (base := base) F_require_many g_require_many (fun _ _ _ _ _ _ us hl => match us, hl with | [_], _ => rfl) (ok_reqMany F_require_many Z o_is_count_below h_MOST_UNKNOWNS)
  have o_is_piece := Ok.mk' (P := P) (w := w) (base := base) F_is_piece g_is_piece (fun _ _ _ _ _ _ us hl => match us, hl with | [_, _], _ => rfl) (ok_isPiece F_is_piece o_is_string_of_letters o_has_form z_isinstance z_tuple z_len h_LONGEST_PIECE)
  have o_measure := Ok.mk' (P := P) (w := w) (base := base) F_measure g_measure (fun _ _ _ _ _ _ us hl => match us, hl with | [_], _ => rfl) (ok_measure F_measure o_is_plain z_sum z_len)
  have x_require_measure := OkX.mk' (P := P) (w := w) (base := base) F_require_measure g_require_measure (fun _ _ _ _ _ _ us hl => match us, hl with | [_], _ => rfl) (ok_reqMeas F_require_measure Z h_MOST_MEASURE)
  have x_normal := OkX.mk' (P := P) (w := w) (base := base) F_normal g_normal (fun _ _ _ _ _ _ us hl => match us, hl with | [_, _], _ => rfl) (ok_normal F_normal x_require_many o_is_piece o_measure x_require_measure o_normal_pieces z_isinstance z_list z_len h_MOST_PIECES)
  have FI := ok_init (P := P) (w := w) (base := base) Fm___init__ T x_normal
  have o_mk : OkMkT P w K mg base (GA K) := ⟨_, _, MK, FI, FunD.bindsN Fm___init__ fun _ _ _ _ _ _ us hl => match us, hl with | [_, _, _], _ => rfl, T.g⟩
  have ot_many : OkMt P w K mg base (GA K) "many" (spManyT (GA K)) := ⟨_, _, ok_manyT Fm_many T, ⟨ma1, ma2, ma3⟩, FunD.bindsN Fm_many fun _ _ _ _ _ _ us hl => match us, hl with | [_], _ => rfl⟩
  have ot_pieces : OkMt P w K mg base (GA K) "pieces" (spPiecesT (GA K)) := ⟨_, _, ok_piecesT Fm_pieces T z_list, ⟨ml1, ml2, ml3⟩, FunD.bindsN Fm_pieces fun _ _ _ _ _ _ us hl => match us, hl with | [_], _ => rfl⟩
  have o_eq : OkEq P w K mg base (GA K) := ⟨_, _, me1, me2, ok_eq Fm___eq__ T z_isinstance, FunD.bindsN Fm___eq__ fun _ _ _ _ _ _ us hl => match us, hl with | [_, _], _ => rfl⟩
  have o_is_point := Ok.mk' (P := P) (w := w) (base := base) F_is_point g_is_point (fun _ _ _ _ _ _ us hl => match us, hl with | [_, _], _ => rfl) (ok_isPoint F_is_point o_is_count z_isinstance z_list z_len z_all)
  have o_runs_at := Ok.mk' (P := P) (w := w) (base := base) F_runs_at g_runs_at (fun _ _ _ _ _ _ us hl => match us, hl with | [_, _], _ => rfl) (ok_runs F_runs_at o_form_value)
  have o_letters_of_runs := Ok.mk' (P := P) (w := w) (base := base) F_letters_of_runs g_letters_of_runs (fun _ _ _ _ _ _ us hl => match us, hl with | [_], _ => rfl) (ok_letR F_letters_of_runs z_sum z_len)
  have o_letter_of_runs := Ok.mk' (P := P) (w := w) (base := base) F_letter_of_runs g_letter_of_runs (fun _ _ _ _ _ _ us hl => match us, hl with | [_, _], _ => rfl) (ok_ltr F_letter_of_runs z_len)
  have x_require_text := OkX.mk' (P := P) (w := w) (base := base) F_require_text g_require_text (fun _ _ _ _ _ _ us hl => match us, hl with | [_], _ => rfl) (ok_reqText F_require_text T Z z_isinstance)
  have x_require_text_point := OkX.mk' (P := P) (w := w) (base := base) F_require_text_point g_require_text_point (fun _ _ _ _ _ _ us hl => match us, hl with | [_, _], _ => rfl) (ok_reqTP F_require_text_point T Z x_require_text ot_many o_is_point)
  have x_text_letter := OkX.mk' (P := P) (w := w) (base := base) F_text_letter g_text_letter (fun _ _ _ _ _ _ us hl => match us, hl with | [_, _, _], _ => rfl) (ok_tletter F_text_letter T Z x_require_text_point ot_pieces o_runs_at o_letters_of_runs o_letter_of_runs o_is_count_below)
  have x_length := OkX.mk' (P := P) (w := w) (base := base) F_length g_length (fun _ _ _ _ _ _ us hl => match us, hl with | [_], _ => rfl) (ok_length F_length T x_require_text ot_many ot_pieces o_form_times o_sum_of_forms z_len)
  have l_is_string_of_letters := Ok.mk' (P := P) (w := w) (base := base) F_is_string_of_letters g_is_string_of_letters (fun _ _ _ _ _ _ us hl => match us, hl with | [_], _ => rfl) (ok_low F_is_string_of_letters z_isinstance z_str)
  have o_is_letter := Ok.mk' (P := P) (w := w) (base := base) F_is_letter g_is_letter (fun _ _ _ _ _ _ us hl => match us, hl with | [_], _ => rfl) (ok_isLetter F_is_letter l_is_string_of_letters z_len)
  have x_written := OkX.mk' (P := P) (w := w) (base := base) F_written g_written (fun _ _ _ _ _ _ us hl => match us, hl with | [_, _], _ => rfl) (ok_written F_written T Z x_require_text_point ot_pieces o_runs_at o_letters_of_runs h_LONGEST_WORD)
  have x_letters := OkX.mk' (P := P) (w := w) (base := base) F_letters g_letters (fun _ _ _ _ _ _ us hl => match us, hl with | [_, _], _ => rfl) (ok_lettersT F_letters T Z x_require_text o_is_letter ot_many ot_pieces o_form_times o_sum_of_forms)
  have x_size := OkX.mk' (P := P) (w := w) (base := base) F_size g_size (fun _ _ _ _ _ _ us hl => match us, hl with | [_], _ => rfl) (ok_size F_size T x_require_text ot_pieces z_sum z_len)
  have x_powers := OkX.mk' (P := P) (w := w) (base := base) F_powers g_powers (fun _ _ _ _ _ _ us hl => match us, hl with | [_], _ => rfl) (ok_powers F_powers T ot_pieces o_is_plain)
  have o__law_value := Ok.mk' (P := P) (w := w) (base := base) F__law_value g__law_value (fun _ _ _ _ _ _ us hl => match us, hl with | [_, _], _ => rfl) (ok_lvalue F__law_value z_sum z_range z_len)
  have o__law_word := Ok.mk' (P := P) (w := w) (base := base) F__law_word g__law_word (fun _ _ _ _ _ _ us hl => match us, hl with | [_, _], _ => rfl) (ok_lword F__law_word o__law_random z_range)
  have x_require_like_texts := OkX.mk' (P := P) (w := w) (base := base) F_require_like_texts g_require_like_texts (fun _ _ _ _ _ _ us hl => match us, hl with | [_, _], _ => rfl) (ok_like F_require_like_texts T Z x_require_text ot_many)
  have x_joined := OkX.mk' (P := P) (w := w) (base := base) F_joined g_joined (fun _ _ _ _ _ _ us hl => match us, hl with | [_, _], _ => rfl) (ok_joined F_joined T o_mk x_require_like_texts ot_many ot_pieces)
  have k_joined := OkKX.mk' (P := P) (w := w) (base := base) F_joined g_joined (fun _ _ _ _ _ _ us hl => match us, hl with | [_, _], _ => rfl) (ok_joined F_joined T o_mk x_require_like_texts ot_many ot_pieces)
  have x_repeated := OkX.mk' (P := P) (w := w) (base := base) F_repeated g_repeated (fun _ _ _ _ _ _ us hl => match us, hl with | [_, _], _ => rfl) (ok_repeated F_repeated T Z o_mk x_require_text ot_many ot_pieces o_is_count o_measure x_require_measure)
  have k_repeated := OkKX.mk' (P := P) (w := w) (base := base) F_repeated g_repeated (fun _ _ _ _ _ _ us hl => match us, hl with | [_, _], _ => rfl) (ok_repeated F_repeated T Z o_mk x_require_text ot_many ot_pieces o_is_count o_measure x_require_measure)
  have o_form_with := Ok.mk' (P := P) (w := w) (base := base) F_form_with g_form_with (fun _ _ _ _ _ _ us hl => match us, hl with | [_, _, _], _ => rfl) (ok_with F_form_with o_form_times o_plain_form o_sum_of_forms z_zip)
  have o_pieces_with := Ok.mk' (P := P) (w := w) (base := base) F_pieces_with g_pieces_with (fun _ _ _ _ _ _ us hl => match us, hl with | [_, _, _], _ => rfl) (ok_pw F_pieces_with o_form_with)
  have x_require_forms := OkX.mk' (P := P) (w := w) (base := base) F_require_forms g_require_forms (fun _ _ _ _ _ _ us hl => match us, hl with | [_, _, _], _ => rfl) (ok_reqFs F_require_forms Z o_has_form z_isinstance z_list z_len z_all)
  have x_text_with := OkX.mk' (P := P) (w := w) (base := base) F_text_with g_text_with (fun _ _ _ _ _ _ us hl => match us, hl with | [_, _, _], _ => rfl) (ok_tw F_text_with T o_mk ot_many ot_pieces o_pieces_with)
  have x_replaced := OkX.mk' (P := P) (w := w) (base := base) F_replaced g_replaced (fun _ _ _ _ _ _ us hl => match us, hl with | [_, _, _], _ => rfl) (ok_replaced F_replaced T x_require_text x_require_many x_require_forms ot_many x_text_with)
  have k_replaced := OkKX.mk' (P := P) (w := w) (base := base) F_replaced g_replaced (fun _ _ _ _ _ _ us hl => match us, hl with | [_, _, _], _ => rfl) (ok_replaced F_replaced T x_require_text x_require_many x_require_forms ot_many x_text_with)
  have x_spread := OkX.mk' (P := P) (w := w) (base := base) F_spread g_spread (fun _ _ _ _ _ _ us hl => match us, hl with | [_], _ => rfl) (ok_spread F_spread T x_require_text x_powers.calm z_max)
  have x_unknowns := OkX.mk' (P := P) (w := w) (base := base) F_unknowns g_unknowns (fun _ _ _ _ _ _ us hl => match us, hl with | [_], _ => rfl) (ok_unk F_unknowns T x_require_text ot_many x_powers.calm z_range z_any)
  have o__law_piece := Ok.mk' (P := P) (w := w) (base := base) F__law_piece g__law_piece (fun _ _ _ _ _ _ us hl => match us, hl with | [_, _, _, _], _ => rfl) (ok_lpiece F__law_piece o__law_random o__law_word z_len z_tuple z_range)
  have o__law_pieces := Ok.mk' (P := P) (w := w) (base := base) F__law_pieces g__law_pieces (fun _ _ _ _ _ _ us hl => match us, hl with | [_, _, _, _], _ => rfl) (ok_lpieces F__law_pieces o__law_random o__law_piece z_range)
  have o__law_measure := Ok.mk' (P := P) (w := w) (base := base) F__law_measure g__law_measure (fun _ _ _ _ _ _ us hl => match us, hl with | [_], _ => rfl) (ok_lmeas F__law_measure z_sum z_len)
  have o__law_written := Ok.mk' (P := P) (w := w) (base := base) F__law_written g__law_written (fun _ _ _ _ _ _ us hl => match us, hl with | [_, _], _ => rfl) (ok_lwritten F__law_written o__law_value)
  have o__law_led := Ok.mk' (P := P) (w := w) (base := base) F__law_led g__law_led (fun _ _ _ _ _ _ us hl => match us, hl with | [_, _, _], _ => rfl) (ok_lled F__law_led z_sum z_len z_range z_tuple)
  have o__law_seen_good := Ok.mk' (P := P) (w := w) (base := base) F__law_seen_good g__law_seen_good (fun _ _ _ _ _ _ us hl => match us, hl with | [_, _], _ => rfl) (ok_seen F__law_seen_good T ot_many ot_pieces x_size.calm x_length.calm x_letters.calm x_spread.calm x_unknowns.calm x_written.calm x_text_letter.calm z_sum z_len z_range z_tuple z_max)
  have o__law_told := Ok.mk' (P := P) (w := w) (base := base) F__law_told g__law_told (fun _ _ _ _ _ _ us hl => match us, hl with | [_, _], _ => rfl) (ok_told F__law_told Z x_joined x_repeated x_replaced)
  have o__law_made_good := Ok.mk' (P := P) (w := w) (base := base) F__law_made_good g__law_made_good (fun _ _ _ _ _ _ us hl => match us, hl with | [_, _, _, _], _ => rfl) (ok_made F__law_made_good T o_mk o_eq ot_many ot_pieces o__law_told o__law_measure o__law_seen_good z_isinstance)
  have o__law_joined_good := Ok.mk' (P := P) (w := w) (base := base) F__law_joined_good g__law_joined_good (fun _ _ _ _ _ _ us hl => match us, hl with | [_, _, _, _], _ => rfl) (ok_jg F__law_joined_good T o_mk o_eq ot_pieces o__law_made_good o__law_random x_written.calm x_joined.calm k_joined.calm o__law_written z_list z_range z_max)
  have o__law_repeated_good := Ok.mk' (P := P) (w := w) (base := base) F__law_repeated_good g__law_repeated_good (fun _ _ _ _ _ _ us hl => match us, hl with | [_, _, _], _ => rfl) (ok_rg F__law_repeated_good T o_mk o_eq ot_pieces o__law_made_good o__law_told o__law_measure o__law_random x_repeated.calm k_repeated.calm z_list)
  have o__law_replaced_good := Ok.mk' (P := P) (w := w) (base := base) F__law_replaced_good g__law_replaced_good (fun _ _ _ _ _ _ us hl => match us, hl with | [_, _, _], _ => rfl) (ok_pg F__law_replaced_good T o_mk o_eq ot_pieces o__law_made_good o__law_led o__law_random x_replaced.calm k_replaced.calm o__law_value x_written.calm o__law_written z_list z_range z_max z_tuple z_int)
  have o__law_caught := Ok.mk' (P := P) (w := w) (base := base) F__law_caught g__law_caught (fun _ _ _ _ _ _ us hl => match us, hl with | [_, _], _ => rfl) (ok_caught F__law_caught Z x_joined x_repeated x_replaced z_isinstance)
  have o__law_only := Ok.mk' (P := P) (w := w) (base := base) F__law_only g__law_only (fun _ _ _ _ _ _ us hl => match us, hl with | [_, _], _ => rfl) (ok_only F__law_only z_range)
  have o__law_refused := OkG.mk' (P := P) (w := w) (base := base) F__law_refused g__law_refused (fun _ _ _ _ _ _ us hl => match us, hl with | [], _ => rfl) (ok_refused F__law_refused o_mk o__law_caught o__law_only z_range z_repr)
  exact ok_law F_law T o_mk o_eq ot_pieces o__law_generator o__law_random o__law_pieces o__law_joined_good o__law_repeated_good o__law_replaced_good x_joined.calm x_repeated.calm x_replaced.calm o__law_told o__law_refused z_range
end
end K5
set_option Elab.async false
set_option linter.all false
set_option maxRecDepth 100000
set_option maxHeartbeats 0
namespace K5
open PySem PySem.Spec PyProof.Rows L2 XV
abbrev R : PySem.W.OpenRow := PySem.W.OpenLaw.row PySem.Challenge.rw_openloops_k05_whole_texts_put_together
abbrev qv : Program := PySem.W.view R.prog [86]
def names : List PySem.Str := (["LoopError", "InvalidNumber", "InvalidWord", "InvalidPoint", "InvalidPieces", "InvalidList", "InvalidText", "InvalidPiece", "Unlike", "TooLong", "MOST_UNKNOWNS", "LONGEST_WORD", "is_whole", "is_count", "is_count_below", "require_many", "is_string_of_letters", "is_letter", "is_point", "has_form"] : List PySem.Str) ++ (["require_forms", "form_value", "form_with", "is_plain", "form_times", "sum_of_forms", "plain_form", "root_of", "common_end", "turned", "letters_of_runs", "LONGEST_PIECE", "MOST_PIECES", "MOST_MEASURE", "normal", "is_piece", "measure", "require_measure", "normal_pieces", "add_fixed"] : List PySem.Str) ++ (["add_power", "OpenText", "size", "spread", "unknowns", "written", "text_letter", "length", "letters", "joined", "repeated", "replaced", "require_text", "require_text_point", "require_like_texts", "powers", "text_with", "pieces_with", "runs_at", "letter_of_runs"] : List PySem.Str) ++ (["_law_hash", "_law_generator", "_law_random", "_law_word", "_law_piece", "_law_pieces", "_law_value", "_law_written", "_law_measure", "_law_led", "_law_told", "_law_seen_good", "_law_made_good", "_law_joined_good", "_law_repeated_good", "_law_replaced_good", "_law_caught", "_law_only", "_law_refused"] : List PySem.Str)
noncomputable abbrev endR (w : World) (os : OsState) : Option PySem.W.SharedT := HandSHeadRun.endF (HandSHeadRun.stepQ (HandSHeadRun.denQ HandSHeadRun.tabQ) R.prog w) 12000 R.prog w os
end K5
set_option Elab.async false
set_option linter.all false
set_option maxRecDepth 100000
set_option maxHeartbeats 0
namespace K5
open PySem PySem.Spec PyProof.Rows L2 XV
def obsK (K : PySem.W.Frag) : He.AlD × Bool := (He.obsD fa fn K, bx K)
abbrev hk : PySem.W.Hook := hookF (He.AlD × Bool) obsK (He.valD fn, true)
def ob (s : PySem.W.SharedT) : He.AlD × Bool := obF obsK s
theorem ob_eq (s : PySem.W.SharedT) : ob s = hk.obs s.abs := obF_eq (val := (He.valD fn, true)) s
theorem run (w : World) : HandSHeadRun.RunEq R qv hk ob 12000 names w := by
  intro os
  kernel_rfl
end K5
set_option Elab.async false
set_option linter.all false
set_option maxRecDepth 100000
set_option maxHeartbeats 0
open PySem PySem.W PySem.Calls PyProof.Rows
theorem PySem.Challenge.cw_openloops_k05_whole_texts_put_together_holds : PySem.Challenge.rw_openloops_k05_whole_texts_put_together.Holds := by
  w_on; o_law
  refine HandSHeadRun.head_any (r := OpenLaw.row PySem.Challenge.rw_openloops_k05_whole_texts_put_together) (q := view (OpenLaw.row PySem.Challenge.rw_openloops_k05_whole_texts_put_together).prog [86]) (H := K5.hk) (ob := K5.ob) (M := 12000) (loose := K5.names)
    (d := HandSHeadRun.topDef (OpenLaw.row PySem.Challenge.rw_openloops_k05_whole_texts_put_together).prog 86) (kwd := []) K5.ob_eq
    (by kernel_rfl) (fun s => by kernel_rfl) K5.run (by kernel_rfl) (by kernel_rfl) (by kernel_rfl) (by rfl) (by first | assumption | decide +kernel) (by decide +kernel) ⟨rfl, rfl, rfl, rfl, rfl, by decide +kernel⟩ ?hw ?hc
  case hw => w_witness2
  case hc =>
    refine XV.walk_ofG (l := PySem.Challenge.rw_openloops_k05_whole_texts_put_together) (n := 63) (k := 13) (x := "_law_script") rfl (by decide) (by kernel_rfl) ⟨rfl, by decide, by decide⟩ ?F
    intro w mg fa h Y G hmg0
    obtain ⟨K, KX, cb⟩ := Y
    have c : He.SaysD K5.fa K5.fn K := congrArg Prod.fst cb
    have b : K5.bx K = true := congrArg Prod.snd cb
    have hmg : mg ("law" : PySem.Str) = some (.ref fa) := by
      have e : (HandSHeadRun.topDef (OpenLaw.row PySem.Challenge.rw_openloops_k05_whole_texts_put_together).prog 86).name = ("law" : PySem.Str) := by kernel_rfl
      rw [← e]
      exact hmg0
    obtain ⟨fd, hb, hF⟩ := K5.facts (P := (PySem.Challenge.rw_openloops_k05_whole_texts_put_together).prog) (w := w) KX G hmg c b
    exact ⟨K, fd, K5.spLaw K, KX, hb, fun H a ns hl _ hS => ⟨a, ns, rfl, hS, hl, fun _ => rfl⟩, hF⟩
