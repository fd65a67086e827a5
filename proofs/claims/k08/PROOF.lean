import PyProof.Rows.All
import Wide.All
import OpenK.AllK
import Wide.FinOn
import HandS.ForMost
import HandS.Exc
import HandS.ExcInit
import HandS.ExcIs
import HandS.ExcField
import HandS.ExcOwn
import HandS.Defaults
import HandS.HeadHook2
import HandS.ExcValue
import HandS.Wide
import HandS.WideBits
import HandS.Style
import HandS.IsInst
import KE.DataAny
import HandS.StrMore
import PySem.Challenge.RW_openloops_k08_errors_by_their_classes
import HandS.OwnEq
import HandS.Head0
import HandS.Head1
import HandS.Head2
import HandS.HeadEnd
import HandS.HeadHook1
set_option Elab.async false
set_option linter.all false
set_option maxRecDepth 100000
set_option maxHeartbeats 2000000
/-! Own error classes whose instances are held as values: C(..) with any keywords, e.f, isinstance(e, C). -/
namespace XV
open PySem PySem.Spec PyProof.Rows L2 PySem.HandSPX

section
variable {prog : Program} {w : World} {A : Around} {E : Value → Shared → Prop} {R : Result → Shared → Prop}
variable {h : Heap} {g : Array GenState} {d : Drawn} {t : Nat} {os : OsState}
variable {nm q : Str} {C N : Addr} {bs bm bmB : List Value} {hdct : Bool} {sn : List Str} {sub : List Value} {ab : Bool} {col : Option Bool} {dd : Option Addr}
variable {k0 k1 k2 k3 k5 : Option Value} {B newId initId : String}

/-- the check ahead of __new__, whatever keywords there are -/
theorem chkNew {M : Model} (F : ExcBaseFacts B newId initId bmB) (hT : ∀ X : String, bm.contains (.type X) = bmB.contains (.type X))
    {rest : List Value} {kw : List (Str × Value)} {Q : Unit → Shared → Prop}
    (hC : h.get? C = some (excClassObj nm q C N bs bm hdct sn sub ab col dd k0 k1 k2 k3 k5 newId)) (hq : Q () ⟨h, g, d, t, os⟩) :
    wpAny M A (checkBuiltinCall newId ⟨.ref C :: rest, kw⟩) Q E ⟨h, g, d, t, os⟩ := by
  have cB : (Value.ref C :: bm).contains (.type B) = true := by
    rw [List.contains_cons, hT, F.hasB]
    exact Bool.or_true _
  have star := F.noStar
  simp only [checkBuiltinCall, F.newKind, F.newSplit, F.newRow]
  repeat (first
    | refine wpAny_loadPart_at hC ?_
    | (refine wpAny_isSubtype_exc hC ?_; rw [cB])
    | refine wpAny_staticBase_exc hC ?_
    | refine wpAny_madeBy_exc hC ?_
    | simp only [bne_self_eq_false, Bool.false_eq_true, if_false]
    | wp_step)
  exact hq

theorem runNew (F : ExcBaseFacts B newId initId bmB) (hT : ∀ X : String, bm.contains (.type X) = bmB.contains (.type X))
    {rest : List Value} {kw : List (Str × Value)}
    (hC : h.get? C = some (excClassObj nm q C N bs bm hdct sn sub ab col dd k0 k1 k2 k3 k5 newId))
    (hq : R (.ok (.ret (.ref (h.objs.size + 1)))) ⟨(h.push (PySem.W.kdv_tup rest)).push (excO C h.objs.size), g, d, t, os⟩) (hz : rest.length ≤ sizeLine) :
    codeAny (model prog w) A (.builtin newId ⟨.ref C :: rest, kw⟩) R ⟨h, g, d, t, os⟩ := by
  have ends := F.ends
  have cB : (Value.ref C :: bm).contains (.type B) = true := by
    rw [List.contains_cons, hT, F.hasB]
    exact Bool.or_true _
  have cA : (Value.ref C :: bm).contains (.type "AttributeError") = false := by
    rw [List.contains_cons, hT, F.noAttr] <;> rfl
  have cN : (Value.ref C :: bm).contains (.type "NameError") = false := by
    rw [List.contains_cons, hT, F.noName] <;> rfl
  refine codeAny_builtinAt F.entry ?_
  unfold Builtin.«BaseException.__new__»
  refine PySem.wpAt_bind ?_
  show PySem.wpAt _ _ _ (stack >>= _) _ _ _
  refine PySem.wpAt_bind (PySem.wpAt_stack fun p below => PySem.wpAt_of_wpAny ?_)
  wp_walk
  refine PySem.wpAt_of_wpAny ?_
  rw [F.owner]
  repeat (first
    | with_reducible refine wpAny_madeHere_exc F.canon hC ?_
    | with_reducible refine wpAny_loadPart_at hC ?_
    | (with_reducible refine wpAny_isSubtype_exc hC ?_; first | rw [cB] | rw [cA] | rw [cN])
    | wp_step)
  show R _ _
  rw [Heap.size_push]
  exact hq

theorem typeCall (F : ExcBaseFacts B newId initId bmB) (hT : ∀ X : String, bm.contains (.type X) = bmB.contains (.type X))
    {rest : List Value} {kw : List (Str × Value)} {fI : Addr} {Q : Fin → Shared → Prop}
    (hC : h.get? C = some (excClassObj nm q C N bs bm hdct sn sub ab col dd k0 k1 k2 k3 k5 newId))
    (hi : W.Looks (model prog w) h (typeLookup (.ref C) "__init__") (some (.ref fI)))
    (hb : ∀ self, W.Looks (model prog w) h (bindSpecial (.ref fI) self) (.ref fI, [self])) (hz : rest.length ≤ sizeLine)
    (hq : codeAny (model prog w) A (.call (.ref fI) ⟨.ref (h.objs.size + 1) :: rest, kw⟩)
      (fun r s' => match r with
        | .ok (.ret v) => v = .none ∧ Q (.done (.ret (.ref (h.objs.size + 1)))) s'
        | .ok _ => False
        | .error e => E e s')
      ⟨(h.push (W.kdv_tup rest)).push (excO C h.objs.size), g, d, t, os⟩) :
    wpAny (model prog w) A (Builtin.«type.__call__» ⟨.ref C :: rest, kw⟩) Q E ⟨h, g, d, t, os⟩ := by
  repeat (first
    | with_reducible refine wpAny_loadPart_at hC ?_
    | with_reducible refine wpAny_madeBy_exc hC ?_
    | wp_step)
  refine codeAny_call_builtin_code (Code.quiet_builtin _ F.quiet) (chkNew F hT hC ?_)
  refine runNew F hT hC ?_ hz
  show wpAny _ _ _ _ _ _
  have k : ∀ b o, h.get? b = some o → ((h.push (W.kdv_tup rest)).push (excO C h.objs.size)).get? b = some o :=
    fun b o e => Heap.get?_push_of_some _ (Heap.get?_push_of_some _ e)
  have hC1 := k _ _ hC
  have got : ((h.push (W.kdv_tup rest)).push (excO C h.objs.size)).get? (h.objs.size + 1) = some (excO C h.objs.size) := by heap_get
  have cC : (Value.ref C :: bm).contains (.ref C) = true := by simp
  have i1 := hi.keeps k
  have b1 := (hb (.ref (h.objs.size + 1))).keeps k
  unfold isInstance
  repeat (first
    | with_reducible refine wpAny_loadPart_at got ?_
    | (with_reducible refine wpAny_isSubtype_exc hC1 ?_; rw [cC])
    | wp_step)
  show wpAny _ _ (typeLookup (.ref C) _) _ _ _
  refine i1.at ?_
  refine wpAny_holding (wpAny_bind (b1.at ?_))
  refine wpAny_bind (wpAny_call (codeAny_mono hq fun r s' z => ?_))
  rcases r with e | (v | _ | _ | _) <;> first | exact z | exact z.elim | skip
  obtain ⟨rfl, z⟩ := z
  first
    | exact wpAny_pure (wpAny_pure z)
    | (wp_walk; exact z)

theorem chkCall {M : Model} {rest : List Value} {kw : List (Str × Value)} {Q : Unit → Shared → Prop}
    (hC : h.get? C = some (excClassObj nm q C N bs bm hdct sn sub ab col dd k0 k1 k2 k3 k5 newId)) (hq : Q () ⟨h, g, d, t, os⟩) :
    wpAny M A (checkBuiltinCall "type.__call__" ⟨.ref C :: rest, kw⟩) Q E ⟨h, g, d, t, os⟩ := by
  have f3 := tc_sub
  have ty : (⟨h, g, d, t, os⟩ : Shared).TypeIs (.ref C) "type" := ⟨_, hC, rfl⟩
  have args : argsOk "type.__call__" ⟨.ref C :: rest, kw⟩ := PySem.W.tc_args _ _ _
  unfold argsOk at args
  simp only [checkBuiltinCall, tc_kind, tc_split]
  repeat (any_goals (first
    | assumption
    | with_reducible refine wpAny_loadPart_at hC ?_
    | with_reducible refine wpAny_onRaise ?_
    | with_reducible refine wpAny_map ?_
    | rw [args]
    | wp_step))

/-- C(.., k = v, ..): an exception is made, then its class's own __init__ is called upon it -/
theorem callOwn (F : ExcBaseFacts B newId initId bmB) (hT : ∀ X : String, bm.contains (.type X) = bmB.contains (.type X))
    {rest : List Value} {kw : List (Str × Value)} {fI : Addr}
    (hC : h.get? C = some (excClassObj nm q C N bs bm hdct sn sub ab col dd k0 k1 k2 k3 k5 newId))
    (hi : W.Looks (model prog w) h (typeLookup (.ref C) "__init__") (some (.ref fI)))
    (hb : ∀ self, W.Looks (model prog w) h (bindSpecial (.ref fI) self) (.ref fI, [self])) (hz : rest.length ≤ sizeLine)
    (hq : codeAny (model prog w) (A.under (.builtin "type.__call__" ⟨.ref C :: rest, kw⟩)) (.call (.ref fI) ⟨.ref (h.objs.size + 1) :: rest, kw⟩)
      (W.InitBack (h.objs.size + 1) R) ⟨(h.push (W.kdv_tup rest)).push (excO C h.objs.size), g, d, t, os⟩) :
    codeAny (model prog w) A (.call (.ref C) ⟨rest, kw⟩) R ⟨h, g, d, t, os⟩ := by
  have f1 := tc_lookup
  have f2 := tc_bind (.ref C)
  have ty : (⟨h, g, d, t, os⟩ : Shared).TypeIs (.ref C) "type" := ⟨_, hC, rfl⟩
  refine codeAny_of_tree ?_
  show wpAny _ _ (callAny (.ref C) _) _ _ _
  repeat (any_goals (first
    | assumption
    | with_reducible refine wpAny_loadPart_at hC ?_
    | wp_step))
  refine ⟨rfl, ?_⟩
  refine codeAny_call_builtin_at (Code.quiet_builtin _ (by decide +kernel)) entry_typeCall (chkCall hC (typeCall F hT hC hi hb hz ?_))
  refine codeAny_mono hq fun r s' z => ?_
  rcases r with e | (v | _ | _ | _) <;> exact z
end
end XV
set_option Elab.async false
set_option linter.all false
set_option maxRecDepth 100000
set_option maxHeartbeats 2000000
namespace XV
open PySem PySem.Spec PyProof.Rows L2

theorem upd_mid {H : Hp} {a d : Addr} {o p q : HO} : upd (upd (upd H a o) d p) a q = upd (upd H d p) a q := by
  funext b
  by_cases e : b = a
  · subst e
    rw [upd_same, upd_same]
  · rw [upd_ne e, upd_ne e]
    by_cases f : b = d
    · subst f
      rw [upd_same, upd_same]
    · rw [upd_ne f, upd_ne f, upd_ne e]

/-- what __init__ of an error with the one field fld does -/
def spI (C : Addr) (fld : Str) : Sp := fun vs H Q _ => ∃ (a : Addr) (v : V), vs = [.ref a, v] ∧ H a = some (exo a C none) ∧
  ∀ d, H d = none → d ≠ a → Q .non (upd (upd H d (exd d [(fld, v)])) a (exo a C (some d)))

/-- what is known of such a class and its __init__ -/
structure XCls (P : Program) (w : World) (K : PySem.W.Frag) (mg : Str → Option Value) (base : Heap) (nm fld : Str) (C fI : Addr) (fd : FuncData) : Prop where
  g : mg nm = some (.ref C)
  ox : OexC K C
  iC : PySem.W.findIn K (.ref C) "__init__" = some (some (.ref fI))
  tI : PySem.W.typeIn K (.ref fI) = some (.type "function")
  no : PySem.W.findIn K (.ref C) fld = some none
  ini : FnOk P w K mg base CX0 1 fI fd ["self", fld] (spI C fld)
  b1 : ∀ (s : Shared) (x u : Value), K.In s.heap → BindsTo s fd ⟨[x, u], []⟩ [("self", x), (fld, u)]
  b0 : ∀ (s : Shared) (x : Value), K.In s.heap → BindsTo s fd ⟨[x], []⟩ [("self", x), (fld, .none)]
  bk : ∀ (s : Shared) (x u : Value), K.In s.heap → BindsTo s fd ⟨[x], [(fld, u)]⟩ [("self", x), (fld, u)]

/-- C(v): a new exception at a, its dict at d -/
structure rMk (C : Addr) (fld : Str) (v : V) (H : Hp) (Q : VK) : Prop where
  go : ∀ a d, H a = none → H d = none → d ≠ a → Q (.ref a) (upd (upd H d (exd d [(fld, v)])) a (exo a C (some d)))

section
variable {X : Cx} {pins : List (Addr × Obj)} {σ : L2.St} {H : Hp} {s : Shared} {Q : VK} {nm fld : Str} {C fI : Addr} {fd : FuncData} {v : V} {u : Value}
theorem mk_run (T : XCls X.prog X.w X.K X.mg X.base nm fld C fI fd) (hr : Room 2 X.A) (I : Inv X pins σ H s) {us : List Value} {kw : List (Str × Value)} (hu : us.length ≤ 1)
    (hb : ∀ (s' : Shared) (x : Value), X.K.In s'.heap → BindsTo s' fd ⟨x :: us, kw⟩ [("self", x), (fld, u)]) (rv : RelV v u) (q : rMk C fld v H Q) :
    wpAny (model X.prog X.w) X.A (call (.ref C) us kw) (EP X pins σ Q) X.xe s := by
  obtain ⟨n0, q0, N, bs, bm, sn, sub, ab, col, dd, k0, k1, k2, k3, k5, hC, hbm⟩ := T.ox.cls
  obtain ⟨hp, g, dr, tk, os⟩ := s
  have le1 : hp.objs.size ≤ hp.objs.size + 1 := Nat.le_succ _
  have fr : H (hp.objs.size + 1) = none := I.hok.fresh le1
  have kk : ∀ b o, hp.get? b = some o → ((hp.push (PySem.W.kdv_tup us)).push (PySem.HandSPX.excO C hp.objs.size)).get? b = some o :=
    fun b o e => Heap.get?_push_of_some _ (Heap.get?_push_of_some _ e)
  have got : ((hp.push (PySem.W.kdv_tup us)).push (PySem.HandSPX.excO C hp.objs.size)).get? (hp.objs.size + 1) = some (PySem.HandSPX.excO C hp.objs.size) := by heap_get
  have I2 := I.laid (t' := tk) (a := hp.objs.size + 1) (o := exo (hp.objs.size + 1) C none) (h' := (hp.push (PySem.W.kdv_tup us)).push (PySem.HandSPX.excO C hp.objs.size)) kk le1 (exo_ok got)
  have hz : us.length ≤ sizeLine := by
    rw [sizeLine_eq]
    omega
  have sp : spI C fld [.ref (hp.objs.size + 1), v] (upd H (hp.objs.size + 1) (exo (hp.objs.size + 1) C none)) (fun z H2 => z = .non ∧ Q (.ref (hp.objs.size + 1)) H2) E0 := by
    refine ⟨_, v, rfl, upd_same, fun d nd ne => ⟨rfl, ?_⟩⟩
    rw [upd_mid]
    rw [upd_ne ne] at nd
    exact q.go _ d fr nd ne
  refine wpAny_call (callOwn PySem.F.excBase_ValueError (fun Y => PySem.HandSPX.refsVE_contains Y bm hbm) (I.kIn _ _ hC) (PySem.W.looks_findIn I.kIn T.iC)
    (fun self => PySem.W.bind_fn I.kIn self T.tI) hz
    (codeAny_mono (T.ini.run _ X.stack _ _ ⟨Value.ref (hp.objs.size + 1) :: us, kw⟩ [Value.ref (hp.objs.size + 1), u] [.ref (hp.objs.size + 1), v] _ E0
      (hr.make C us kw) (I2.env0.make C us kw) (hb _ _ I2.kIn) (.cons rfl (.cons rv .nil)) sp) fun r s' z => ?_))
  cases r with
  | error e => exact False.elim z
  | ok fl =>
    cases fl with
    | ret r0 =>
      obtain ⟨z0, H', J, rz, ez, qz⟩ := I2.after z
      subst ez
      exact ⟨rz, ⟨V.ref (hp.objs.size + 1), H', J, rfl, qz⟩⟩
    | next => exact False.elim z
    | brk => exact False.elim z
    | cont => exact False.elim z
end

/-- of a list with one value -/
def oneOf (q : V → Hp → Prop) : List V → Hp → Prop
  | [v], H => q v H
  | _, _ => False
theorem oneOf.elim {q : V → Hp → Prop} : ∀ {vs : List V} {H : Hp}, oneOf q vs H → ∃ v, vs = [v] ∧ q v H
  | [v], _, h => ⟨v, rfl, h⟩
  | [], _, h => h.elim
  | _ :: _ :: _, _, h => h.elim
section
variable {X : Cx} {nm fld : Str} {C fI : Addr} {fd : FuncData} {e : Expr} {te : TE} {p pos kpos : Pos}
/-- C(e) -/
theorem pe_mk1 (T : XCls X.prog X.w X.K X.mg X.base nm fld C fI fd) (hr : Room 2 X.A) (hg : Gl X nm) (he : PE X e te) (hdb : (nm == ("__debug__" : Str)) = false := by decide)
    (hs : starEach (e :: []) X.env = (false, eval e X.env) :: starEach [] X.env := by rfl) (hpl : (backTo pos (starEach [] X.env)).any (·.1) = false := by rfl) :
    PE X (.Call (.Name nm p) [e] [] pos) (fun σ H Q => te σ H fun v H1 => rMk C fld v H1 Q) := by
  refine ⟨fun pins s σ H Q I h => ?_⟩
  refine wpAny_Call_Name_kw (ld_glob I hg T.g ?_ hdb)
  have ha : PA X [e] (tCons te tNil) := pa_cons he pa_nil hs
  refine PySem.W.callWith_K (h₀ := X.base) I.ok.mod.kin T.ox.kC (thn (ha.run pos pins s σ H (oneOf fun v H1 => rMk C fld v H1 Q) I h) fun us s1 z => ?_) hs hpl
  obtain ⟨vs, H1, I1, r, q⟩ := z
  obtain ⟨v, ev, q⟩ := oneOf.elim q
  subst ev
  cases r with
  | cons rv rn =>
    cases rn
    exact ⟨I1.kIn, mk_run T hr I1 (by simp) (fun s' x X' => T.b1 s' x _ X') rv q⟩
/-- C() -/
theorem pe_mk0 (T : XCls X.prog X.w X.K X.mg X.base nm fld C fI fd) (hr : Room 2 X.A) (hg : Gl X nm) (hdb : (nm == ("__debug__" : Str)) = false := by decide) :
    PE X (.Call (.Name nm p) [] [] pos) (fun σ H Q => rMk C fld .non H Q) := by
  refine ⟨fun pins s σ H Q I h => ?_⟩
  refine wpAny_Call_Name_kw (ld_glob I hg T.g ?_ hdb)
  exact PySem.W.callWith_K0 I.kIn T.ox.kC (mk_run (us := []) T hr I (by simp) (fun s' x X' => T.b0 s' x X') (v := .non) rfl h)
/-- C(fld = e) -/
theorem pe_mkK (T : XCls X.prog X.w X.K X.mg X.base nm fld C fI fd) (hr : Room 2 X.A) (hg : Gl X nm) (he : PE X e te) (hdb : (nm == ("__debug__" : Str)) = false := by decide)
    (hall : (backToKw pos (keywordEach [⟨some fld, e, kpos⟩] X.env)).all (·.1.isSome) = true := by rfl) (hks : (backToKw pos (keywordEach [⟨some fld, e, kpos⟩] X.env)).filterMap (·.1) = [fld] := by rfl)
    (hpl : ((backTo pos (starEach [] X.env)).any (·.1) || (backToKw pos (keywordEach [⟨some fld, e, kpos⟩] X.env)).any (·.1.isNone)) = false := by rfl) :
    PE X (.Call (.Name nm p) [] [⟨some fld, e, kpos⟩] pos) (fun σ H Q => te σ H fun v H1 => rMk C fld v H1 Q) := by
  refine ⟨fun pins s σ H Q I h => ?_⟩
  refine wpAny_Call_Name_kw (ld_glob I hg T.g ?_ hdb)
  have hk : PK X [⟨some fld, e, kpos⟩] (tCons te tNil) := pk_cons he pk_nil
  refine PySem.W.callWith_KW0 (h₀ := X.base) I.ok.mod.kin T.ox.kC hall (thn (hk.run pos pins s σ H (oneOf fun v H1 => rMk C fld v H1 Q) I h) fun us s1 z => ?_) hpl
  obtain ⟨vs, H1, I1, r, q⟩ := z
  obtain ⟨v, ev, q⟩ := oneOf.elim q
  subst ev
  cases r with
  | cons rv rn =>
    cases rn
    refine ⟨I1.kIn, ?_⟩
    rw [hks]
    exact mk_run (us := []) T hr I1 (by simp) (fun s' x X' => T.bk s' x _ X') rv q
end
end XV
set_option Elab.async false
set_option linter.all false
set_option maxRecDepth 100000
set_option maxHeartbeats 4000000
namespace XV
open PySem PySem.Spec PyProof.Rows L2

/-! ### e.f -/
/-- x is an error of the class at C with the fields fs -/
def Err (H : Hp) (x : V) (C : Addr) (fs : List (Str × V)) : Prop := ∃ a d, x = .ref a ∧ H a = some (exo a C (some d)) ∧ H d = some (exd d fs)
/-- the facts that a read of the field n wants -/
structure XF (K : PySem.W.Frag) (C : Addr) (n : Str) : Prop where
  xf : XfC K C
  no : PySem.W.findIn K (.ref C) n = some none
section
variable {X : Cx}
theorem pe_xget {e : Expr} {te : TE} {pos : Pos} {n : Str} (he : PE X e te) (hb : attributeBase e n X.env (eval e X.env) = eval e X.env := by rfl) :
    PE X (.Attribute e n pos) (fun σ H Q => te σ H fun x H1 => ∃ C fs v, Err H1 x C fs ∧ XF X.K C n ∧ fs.lookup n = some v ∧ Q v H1) := by
  refine ⟨fun pins s σ H Q I h => ?_⟩
  refine attr_of hb (thn (he.run pins s σ H _ I h) fun u s1 hh => ?_)
  obtain ⟨x, H1, I1, rx, C, fs, v, ⟨a, d, ex, ea, ed⟩, T, l, q⟩ := hh
  subst ex
  obtain rfl : u = Value.ref a := rx
  obtain ⟨t1, ho⟩ := exo_at I1.hok ea
  obtain ⟨mA, hns, hrel⟩ := exd_at I1.hok ed
  obtain ⟨od, hod, hl⟩ := lookIn_ns hns
  obtain ⟨w1, hw, rw1⟩ := RelO.some_of (v := v) (o := mA n) (by rw [← l]; exact hrel n)
  have J : PySem.W.InstAt s1.heap a _ C (some od) := ⟨ho, rfl, rfl, hod⟩
  exact HandSPX.exc_get I1.kIn J T.xf.ga T.xf.gg T.xf.exC (PySem.W.findObj_own T.xf.hdC T.no rfl (by rw [hl, hw])) (handed_of rw1) ⟨v, H1, I1.tok _, rw1, q⟩
end
end XV

/-! ### isinstance of an error, with its dict or without -/
namespace XV
open PySem PySem.W PySem.Calls PyProof.Rows L2
theorem find_cls {K : Frag} {D : Addr} {od : Option Obj} (E : ExcC K D) : findObj K D od "__class__" = some (.bind (.builtin "getset_descriptor.__get__") (.builtin "object.__class__")) := by
  have hc : (clsIn K D).isSome = true := by
    obtain ⟨cd, hc, _⟩ := any_some E.hd
    rw [hc]
    rfl
  cases od with
  | none => exact findObj_dataN hc E.ha E.hn E.ht
  | some o => exact findObj_data hc E.ha E.hn E.ht
theorem getCls {prog : Program} {w : World} {A : Around} {E : Value → Shared → Prop} {s : Shared} {K : Frag} {x D : Addr} {ox : Obj} {od : Option Obj} {Q : Option Value → Shared → Prop}
    (C : ExcC K D) (X : K.In s.heap) (I : InstAt s.heap x ox D od) (q : Q (some (.ref D)) { s with toks := s.toks + 1 }) : wpAny (model prog w) A (getAttr? (.ref x) "__class__") Q E s := by
  have fnd := find_cls (od := od) C
  obtain ⟨hp, g, d, t, os⟩ := s
  have tyx := I.type (M := model prog w)
  have look1 := looks_findIn (M := model prog w) X C.hg
  have look2 := looks_findIn (M := model prog w) X C.hk
  have look3 := looks_find (M := model prog w) X I fnd
  have isB : Looks (model prog w) hp (isInstance (.ref x) (.type "BaseException")) true := tyx.andThen (looks_subIn X C.hs)
  have n0 : (false && onTheHeap (Value.builtin "BaseException.__getattribute__")) = false := rfl
  have n2 : (Value.builtin "BaseException.__getattribute__" == Value.builtin "object.__getattribute__") = false := by decide +kernel
  have n1 : (onTheHeap (Value.ref D) && Value.builtin "BaseException.__getattribute__" == Value.builtin "object.__getattribute__") = false := by
    rw [n2]
    rfl
  unfold getAttr? getAttrBy? getAttrBy
  refine wpAny_bind (wpAny_mkText (wpAny_bind (wpAny_attempt (wpAny_holding (wpAny_bind (tyx.at (wpAny_bind (look1.at ?_))))))))
  show wpAny _ _ (if (onTheHeap (Value.ref D) && Value.builtin "BaseException.__getattribute__" == Value.builtin "object.__getattribute__") = true then _ else _) _ _ _
  rw [n1, if_neg Bool.false_ne_true]
  unfold getAttrByItsOwn hookBefore
  refine wpAny_bind ?_
  rw [if_pos (show onTheHeap (Value.ref D) = true from rfl)]
  refine look2.at ?_
  refine wpAny_bind (wpAny_attempt (wpAny_holding ?_))
  unfold callGetattribute
  rw [n0, if_neg Bool.false_ne_true]
  unfold boundAndCalled
  rw [PySem.F.excAttr_ValueError.ga.bind (.ref x)]
  refine wpAny_bind (wpAny_pure ?_)
  show wpAny _ _ (call (.builtin "BaseException.__getattribute__") [.ref x, .str "__class__" t]) _ _ _
  refine wpAny_call (codeAny_call_builtin PySem.F.excAttr_ValueError.ga.plain PySem.F.entry_bexc_ga ?_)
  refine @check_slot (model prog w) _ _ ⟨hp, g, d, t + 1, os⟩ "BaseException.__getattribute__" "BaseException" "__getattribute__" (.ref x) [.str "__class__" t] [] _ (by decide +kernel) (by decide +kernel) isB (PySem.F.args_bexc_ga (.ref x) (.str "__class__" t)) ?_
  unfold Builtin.«object.__getattribute__»
  refine wpAny_bind (wpAny_of_eq (a := ((Value.ref x : Value), [Value.str "__class__" t])) (by first | rfl | (simp only [slotArgs]; rfl)) ?_)
  refine wpAny_bind (wpAny_pure (wpAny_bind (tyx.at (wpAny_bind (look3.at ?_)))))
  show wpAny _ _ (holding [Value.builtin "object.__class__"] (call (.builtin "getset_descriptor.__get__") [.builtin "object.__class__", .ref x, .ref D]) >>= ret) _ _ _
  refine wpAny_bind (wpAny_holding (wpAny_call (class_get (s := ⟨hp, g, d, t + 1, os⟩) (ox := ox) (od := od) X I C.hm ?_)))
  refine wpAny_pure ?_
  show wpAny _ _ (handedOut (.ref D)) _ _ _
  rw [handedOut_of (v := .ref D) rfl]
  first
    | exact wpAny_pure (wpAny_pure q)
    | exact wpAny_pure q
    | exact wpAny_pure (wpAny_bind (wpAny_pure (wpAny_pure q)))
theorem kitErr {K : Frag} {x D : Addr} {ox : Obj} {od : Option Obj} (C : ExcC K D) : KitX K (.ref x) (.ref D) (fun h => InstAt h x ox D od) where
  ty := fun _ _ _ I => I.type
  it := fun _ _ X _ => by
    obtain ⟨cdD, hcD, _⟩ := any_some C.hd
    unfold clsIn at hcD
    split at hcD
    · rename_i c' d' cd' sl' ho
      intro A' Q' E' s' k q
      unfold isType loadHead
      exact wpAny_bind (wpAny_loadPart (k _ _ (X _ _ ho)) (wpAny_pure q))
    · cases hcD
  ne := fun h tp dd its n sl X htp => by
    obtain ⟨cdD, hcD, _⟩ := any_some C.hd
    refine Bool.eq_false_iff.mpr fun q => ?_
    have e : D = tp := Value.ref.inj (beq_iff_eq.mp q)
    subst e
    unfold clsIn at hcD
    split at hcD
    · rename_i c' d' cd' sl' ho
      have z := (X _ _ ho).symm.trans htp
      cases z
    · cases hcD
  ca := fun X I k => getCls C X I k
end XV

namespace XV
open PySem PySem.Spec PyProof.Rows L2
/-- x is an error of the class at C, whatever else is known of it -/
def IsE (H : Hp) (x : V) (C : Addr) : Prop := ∃ a, x = .ref a ∧ (H a = some (exo a C none) ∨ ∃ d fs, H a = some (exo a C (some d)) ∧ H d = some (exd d fs))
theorem Err.isE {H : Hp} {x : V} {C : Addr} {fs : List (Str × V)} (h : Err H x C fs) : IsE H x C := by
  obtain ⟨a, d, e, e1, e2⟩ := h
  exact ⟨a, e, .inr ⟨d, fs, e1, e2⟩⟩
def rIsX (K : PySem.W.Frag) : List V → Hp → VK → Prop := fun xs H Q => ∃ (x c : V) (D : Addr) (cv : Value) (b : Bool), xs = [x, c] ∧ IsE H x D ∧ ExcC K D ∧ (∀ u, RelV c u → u = cv) ∧ PySem.W.kitOne K (.ref D) cv = some b ∧ Q (.bl b) H
theorem call_isX {X : Cx} : CallR X (.builtin "isinstance") (rIsX X.K) := by
  intro pins s σ H xs us Q I r h
  obtain ⟨x, c, D, cv, b, rfl, ⟨a, ex, hx⟩, C, hcv, e, q⟩ := h
  subst ex
  cases r with
  | cons rx rr =>
    cases rr with
    | cons rt rr =>
      cases rr
      cases rx
      have ec := hcv _ rt
      subst ec
      rcases hx with hx | ⟨d, fs, hx, hd⟩
      · obtain ⟨t1, ho⟩ := exo_at I.hok hx
        have J : PySem.W.InstAt s.heap a _ D none := ⟨ho, rfl, rfl, trivial⟩
        exact PySem.W.kia_one (kitErr C) I.kIn J e (fun z => nomatch z) fun tk => ⟨.bl b, H, I.kept (t' := tk) fun _ _ z => z, rfl, q⟩
      · obtain ⟨t1, ho⟩ := exo_at I.hok hx
        obtain ⟨mA, hns, _⟩ := exd_at I.hok hd
        obtain ⟨od, hod, _⟩ := lookIn_ns hns
        have J : PySem.W.InstAt s.heap a _ D (some od) := ⟨ho, rfl, rfl, hod⟩
        exact PySem.W.kia_one (kitErr C) I.kIn J e (fun z => nomatch z) fun tk => ⟨.bl b, H, I.kept (t' := tk) fun _ _ z => z, rfl, q⟩
end XV
set_option Elab.async false
set_option linter.all false
set_option maxRecDepth 100000
set_option maxHeartbeats 4000000
namespace XV
open PySem PySem.Spec PyProof.Rows L2

/-! ### an error class without an __init__ of its own: C() -/
theorem pe_mkE {X : Cx} {nm : Str} {C : Addr} {bmB : List Value} {B newId initId : String} {p pos : Pos} (F : ExcBaseFacts B newId initId bmB) (q : PySem.W.excIn X.K C bmB newId = true) (gC : X.mg nm = some (.ref C))
    (kC : PySem.W.keepIn X.K (.ref C) = true) (hg : Gl X nm) (hdb : (nm == ("__debug__" : Str)) = false := by decide) :
    PE X (.Call (.Name nm p) [] [] pos) (fun σ H Q => ∀ a, H a = none → Q (.ref a) (upd H a (exo a C none))) := by
  refine ⟨fun pins s σ H Q I h => ?_⟩
  refine wpAny_Call_Name_kw (ld_glob I hg gC ?_ hdb)
  refine PySem.W.callWith_K0 I.kIn kC ?_
  obtain ⟨bm, N, n0, qn, bs, hdct, sn, sub, ab, col, dd, k0, k1, k2, k3, k5, mN, hC, hN, hni, T⟩ := exc_obj I.kIn q
  obtain ⟨hp, g, d, t, os⟩ := s
  refine wpAny_call_exc_subT F T hC hN hni (fun h' e hm => ?_) (by show 0 ≤ sizeLine; exact Nat.zero_le _)
  obtain ⟨t1, he, _, _⟩ := hm.there
  have hn : H e = none := I.hok.gone hm.new
  exact ⟨.ref e, _, I.laidN (t' := t) (a := e) (o := exo e C none) hm.keeps hm.new hn (exo_ok he), rfl, h e hn⟩

/-! ### facts by Bools -/
def clsB (K : PySem.W.Frag) (C : Addr) : Bool := match K.lookup C with
  | some ⟨.type "type", _, .cls cd, sl⟩ => (match cd.mro, sl.toList with
    | .ref C' :: bm, [_, _, _, _, some (.builtin n), _] => (C' == C && n == "ValueError.__new__") && (cd.hasDict && (!cd.hasDel && PySem.HandSPX.refsVE bm))
    | _, _ => false)
  | _ => false
theorem clsB_ok {K : PySem.W.Frag} {C : Addr} (h : clsB K C = true) :
    ∃ nm q N bs bm sn sub ab col dd k0 k1 k2 k3 k5, K.lookup C = some (excClassObj nm q C N bs bm true sn sub ab col dd k0 k1 k2 k3 k5 "ValueError.__new__") ∧ PySem.HandSPX.refsVE bm = true := by
  unfold clsB at h
  split at h
  · rename_i dd cd sl ho
    split at h
    · rename_i C' bm k0 k1 k2 k3 n k5 hm hs
      obtain ⟨h1, h2⟩ := He.ba h
      obtain ⟨h3, h4⟩ := He.ba h1
      obtain ⟨h5, h6⟩ := He.ba h2
      obtain ⟨h7, h8⟩ := He.ba h6
      obtain ⟨n1, bs, mro, ns, qn, hd, sn, sub, ab, col, del⟩ := cd
      dsimp only at hm h5 h7
      have e1 : C' = C := eq_of_beq h3
      have e2 : n = "ValueError.__new__" := eq_of_beq h4
      have e3 : del = false := by
        cases del with
        | false => rfl
        | true => cases h7
      subst e1 e2 e3 hm h5
      have e4 : sl = #[k0, k1, k2, k3, some (.builtin "ValueError.__new__"), k5] := by
        obtain ⟨l⟩ := sl
        simp only at hs
        rw [hs]
      subst e4
      exact ⟨n1, qn, ns, bs, bm, sn, sub, ab, col, dd, k0, k1, k2, k3, k5, ho, h8⟩
    · cases h
  · cases h
def oexB (K : PySem.W.Frag) (C : Addr) : Bool := clsB K C && (He.eqO (PySem.W.findIn K (.ref C) "__setattr__") (some (some (.builtin "object.__setattr__"))) &&
  (decide (PySem.W.subIn K (.ref C) (.type "BaseException") = some true) && (decide (PySem.W.typeIn K (.ref C) = some (.type "type")) && PySem.W.keepIn K (.ref C))))
theorem oexB_ok {K : PySem.W.Frag} {C : Addr} (h : oexB K C = true) : OexC K C := by
  obtain ⟨h1, h⟩ := He.ba h
  obtain ⟨h2, h⟩ := He.ba h
  obtain ⟨h3, h⟩ := He.ba h
  obtain ⟨h4, h5⟩ := He.ba h
  exact ⟨clsB_ok h1, He.eqO_ok h2, of_decide_eq_true h3, of_decide_eq_true h4, h5⟩
def excB (K : PySem.W.Frag) (D : Addr) : Bool := xfB K D && (He.eqO (PySem.W.findIn K (.ref D) "__class__") (some (some (.builtin "object.__class__"))) &&
  (He.eqO (PySem.W.specialIn K (.builtin "object.__class__") "__get__") (some (some (.builtin "getset_descriptor.__get__"))) &&
  (decide (PySem.W.takesIn K (.builtin "object.__class__") = some true) && decide (PySem.W.mroIn K D (.type "object") = some true))))
theorem excB_ok {K : PySem.W.Frag} {D : Addr} (h : excB K D = true) : ExcC K D := by
  obtain ⟨h1, h⟩ := He.ba h
  obtain ⟨h2, h⟩ := He.ba h
  obtain ⟨h3, h⟩ := He.ba h
  obtain ⟨h4, h5⟩ := He.ba h
  have x := xfB_ok h1
  exact ⟨x.ga, x.gg, x.exC, x.hdC, He.eqO_ok h2, He.eqO_ok h3, of_decide_eq_true h4, of_decide_eq_true h5⟩
/-- an error class nm whose own __init__ sets the field fld -/
def xclsB (K : PySem.W.Frag) (nm fld : Str) : Bool := He.eqO (PySem.W.nsIn K mainGlobals nm) (some (some (.ref (He.ga K nm)))) && (oexB K (He.ga K nm) &&
  (He.eqO (PySem.W.findIn K (.ref (He.ga K nm)) "__init__") (some (some (.ref (He.fAd K (nm, some "__init__"))))) &&
  (decide (PySem.W.typeIn K (.ref (He.fAd K (nm, some "__init__"))) = some (.type "function")) && (He.eqO (PySem.W.findIn K (.ref (He.ga K nm)) fld) (some none) && excB K (He.ga K nm)))))
/-- one without -/
def ecls0B (K : PySem.W.Frag) (nm : Str) : Bool := He.eqO (PySem.W.nsIn K mainGlobals nm) (some (some (.ref (He.ga K nm)))) && (PySem.W.excIn K (He.ga K nm) He.veBase "ValueError.__new__" && (PySem.W.keepIn K (.ref (He.ga K nm)) && excB K (He.ga K nm)))

/-! ### __init__(self, fld=None): self.fld = fld -/
def initA (fld : Str) (p1 p2 p3 : Pos) : Arguments :=
  { posonlyargs := [], args := [{ arg := "self", annotation := none, pos := p1 }, { arg := fld, annotation := none, pos := p2 }], vararg := none, kwonlyargs := [], kw_defaults := [], kwarg := none, defaults := [.Constant .none 0 p3] }
def initB (fld : Str) (q1 q2 q3 q4 : Pos) : List Stmt := [.Assign [.Attribute (.Name "self" q1) fld q2] (.Name fld q3) q4]
def initS (fld : Str) : Scope := { kind := .function, names := [(PySem.Str.ofString "self", .local), (fld, .local)], isGenerator := false, isCoroutine := false, more := [] }

section
variable {P : Program} {w : World} {K : PySem.W.Frag} {mg : Str → Option Value} {base h : Heap} {nm qual fld : Str} {p1 p2 p3 q1 q2 q3 q4 : Pos} {C fI : Addr} {fd : FuncData}
theorem ok_initV (F : FunD K "__init__" qual (initA "value" p1 p2 p3) (initB "value" q1 q2 q3 q4) (initS "value") [.non] [] fI fd) (O : OexC K C) (no : PySem.W.findIn K (.ref C) "value" = some none) :
    FnOk P w K mg base CX0 1 fI fd ["self", "value"] (spI C "value") := by
  refine F.ok (N := ["self", "value"]) ⟨rfl, rfl, rfl, by decide +kernel, rfl, by decide +kernel, by decide +kernel⟩ (fun vs H Q E h => ?_) (fun cdv A outer s H vs Q E hr h => ?_)
  · obtain ⟨a, v, rfl, _⟩ := h
    rfl
  · obtain ⟨a, v, rfl, ha, q⟩ := h
    exact ⟨_, pss_one (ps_ost (pv 0) (pv 1)), ⟨_, rfl, _, rfl, a, C, rfl, O, no, .inl ⟨ha, fun d n ne => q d n ne⟩⟩⟩
theorem ok_initP (F : FunD K "__init__" qual (initA "place" p1 p2 p3) (initB "place" q1 q2 q3 q4) (initS "place") [.non] [] fI fd) (O : OexC K C) (no : PySem.W.findIn K (.ref C) "place" = some none) :
    FnOk P w K mg base CX0 1 fI fd ["self", "place"] (spI C "place") := by
  refine F.ok (N := ["self", "place"]) ⟨rfl, rfl, rfl, by decide +kernel, rfl, by decide +kernel, by decide +kernel⟩ (fun vs H Q E h => ?_) (fun cdv A outer s H vs Q E hr h => ?_)
  · obtain ⟨a, v, rfl, _⟩ := h
    rfl
  · obtain ⟨a, v, rfl, ha, q⟩ := h
    exact ⟨_, pss_one (ps_ost (pv 0) (pv 1)), ⟨_, rfl, _, rfl, a, C, rfl, O, no, .inl ⟨ha, fun d n ne => q d n ne⟩⟩⟩
theorem bind_ini {args : Args} {binds : List Value → List (Str × Value)} (F : FunD K "__init__" qual (initA fld p1 p2 p3) (initB fld q1 q2 q3 q4) (initS fld) [.non] [] fI fd)
    (hb : ∀ (T : Addr) (kV doc pm : Value) (an : Option Addr) (cdv ct : Value), ∃ k, bindArgs (PySem.W.fnOf "__init__" qual (initA fld p1 p2 p3) (initB fld q1 q2 q3 q4) (initS fld) (.ref T) kV doc pm an cdv ct) args = seqItems? (.ref T) >>= k ∧ k (some #[Value.none]) = pure (binds [.none]))
    (s : Shared) (X : K.In s.heap) : BindsTo s fd args (binds [.none]) := by
  obtain ⟨oc, od, dV, kV, doc, pm, an, cdv, ct, osl, rfl, lk, hcd, hD, hK⟩ := F.ex
  rcases hD with ⟨e, _⟩ | ⟨_, T, o, its, m, rfl, lT, oT, rT⟩
  · cases e
  · cases rT with
    | cons r0 r1 =>
      cases r1
      cases r0
      obtain ⟨k, e1, e2⟩ := hb T kV doc pm an cdv ct
      refine BindsTo.of_looks fun M => ?_
      rw [e1]
      exact looks_items X lT oT (.of_pure e2)
theorem xcls_V (X : K.In h) (G : h.Ns mainGlobals mg) (c : xclsB K nm "value" = true) (F : FunD K "__init__" qual (initA "value" p1 p2 p3) (initB "value" q1 q2 q3 q4) (initS "value") [.non] [] (He.fAd K (nm, some "__init__")) fd) :
    XCls P w K mg base nm "value" (He.ga K nm) (He.fAd K (nm, some "__init__")) fd := by
  obtain ⟨c1, c⟩ := He.ba c
  obtain ⟨c2, c⟩ := He.ba c
  obtain ⟨c3, c⟩ := He.ba c
  obtain ⟨c4, c⟩ := He.ba c
  obtain ⟨c5, c6⟩ := He.ba c
  have O := oexB_ok c2
  have no := He.eqO_ok c5
  exact ⟨PySem.W.mg_of X G (He.eqO_ok c1), O, He.eqO_ok c3, of_decide_eq_true c4, no, ok_initV F O no,
    fun s x u Y => bind_ini (binds := fun _ => [("self", x), ("value", u)]) F (fun _ _ _ _ _ _ _ => ⟨_, rfl, rfl⟩) s Y,
    fun s x Y => bind_ini (binds := fun _ => [("self", x), ("value", .none)]) F (fun _ _ _ _ _ _ _ => ⟨_, rfl, rfl⟩) s Y,
    fun s x u Y => bind_ini (binds := fun _ => [("self", x), ("value", u)]) F (fun _ _ _ _ _ _ _ => ⟨_, rfl, rfl⟩) s Y⟩
theorem xcls_P (X : K.In h) (G : h.Ns mainGlobals mg) (c : xclsB K nm "place" = true) (F : FunD K "__init__" qual (initA "place" p1 p2 p3) (initB "place" q1 q2 q3 q4) (initS "place") [.non] [] (He.fAd K (nm, some "__init__")) fd) :
    XCls P w K mg base nm "place" (He.ga K nm) (He.fAd K (nm, some "__init__")) fd := by
  obtain ⟨c1, c⟩ := He.ba c
  obtain ⟨c2, c⟩ := He.ba c
  obtain ⟨c3, c⟩ := He.ba c
  obtain ⟨c4, c⟩ := He.ba c
  obtain ⟨c5, c6⟩ := He.ba c
  have O := oexB_ok c2
  have no := He.eqO_ok c5
  exact ⟨PySem.W.mg_of X G (He.eqO_ok c1), O, He.eqO_ok c3, of_decide_eq_true c4, no, ok_initP F O no,
    fun s x u Y => bind_ini (binds := fun _ => [("self", x), ("place", u)]) F (fun _ _ _ _ _ _ _ => ⟨_, rfl, rfl⟩) s Y,
    fun s x Y => bind_ini (binds := fun _ => [("self", x), ("place", .none)]) F (fun _ _ _ _ _ _ _ => ⟨_, rfl, rfl⟩) s Y,
    fun s x u Y => bind_ini (binds := fun _ => [("self", x), ("place", u)]) F (fun _ _ _ _ _ _ _ => ⟨_, rfl, rfl⟩) s Y⟩
theorem xcls_E (c : xclsB K nm fld = true) : ExcC K (He.ga K nm) ∧ XF K (He.ga K nm) fld := by
  obtain ⟨c1, c⟩ := He.ba c
  obtain ⟨c2, c⟩ := He.ba c
  obtain ⟨c3, c⟩ := He.ba c
  obtain ⟨c4, c⟩ := He.ba c
  obtain ⟨c5, c6⟩ := He.ba c
  exact ⟨excB_ok c6, ⟨xfB_ok (He.ba c6).1, He.eqO_ok c5⟩⟩
end
/-! ### a Hook with one Bool more -/
def hookB (n : Nat) (fa : List He.Fa) (fn : List He.DefD) (bx : PySem.W.Frag → Bool) : PySem.W.Hook where
  α := He.AlD × Bool
  obs := fun s => (He.obsDG n fa fn s.heap.get?, bx (He.frG s.heap.get? (He.asD s.heap.get? n)))
  val := fun _ => (He.valD fn, true)
  says := fun _ h => ∃ K : PySem.W.Frag, K.In h ∧ He.SaysD fa fn K ∧ bx K = true
  of := fun _ _ e => ⟨_, He.frG_in, congrArg Prod.fst e, congrArg Prod.snd e⟩
  keeps := fun _ _ _ ⟨K, hK, c⟩ k => ⟨K, PySem.W.Frag.In.keeps hK k, c⟩
def obsB (n : Nat) (fa : List He.Fa) (fn : List He.DefD) (bx : PySem.W.Frag → Bool) (g : Addr → Option Obj) : He.AlD × Bool := (He.obsDG n fa fn g, bx (He.frG g (He.asD g n)))
theorem obsB_eq {n : Nat} {fa : List He.Fa} {fn : List He.DefD} {bx : PySem.W.Frag → Bool} {g : Addr → Option Obj} {s : Shared} (h : ∀ a, g a = s.heap.get? a) : obsB n fa fn bx g = (hookB n fa fn bx).obs s := by
  have e : g = s.heap.get? := funext h
  rw [e] <;> rfl
end XV
set_option Elab.async false
set_option linter.all false
set_option maxRecDepth 100000
set_option maxHeartbeats 4000000
/-! Words of our own for calls of the text's defs, and the drawing of numbers. -/
namespace XV
open PySem PySem.Spec PyProof.Rows L2

/-- the module's name x is a def that keeps sp -/
structure Ok (P : Program) (w : World) (K : PySem.W.Frag) (mg : Str → Option Value) (base : Heap) (x : Str) (k : Nat) (ps : List Str) (sp : Sp) : Prop where
  ex : ∃ f fd, FnOk P w K mg base CX0 k f fd ps sp ∧ mg x = some (.ref f) ∧ PySem.W.keepIn K (.ref f) = true ∧ Binds K fd ps []
section
variable {X : Cx} {k : Nat} {ps : List Str} {sp : Sp} {x : Str} {e : Expr} {es : List Expr} {t : TA} {p pos : Pos}
theorem pe_callO (o : Ok X.prog X.w X.K X.mg X.base x k ps sp) (hr : Room k X.A) (hg : Gl X x) (ha : PA X (e :: es) t) (hdb : (x == ("__debug__" : Str)) = false := by decide)
    (he : starEach (e :: es) X.env = (false, eval e X.env) :: starEach es X.env := by rfl) (hpl : (backTo pos (starEach es X.env)).any (·.1) = false := by rfl) :
    PE X (.Call (.Name x p) (e :: es) [] pos) (tCall sp [] E0 t) := by
  obtain ⟨f, fd, F, hm, hk, b⟩ := o.ex
  exact pe_call F hr hg hm hk b .nil pass0 ha hdb he hpl
theorem pe_callO0 (o : Ok X.prog X.w X.K X.mg X.base x k ps sp) (hr : Room k X.A) (hg : Gl X x) (hdb : (x == ("__debug__" : Str)) = false := by decide) :
    PE X (.Call (.Name x p) [] [] pos) (tCall sp [] E0 tNil) := by
  obtain ⟨f, fd, F, hm, hk, b⟩ := o.ex
  exact pe_call0 F hr hg hm hk b .nil pass0 hdb
end
theorem Ok.mk' {P : Program} {w : World} {K : PySem.W.Frag} {mg : Str → Option Value} {base : Heap} {x : Str} {k : Nat} {ps : List Str} {sp : Sp} {body : List Stmt} {params : Arguments} {scope : Scope} {f : Addr} {fd : FuncData}
    (F : FunD K x x params body scope [] [] f fd) (g : mg x = some (.ref f)) (b : ∀ (kV doc pm : Value) (an : Option Addr) (cdv ct : Value) (us : List Value), us.length = ps.length → bindArgs (PySem.W.fnOf x x params body scope .none kV doc pm an cdv ct) ⟨us, []⟩ = pure (ps.zip us))
    (ok : FnOk P w K mg base CX0 k f fd ps sp) : Ok P w K mg base x k ps sp := ⟨f, fd, ok, g, F.kp, F.bindsN b⟩

/-- i ** j, the answer of at most 2 ^ 27 bits -/
def CPowW (i j : Int) : Prop := 0 ≤ j ∧ (Builtin.Int.intBits i : Int) * j ≤ 2 ^ 27
theorem op_powW {X : Cx} : OpR X (binaryOp .Pow) (rI CPowW fun i j => .int (i ^ j.toNat)) := opI fun _ _ _ _ _ _ _ hc q => pow_int hc.1 hc.2 q

/-! ### the list of three numbers from which is drawn -/
/-- at g: a list [a, b, c], a below 10 ** 600, b below 2 ** 31, c at most n -/
def Dr (H : Hp) (g : Addr) (n : Nat) : Prop := ∃ a b c : Int, H g = some (.lst [.int a, .int b, .int c]) ∧ 0 ≤ a ∧ a < 10 ^ 600 ∧ 0 ≤ b ∧ b < 2147483647 ∧ 0 ≤ c ∧ c ≤ n
theorem Dr.mono {H : Hp} {g : Addr} {n m : Nat} (h : Dr H g n) (l : n ≤ m) : Dr H g m := by
  obtain ⟨a, b, c, e, h1, h2, h3, h4, h5, h6⟩ := h
  exact ⟨a, b, c, e, h1, h2, h3, h4, h5, by omega⟩
/-- all but g as it was -/
def But (H H' : Hp) (g : Addr) : Prop := ∀ b o, b ≠ g → H b = some o → H' b = some o
theorem But.refl (H : Hp) (g : Addr) : But H H g := fun _ _ _ e => e
theorem But.trans {H H1 H2 : Hp} {g : Addr} (a : But H H1 g) (b : But H1 H2 g) : But H H2 g := fun c o n e => b c o n (a c o n e)
theorem But.upd {H : Hp} {g : Addr} {o : HO} : But H (upd H g o) g := fun b u n e => by
  rw [upd_ne n]
  exact e
theorem Same.but {H H' : Hp} {g : Addr} (a : Same H H') : But H H' g := fun b o _ e => a b o e
theorem same_new {H : Hp} {p : Addr} {o : HO} (h : H p = none) : Same H (L2.upd H p o) := fun b x e => by
  rw [upd_ne (ne_of_none e h)]
  exact e
def spHash : Sp := fun vs H Q _ => ∃ s i : Int, vs = [.int s, .int i] ∧ 0 ≤ s ∧ s < 2147483647 ∧ 0 ≤ i ∧ i < 2 ^ 60 ∧ ∀ r : Int, 0 ≤ r → r < 2147483647 → Q (.int r) H
def spRand : Sp := fun vs H Q _ => ∃ (g : Addr) (n : Nat) (m : Int), vs = [.ref g, .int m] ∧ Dr H g n ∧ n ≤ 1000000 ∧ 0 < m ∧ m < 10 ^ 100 ∧
  ∀ (H' : Hp) (r : Int), 0 ≤ r → r < m → But H H' g → Dr H' g (n + 20) → Q (.int r) H'
end XV
set_option Elab.async false
set_option linter.all false
set_option maxRecDepth 100000
set_option maxHeartbeats 4000000
namespace XV
open PySem PySem.Spec PyProof.Rows L2
/-- any(t), t a tuple of flat data -/
def rAnyT (K : PySem.W.Frag) : List V → Hp → VK → Prop := fun vs H Q => ∃ (a : Addr) (xs : List V) (ds : List PyData), vs = [V.ref a] ∧ SqT K H a xs ∧ DpAll K H xs ds ∧ PyData.plainAll ds = true ∧ (∀ d ∈ ds, d.fits63) ∧ Q (.bl (ds.any PyData.truthy)) H
theorem call_anyT {X : Cx} (hc : X.calm = true) : CallR X (.builtin "any") (rAnyT X.K) := by
  intro pins s σ H vs us Q I r h
  obtain ⟨a, xs, ds, rfl, hs, hd, hp, hf, q⟩ := h
  obtain ⟨its, rv, ht, _⟩ := I.tuple hs
  rw [Vals.ref1 r]
  obtain ⟨as, hr⟩ := Dp.readsAll I ds xs its hd rv
  refine PySem.W.any_tuple_data (as := as) (I.ok.hd hc) (vs := its.toArray) (l := a) ?_ (xs := ds) (by simpa using hr) hp hf fun h' tk k => ?_
  · exact ht
  · exact ⟨.bl _, H, I.kept (t' := tk) k, rfl, q⟩
/-- a text times a number -/
theorem op_mulS {X : Cx} : OpR X (binaryOp .Mult) (fun x y H Q => ∃ (z : Str) (i : Int), x = .str z ∧ y = .int i ∧ MulOk z i ∧ Q (.str (Txt.mul z i)) H) := by
  intro pins s σ H x y v u Q I rx ry h
  obtain ⟨z, i, rfl, rfl, hok, q⟩ := h
  obtain ⟨t, rfl⟩ := rx
  obtain ⟨t2, rfl⟩ := ry
  exact SB.mul hok fun t' k => ⟨.str _, H, I.tok k, ⟨t', rfl⟩, q⟩
theorem ip_addS {X : Cx} : PIp X .Add (fun x y H Q => ∃ i j : Str, x = .str i ∧ y = .str j ∧ i.length + j.length ≤ sizeLine ∧ Q (.str (i ++ j)) H) := by
  intro pins s σ H x y v u Q I rx ry h
  exact iop_add_str pins s σ H x y v u Q I rx ry h
end XV
set_option Elab.async false
set_option linter.all false
set_option maxRecDepth 100000
set_option maxHeartbeats 4000000
namespace K8
open PySem PySem.Spec PyProof.Rows L2 XV
def top (i : Nat) : Stmt := PySem.Challenge.pw_openloops_k08_errors_by_their_classes.main.body.getD i (.Pass ⟨0, 0, 0, 0⟩)
abbrev sHash : Stmt := top 62
abbrev sGen : Stmt := top 63
abbrev sRand : Stmt := top 64
abbrev FnP (K : PySem.W.Frag) (x : Str) (st : Stmt) (f : Addr) (fd : FuncData) : Prop := FunD K x x (defArgs st) (defBody st) (defScope st) [] [] f fd
theorem scHash : FnScope ["_law_seed", "_law_index", "_law_mixed"] ["_law_seed", "_law_index"] (defScope sHash) := ⟨rfl, rfl, rfl, by decide +kernel, rfl, by decide +kernel, by decide +kernel⟩
theorem scGen : FnScope ["_law_script", "_law_index", "_law_seed"] ["_law_script", "_law_index"] (defScope sGen) := ⟨rfl, rfl, rfl, by decide +kernel, rfl, by decide +kernel, by decide +kernel⟩
theorem scRand : FnScope ["_law_generator_here", "_law_bound", "_law_drawn", "_law_turn"] ["_law_generator_here", "_law_bound"] (defScope sRand) := ⟨rfl, rfl, rfl, by decide +kernel, rfl, by decide +kernel, by decide +kernel⟩
theorem mod_in (x : Int) {m : Int} (h : 0 < m) : 0 ≤ x % m ∧ x % m < m := ⟨Int.emod_nonneg x (by omega), Int.emod_lt_of_pos x h⟩
section
variable {P : Program} {w : World} {K : PySem.W.Frag} {mg : Str → Option Value} {base : Heap} {f : Addr} {fd : FuncData}
theorem ok_hash (F : FnP K "_law_hash" sHash f fd) (z_int : mg "int" = none) : FnOk P w K mg base CX0 1 f fd ["_law_seed", "_law_index"] spHash := by
  have nd := scHash.nd
  refine F.ok scHash (fun vs H Q E h => ?_) (fun cdv A outer s H vs Q E hr h => ?_)
  · obtain ⟨s, i, rfl, _⟩ := h
    rfl
  · obtain ⟨s, i, rfl, s0, s1, i0, i1, q⟩ := h
    refine ⟨_, PSs.nox (pss_cons (ps_set (i := 2) nd rfl (Or.inl rfl) (pe_op op_mod (pe_callTy call_int1 (by rfl) z_int (by decide +kernel) (pa_cons (pe_op op_add (pe_op op_add (pe_op op_add (pe_op op_mul (pv 0) pe_int) (pe_op op_mul (pe_op op_mul pe_int (pv 1)) (pv 1))) (pe_op op_mul pe_int (pv 1))) pe_int) pa_nil)) pe_int))
 (pss_cons (ps_set (i := 2) nd rfl (Or.inl rfl) (pe_op op_mod (pe_callTy call_int1 (by rfl) z_int (by decide +kernel) (pa_cons (pe_op op_add (pe_op op_add (pe_op op_mul (pv 2) (pv 2)) (pe_op op_mul pe_int (pv 1))) pe_int) pa_nil)) pe_int))
 (pss_one (ps_ret (pe_op op_mod (pe_callTy call_int1 (by rfl) z_int (by decide +kernel) (pa_cons (pe_op op_mul (pv 2) pe_int) pa_nil)) pe_int))))), ?_⟩
    have c1 : CMul s 1299709 := .inl ⟨by omega, by omega⟩
    have c2 : CMul 104729 i := .inl ⟨by decide, by decide⟩
    have c3 : CMul (104729 * i) i := .inr ⟨by omega, by omega⟩
    have c4 : CMul 31 i := .inl ⟨by decide, by decide⟩
    refine ⟨_, rfl, _, _, rfl, rfl, c1, _, rfl, _, _, rfl, rfl, c2, _, rfl, _, _, rfl, rfl, c3, _, _, rfl, rfl, _, rfl, _, _, rfl, rfl, c4, _, _, rfl, rfl, _, _, rfl, rfl, .inl ⟨_, rfl, _, _, rfl, rfl, (by show (0 : Int) < 2147483629; decide), ?_⟩⟩
    obtain ⟨m0, m1⟩ := mod_in (s * 1299709 + 104729 * i * i + 31 * i + 7) (m := 2147483629) (by decide)
    have c5 : CMul ((s * 1299709 + 104729 * i * i + 31 * i + 7) % 2147483629) ((s * 1299709 + 104729 * i * i + 31 * i + 7) % 2147483629) := .inl ⟨by omega, by omega⟩
    refine ⟨_, rfl, _, rfl, _, _, rfl, rfl, c5, _, rfl, _, _, rfl, rfl, .inl ⟨by decide, by decide⟩, _, _, rfl, rfl, _, _, rfl, rfl, .inl ⟨_, rfl, _, _, rfl, rfl, (by show (0 : Int) < 2147483587; decide), ?_⟩⟩
    refine ⟨_, rfl, _, _, rfl, rfl, .inr ⟨by decide, by decide⟩, .inl ⟨_, rfl, _, _, rfl, rfl, (by show (0 : Int) < 2147483647; decide), ?_⟩⟩
    obtain ⟨n0, n1⟩ := mod_in ((((s * 1299709 + 104729 * i * i + 31 * i + 7) % 2147483629 * ((s * 1299709 + 104729 * i * i + 31 * i + 7) % 2147483629) + 48271 * i + 15485863) % 2147483587) * 69621) (m := 2147483647) (by decide)
    exact q _ n0 n1

theorem bits_small {m : Int} (h0 : 0 < m) (h1 : m < 10 ^ 100) : Builtin.Int.intBits m ≤ 340 := by
  refine intBits_le (k := 340) ?_
  have e : (10 : Int) ^ 100 < 2 ^ 340 := by decide
  have e2 : m < 2 ^ 340 := Int.lt_trans h1 e
  have e3 : ((m.natAbs : Nat) : Int) = m := Int.natAbs_of_nonneg (by omega)
  have e4 : ((m.natAbs : Nat) : Int) < ((2 ^ 340 : Nat) : Int) := by
    rw [e3]
    exact e2
  exact Int.ofNat_lt.mp e4
theorem ok_rand (F : FnP K "_law_random" sRand f fd) (oHash : Ok P w K mg base "_law_hash" 1 ["_law_seed", "_law_index"] spHash) (z_int : mg "int" = none) (z_range : mg "range" = none) :
    FnOk P w K mg base CX0 2 f fd ["_law_generator_here", "_law_bound"] spRand := by
  have nd := scRand.nd
  refine F.ok scRand (fun vs H Q E h => ?_) (fun cdv A outer s H vs Q E hr h => ?_)
  · obtain ⟨g, n, m, rfl, _⟩ := h
    rfl
  · obtain ⟨g, n, m, rfl, ⟨a, b, c, hg, a0, a1, b0, b1, c0, c1⟩, hn, m0, m1, q⟩ := h
    refine ⟨_, PSs.nox (pss_cons (ps_if (pt_cmpR op_gt (pe_ix ix_list (pv 0) pe_int (fun _ _ => rfl)) pe_int (nomark _))
        (pss_cons (ps_set (i := 2) nd rfl (Or.inl rfl) (pe_op op_mod (pe_callTy call_int1 (by rfl) z_int (by decide +kernel) (pa_cons (pe_ix ix_list (pv 0) pe_int (fun _ _ => rfl)) pa_nil)) (pv 1)))
          (pss_cons (ps_asg (pe_op op_fdivW (pe_ix ix_list (pv 0) pe_int (fun _ _ => rfl)) (pv 1)) (pg_sub (pv 0) pe_int set_list))
            (pss_one (ps_ret (pv 2))))) pss_nil)
      (pss_cons (ps_set (i := 2) nd rfl (Or.inl rfl) pe_int)
      (pss_cons (ps_for PassesOwn.never rfl (pi_range1 (by rfl) z_range (pa_cons (pe_op op_add pe_int (pe_op op_fdiv (pe_bits (pv 1)) pe_int)) pa_nil)) (pg_name (i := 3) nd rfl (Or.inl rfl))
        (pss_cons (ps_asg (pe_op op_add (pe_ix ix_list (pv 0) pe_int (fun _ _ => rfl)) pe_int) (pg_sub (pv 0) pe_int set_list))
          (pss_one (ps_set (i := 2) nd rfl (Or.inl rfl) (pe_op op_add (pe_op op_mul (pv 2) pe_int)
            (pe_callO oHash (hr.mono (by decide)) (by rfl) (pa_cons (pe_ix ix_list (pv 0) pe_int (fun _ _ => rfl)) (pa_cons (pe_ix ix_list (pv 0) pe_int (fun _ _ => rfl)) pa_nil))))))))
      (pss_one (ps_ret (pe_op op_mod (pe_callTy call_int1 (by rfl) z_int (by decide +kernel) (pa_cons (pv 2) pa_nil)) (pv 1))))))), ?_⟩
    refine ⟨.ref g, rfl, g, _, 0, _, rfl, rfl, SqL.of hg, rfl, _, _, rfl, rfl, _, rfl, ite2 (fun e => ?_) (fun e => ?_)⟩
    · have ap : 0 < a := of_decide_eq_true e
      refine ⟨.ref g, rfl, g, _, 0, _, rfl, rfl, SqL.of hg, rfl, .inl ⟨_, rfl, _, rfl, _, _, rfl, rfl, m0, ?_⟩⟩
      have e1 : (10 : Int) ^ 100 < 2 ^ 340 := by decide
      have mb : m.natAbs < 2 ^ 340 := by
        have e3 : ((m.natAbs : Nat) : Int) = m := Int.natAbs_of_nonneg (by omega)
        have e4 : ((m.natAbs : Nat) : Int) < ((2 ^ 340 : Nat) : Int) := by
          rw [e3]
          exact Int.lt_trans m1 e1
        exact Int.ofNat_lt.mp e4
      refine ⟨.ref g, rfl, g, _, 0, _, rfl, rfl, SqL.of hg, rfl, _, rfl, _, _, rfl, rfl, wide_div m0 mb (by decide) (by decide), .ref g, rfl, g, _, 0, 0, rfl, rfl, hg, rfl, _, rfl, ?_⟩
      obtain ⟨r0, r1⟩ := mod_in a m0
      refine q _ _ r0 r1 But.upd ⟨a / m, b, c, upd_same, Int.ediv_nonneg a0 (by omega), ?_, b0, b1, c0, by omega⟩
      exact Int.lt_of_le_of_lt (Int.ediv_le_self m a0) a1
    · have hb := bits_small m0 m1
      refine ⟨_, rfl, m, rfl, _, _, rfl, rfl, ⟨by decide, by decide⟩, _, _, rfl, rfl, _, rfl, by omega, by omega, ?_⟩
      refine for_range (lo := 0) (n := (1 + ((Builtin.Int.intBits m : Nat) : Int) / 30).toNat)
        (fun i σ H' => ∃ (d : Int) (y : Option V), σ = [some (.ref g), some (.int m), some (.int d), y] ∧ But H H' g ∧ H' g = some (.lst [.int a, .int b, .int (c + i)]))
        ⟨0, none, rfl, But.refl H g, by rw [hg]; simp⟩ ?_ ?_
      · rintro i σ H' hi ⟨d, y, rfl, bt, eg⟩
        refine ⟨.ref g, rfl, g, _, 2, _, rfl, rfl, SqL.of eg, rfl, _, _, rfl, rfl, .ref g, rfl, g, _, 2, 2, rfl, rfl, eg, rfl, ?_⟩
        have e2 : (upd H' g (.lst ([V.int a, .int b, .int (c + i)].set 2 (.int (c + i + 1))))) g = some (.lst [.int a, .int b, .int (c + i + 1)]) := upd_same
        refine ⟨_, rfl, _, _, rfl, rfl, .inr ⟨by decide, by decide⟩, .ref g, rfl, g, _, 1, _, rfl, rfl, SqL.of e2, rfl, .ref g, rfl, g, _, 2, _, rfl, rfl, SqL.of e2, rfl, ?_⟩
        refine ⟨b, c + i + 1, rfl, b0, b1, by omega, ?_, fun r r0 r1 => ?_⟩
        · have : i < 13 := by omega
          omega
        · refine ⟨_, _, rfl, rfl, _, _, rfl, bt.trans But.upd, ?_⟩
          have ec : c + ((i : Nat) : Int) + 1 = c + ((i + 1 : Nat) : Int) := by omega
          rw [e2, ec]
      · rintro σ H' ⟨d, y, rfl, bt, eg⟩
        refine ⟨_, rfl, .inl ⟨_, rfl, _, rfl, _, _, rfl, rfl, m0, ?_⟩⟩
        obtain ⟨r0, r1⟩ := mod_in d m0
        refine q _ _ r0 r1 bt ⟨a, b, _, eg, a0, a1, b0, b1, by omega, ?_⟩
        have : (1 + ((Builtin.Int.intBits m : Nat) : Int) / 30).toNat ≤ 13 := by omega
        omega

theorem cut_first (ns : List Int) : cutV (ns.map V.int) none (some 1) = (ns.take 1).map V.int := by
  unfold cutV
  rw [HT.sIx_none, show HT.sIx (ns.map V.int).length (ns.map V.int).length (some 1) = min 1 (ns.map V.int).length from HT.sIx_nat _ _ 1]
  cases ns with
  | nil => rfl
  | cons x r =>
    rw [List.map_cons, List.length_cons, show min 1 ((r.map V.int).length + 1) = 1 by omega]
    rfl
def spGen (K : PySem.W.Frag) : Sp := fun vs H Q _ => ∃ (a : Addr) (ns : List Int) (k : Nat), vs = [.ref a, .int k] ∧ SqL K H a (ns.map V.int) ∧ k < 100 ∧
  ∀ (H' : Hp) (g : Addr), Same H H' → H g = none → Dr H' g (1000 * k) → Q (.ref g) H'
theorem ok_gen (F : FnP K "_law_generator" sGen f fd) (z_int : mg "int" = none) (z_len : mg "len" = none) (z_sum : mg "sum" = none) (z_max : mg "max" = none) :
    FnOk P w K mg base CX0 1 f fd ["_law_script", "_law_index"] (spGen K) := by
  have nd := scGen.nd
  refine F.ok scGen (fun vs H Q E h => ?_) (fun cdv A outer s H vs Q E hr h => ?_)
  · obtain ⟨a, ns, k, rfl, _⟩ := h
    rfl
  · obtain ⟨a, ns, k, rfl, hS, hk, q⟩ := h
    refine ⟨_, PSs.nox (pss_cons (ps_set (i := 2) nd rfl (Or.inl rfl) (pe_ifExp (pt_cmpR op_lt (pv 1) (pe_callB call_len (by rfl) z_len boot_len (pa_cons (pv 0) pa_nil)) (nomark _)) (pe_ix ix_list (pv 0) (pv 1) (fun _ _ => rfl)) (pe_op op_mod (pe_callB (cr_sum rfl) (by rfl) z_sum (by decide +kernel) (pa_cons (pe_slice sl_list (pv 0) po_none (po_some pe_int)) pa_nil)) pe_int)))
 (pss_one (ps_ret (pe_lst (pa_cons (pe_op op_mod (pe_callTy call_int1 (by rfl) z_int (by decide +kernel) (pa_cons (pe_callB (call_max2 rfl) (by rfl) z_max (by decide +kernel) (pa_cons (pe_op op_sub (pv 2) (pe_op op_pow pe_int pe_int)) (pa_cons pe_int pa_nil))) pa_nil)) (pe_op op_powW (pe_op op_pow pe_int pe_int) pe_int)) (pa_cons (pe_op op_mod (pe_callTy call_int1 (by rfl) z_int (by decide +kernel) (pa_cons (pv 2) pa_nil)) pe_int) (pa_cons (pe_op op_mul pe_int (pv 1)) pa_nil))))))), ?_⟩
    have last : ∀ (H' : Hp) (sd : Int), Same H H' → (∀ g, H' g = none → H g = none) → tRet (tLst (tCons (tOp (rI (fun _ j => 0 < j) fun i j => .int (i % j)) (tCB (fun xs H Q => (∃ i, xs = [.int i] ∧ Q (.int i) H) ∨ ∃ k, xs = [.bl k] ∧ Q (.int (if k then 1 else 0)) H) (tCons (tCB (fun xs H Q => ∃ i j, xs = [.int i, .int j] ∧ Q (.int (if j > i then j else i)) H) (tCons (tOp (rI0 fun i j => .int (i - j)) (tVar 2) (tOp (rI CPow fun i j => .int (i ^ j.toNat)) (tC (.int 10)) (tC (.int 18)))) (tCons (tC (.int 0)) tNil))) tNil)) (tOp (rI CPowW fun i j => .int (i ^ j.toNat)) (tOp (rI CPow fun i j => .int (i ^ j.toNat)) (tC (.int 10)) (tC (.int 60))) (tC (.int 10)))) (tCons (tOp (rI (fun _ j => 0 < j) fun i j => .int (i % j)) (tCB (fun xs H Q => (∃ i, xs = [.int i] ∧ Q (.int i) H) ∨ ∃ k, xs = [.bl k] ∧ Q (.int (if k then 1 else 0)) H) (tCons (tVar 2) tNil)) (tC (.int 2147483647))) (tCons (tOp (rI CMul fun i j => .int (i * j)) (tC (.int 1000)) (tVar 1)) tNil)))) { nx := fun _ H' => Q .non H', rt := Q } [some (.ref a), some (.int k), some (.int sd)] H' := by
      intro H' sd sm fr
      refine ⟨_, rfl, _, _, rfl, rfl, ⟨by decide, by decide, by decide⟩, _, _, rfl, rfl, _, _, rfl, .inl ⟨_, rfl, _, _, rfl, rfl, ⟨by decide, by decide, by decide⟩, _, _, rfl, rfl, ⟨by decide, by decide +kernel⟩, _, _, rfl, rfl, (by show (0 : Int) < ((10 : Int) ^ (60 : Int).toNat) ^ (10 : Int).toNat; decide +kernel), ?_⟩⟩
      refine ⟨_, rfl, .inl ⟨_, rfl, _, _, rfl, rfl, (by show (0 : Int) < 2147483647; decide), _, rfl, _, _, rfl, rfl, .inl ⟨by decide, by decide⟩, by show 3 ≤ sizeLine; decide, fun p np => ?_⟩⟩
      obtain ⟨m0, m1⟩ := mod_in sd (m := 2147483647) (by decide)
      have e600 : ((10 : Int) ^ (60 : Int).toNat) ^ (10 : Int).toNat = 10 ^ 600 := by decide +kernel
      have p600 : (0 : Int) < 10 ^ 600 := by decide +kernel
      refine q _ p (sm.trans (same_new np)) (fr p np) ⟨_, _, _, upd_same, ?_, ?_, m0, m1, by omega, by omega⟩
      · rw [e600]
        exact (mod_in _ p600).1
      · rw [e600]
        exact (mod_in _ p600).2
    refine ⟨_, rfl, .ref a, rfl, _, (ns.map V.int).length, rfl, Or.inl ⟨_, hS, rfl⟩, _, _, rfl, rfl, _, rfl, ite2 (fun e => ?_) (fun e => ?_)⟩
    · have lt : (k : Int) < ((ns.map V.int).length : Nat) := of_decide_eq_true e
      have lt2 : k < ns.length := by
        rw [List.length_map] at lt
        omega
      have g : (ns.map V.int)[k]? = some (.int ns[k]) := by
        rw [List.getElem?_map, List.getElem?_eq_getElem lt2]
        rfl
      exact ⟨.ref a, rfl, _, rfl, a, _, _, _, rfl, rfl, hS, atI_nat g, last H _ (Same.refl H) fun _ z => z⟩
    · refine ⟨.ref a, rfl, _, rfl, a, _, rfl, hS, fun p np => ?_⟩
      rw [cut_first]
      refine ⟨p, ns.take 1, rfl, SqL.of upd_same, _, _, rfl, rfl, (by show (0 : Int) < 1000003; decide), ?_⟩
      refine last _ _ (same_new np) fun g ng => ?_
      by_cases eg : g = p
      · rw [eg]
        exact np
      · rw [upd_ne eg] at ng
        exact ng
end
end K8
set_option Elab.async false
set_option linter.all false
set_option maxRecDepth 100000
set_option maxHeartbeats 4000000
namespace K8
open PySem PySem.Spec PyProof.Rows L2 XV
def nms : List Str := ["InvalidNumber", "InvalidWord", "InvalidForm", "InvalidPoint", "InvalidPieces", "InvalidList", "InvalidLines", "InvalidPlace", "InvalidAmount", "InvalidStep", "InvalidWay", "InvalidDeed", "InvalidFlag", "InvalidText", "InvalidGrid", "InvalidSet", "InvalidTable", "InvalidAutomaton", "InvalidMaker", "InvalidProgram", "InvalidWorkshop", "InvalidPiece", "Unlike", "TooLong", "TooMany", "UnknownPart", "OpenInOpen", "NothingToUndo", "NothingToRedo"]
def nm (i : Nat) : Str := nms.getD i "LoopError"
def fl (i : Nat) : Str := if i = 26 then "place" else "value"
abbrev CA (K : PySem.W.Frag) (i : Nat) : Addr := He.ga K (nm i)
/-- what the top says of the error classes -/
structure Cl (P : Program) (w : World) (K : PySem.W.Frag) (mg : Str → Option Value) (base : Heap) : Prop where
  x : ∀ i, i < 27 → ∃ fI fd, XCls P w K mg base (nm i) (fl i) (CA K i) fI fd
  g : ∀ i, i < 30 → mg (nm i) = some (.ref (CA K i))
  e : ∀ i, i < 30 → ExcC K (CA K i)
  f : ∀ i, i < 27 → XF K (CA K i) (fl i)
  kit : ∀ i, i < 29 → ∀ j, j < 29 → PySem.W.kitOne K (.ref (CA K i)) (.ref (CA K j)) = some (decide (i = j))
  kitL : ∀ i, i < 29 → PySem.W.kitOne K (.ref (CA K i)) (.ref (CA K 29)) = some true
  kitV : ∀ i, i < 30 → PySem.W.kitOne K (.ref (CA K i)) (.type "ValueError") = some true
  ex : ∀ i, 27 ≤ i → i < 30 → PySem.W.excIn K (CA K i) He.veBase "ValueError.__new__" = true ∧ PySem.W.keepIn K (.ref (CA K i)) = true
/-- an error made, and what is wanted of it -/
theorem rMk_of {C : Addr} {fld : Str} {v : V} {H : Hp} {Q : VK} (h : ∀ (H' : Hp) (x : V), Same H H' → Err H' x C [(fld, v)] → Q x H') : rMk C fld v H Q := ⟨fun a d na nd ne =>
  h _ _ (fun b o e => by rw [upd_ne (ne_of_none e na), upd_ne (ne_of_none e nd)]; exact e) ⟨a, d, rfl, upd_same, by rw [upd_ne ne, upd_same]⟩⟩
theorem exo_keep {H H' : Hp} (s : Same H H') {x : V} {C : Addr} {fs : List (Str × V)} (h : Err H x C fs) : Err H' x C fs := by
  obtain ⟨a, d, e, e1, e2⟩ := h
  exact ⟨a, d, e, s _ _ e1, s _ _ e2⟩
theorem isE_keep {H H' : Hp} (s : Same H H') {x : V} {C : Addr} (h : IsE H x C) : IsE H' x C := by
  obtain ⟨a, e, h⟩ := h
  rcases h with h | ⟨d, fs, h1, h2⟩
  · exact ⟨a, e, .inl (s _ _ h)⟩
  · exact ⟨a, e, .inr ⟨d, fs, s _ _ h1, s _ _ h2⟩⟩
theorem look1 (f : Str) (v : V) : List.lookup f [(f, v)] = some v := by simp [List.lookup]
abbrev sMade : Stmt := top 65
abbrev sFirst : Stmt := top 66
abbrev sSecond : Stmt := top 67
abbrev sThird : Stmt := top 68
abbrev sFourth : Stmt := top 69
abbrev sKinds : Stmt := top 70
abbrev sEmpty : Stmt := top 71
abbrev sNamed : Stmt := top 72
theorem int_eq {i c : Nat} (e : decide (V.int (i : Int) = V.int (c : Int)) = true) : i = c := by
  have := V.int.inj (of_decide_eq_true e)
  omega
/-- one of the four that make errors: the numbers from lo to ahead of hi -/
def spPart (K : PySem.W.Frag) (lo hi : Nat) : Sp := fun vs H Q _ => ∃ (i : Nat) (v : V), vs = [.int i, v] ∧ i < 27 ∧ (lo ≤ i → i < hi → rMk (CA K i) (fl i) v H Q) ∧ (¬ (lo ≤ i ∧ i < hi) → Q .non H)
section
variable {P : Program} {w : World} {K : PySem.W.Frag} {mg : Str → Option Value} {base : Heap} {f : Addr} {fd : FuncData}

theorem scFirst : FnScope ["_law_number", "_law_value_here"] ["_law_number", "_law_value_here"] (defScope sFirst) := ⟨rfl, rfl, rfl, by decide +kernel, rfl, by decide +kernel, by decide +kernel⟩
theorem ok_law_first (F : FnP K "_law_first" sFirst f fd) (Z : Cl P w K mg base) : FnOk P w K mg base CX0 3 f fd ["_law_number", "_law_value_here"] (spPart K 0 7) := by
  refine F.ok scFirst (fun vs H Q E h => ?_) (fun cdv A outer s H vs Q E hr h => ?_)
  · obtain ⟨i, v, rfl, _⟩ := h
    rfl
  · obtain ⟨i, v, rfl, hi, q1, q0⟩ := h
    obtain ⟨fI0, fd0, T0⟩ := Z.x 0 (by decide)
    have T0 : XCls P w K mg base "InvalidNumber" "value" (CA K 0) fI0 fd0 := T0
    obtain ⟨fI1, fd1, T1⟩ := Z.x 1 (by decide)
    have T1 : XCls P w K mg base "InvalidWord" "value" (CA K 1) fI1 fd1 := T1
    obtain ⟨fI2, fd2, T2⟩ := Z.x 2 (by decide)
    have T2 : XCls P w K mg base "InvalidForm" "value" (CA K 2) fI2 fd2 := T2
    obtain ⟨fI3, fd3, T3⟩ := Z.x 3 (by decide)
    have T3 : XCls P w K mg base "InvalidPoint" "value" (CA K 3) fI3 fd3 := T3
    obtain ⟨fI4, fd4, T4⟩ := Z.x 4 (by decide)
    have T4 : XCls P w K mg base "InvalidPieces" "value" (CA K 4) fI4 fd4 := T4
    obtain ⟨fI5, fd5, T5⟩ := Z.x 5 (by decide)
    have T5 : XCls P w K mg base "InvalidList" "value" (CA K 5) fI5 fd5 := T5
    obtain ⟨fI6, fd6, T6⟩ := Z.x 6 (by decide)
    have T6 : XCls P w K mg base "InvalidLines" "value" (CA K 6) fI6 fd6 := T6
    have hr : Room 2 _ := hr
    refine ⟨_, PSs.nox (pss_cons (ps_if (pt_cmpR op_eq (pv 0) pe_int (nomark _)) (pss_one (ps_ret (pe_mk1 T0 hr (by rfl) (pv 1)))) pss_nil)
 (pss_cons (ps_if (pt_cmpR op_eq (pv 0) pe_int (nomark _)) (pss_one (ps_ret (pe_mk1 T1 hr (by rfl) (pv 1)))) pss_nil)
 (pss_cons (ps_if (pt_cmpR op_eq (pv 0) pe_int (nomark _)) (pss_one (ps_ret (pe_mk1 T2 hr (by rfl) (pv 1)))) pss_nil)
 (pss_cons (ps_if (pt_cmpR op_eq (pv 0) pe_int (nomark _)) (pss_one (ps_ret (pe_mk1 T3 hr (by rfl) (pv 1)))) pss_nil)
 (pss_cons (ps_if (pt_cmpR op_eq (pv 0) pe_int (nomark _)) (pss_one (ps_ret (pe_mk1 T4 hr (by rfl) (pv 1)))) pss_nil)
 (pss_cons (ps_if (pt_cmpR op_eq (pv 0) pe_int (nomark _)) (pss_one (ps_ret (pe_mk1 T5 hr (by rfl) (pv 1)))) pss_nil)
 (pss_cons (ps_if (pt_cmpR op_eq (pv 0) pe_int (nomark _)) (pss_one (ps_ret (pe_mk1 T6 hr (by rfl) (pv 1)))) pss_nil)
 (pss_one (ps_ret pe_non))))))))), ?_⟩
    refine ⟨_, rfl, rfl, _, rfl, ite2 (fun e => ?_) (fun e0 => ?_)⟩
    · obtain rfl := int_eq (c := 0) e
      exact ⟨_, rfl, q1 (by decide) (by decide)⟩
    refine ⟨_, rfl, rfl, _, rfl, ite2 (fun e => ?_) (fun e1 => ?_)⟩
    · obtain rfl := int_eq (c := 1) e
      exact ⟨_, rfl, q1 (by decide) (by decide)⟩
    refine ⟨_, rfl, rfl, _, rfl, ite2 (fun e => ?_) (fun e2 => ?_)⟩
    · obtain rfl := int_eq (c := 2) e
      exact ⟨_, rfl, q1 (by decide) (by decide)⟩
    refine ⟨_, rfl, rfl, _, rfl, ite2 (fun e => ?_) (fun e3 => ?_)⟩
    · obtain rfl := int_eq (c := 3) e
      exact ⟨_, rfl, q1 (by decide) (by decide)⟩
    refine ⟨_, rfl, rfl, _, rfl, ite2 (fun e => ?_) (fun e4 => ?_)⟩
    · obtain rfl := int_eq (c := 4) e
      exact ⟨_, rfl, q1 (by decide) (by decide)⟩
    refine ⟨_, rfl, rfl, _, rfl, ite2 (fun e => ?_) (fun e5 => ?_)⟩
    · obtain rfl := int_eq (c := 5) e
      exact ⟨_, rfl, q1 (by decide) (by decide)⟩
    refine ⟨_, rfl, rfl, _, rfl, ite2 (fun e => ?_) (fun e6 => ?_)⟩
    · obtain rfl := int_eq (c := 6) e
      exact ⟨_, rfl, q1 (by decide) (by decide)⟩
    refine q0 fun ⟨l1, l2⟩ => ?_
    have n0 : i ≠ 0 := fun z => e0 (by rw [z]; rfl)
    have n1 : i ≠ 1 := fun z => e1 (by rw [z]; rfl)
    have n2 : i ≠ 2 := fun z => e2 (by rw [z]; rfl)
    have n3 : i ≠ 3 := fun z => e3 (by rw [z]; rfl)
    have n4 : i ≠ 4 := fun z => e4 (by rw [z]; rfl)
    have n5 : i ≠ 5 := fun z => e5 (by rw [z]; rfl)
    have n6 : i ≠ 6 := fun z => e6 (by rw [z]; rfl)
    omega
theorem scSecond : FnScope ["_law_number", "_law_value_here"] ["_law_number", "_law_value_here"] (defScope sSecond) := ⟨rfl, rfl, rfl, by decide +kernel, rfl, by decide +kernel, by decide +kernel⟩
theorem ok_law_second (F : FnP K "_law_second" sSecond f fd) (Z : Cl P w K mg base) : FnOk P w K mg base CX0 3 f fd ["_law_number", "_law_value_here"] (spPart K 7 14) := by
  refine F.ok scSecond (fun vs H Q E h => ?_) (fun cdv A outer s H vs Q E hr h => ?_)
  · obtain ⟨i, v, rfl, _⟩ := h
    rfl
  · obtain ⟨i, v, rfl, hi, q1, q0⟩ := h
    obtain ⟨fI7, fd7, T7⟩ := Z.x 7 (by decide)
    have T7 : XCls P w K mg base "InvalidPlace" "value" (CA K 7) fI7 fd7 := T7
    obtain ⟨fI8, fd8, T8⟩ := Z.x 8 (by decide)
    have T8 : XCls P w K mg base "InvalidAmount" "value" (CA K 8) fI8 fd8 := T8
    obtain ⟨fI9, fd9, T9⟩ := Z.x 9 (by decide)
    have T9 : XCls P w K mg base "InvalidStep" "value" (CA K 9) fI9 fd9 := T9
    obtain ⟨fI10, fd10, T10⟩ := Z.x 10 (by decide)
    have T10 : XCls P w K mg base "InvalidWay" "value" (CA K 10) fI10 fd10 := T10
    obtain ⟨fI11, fd11, T11⟩ := Z.x 11 (by decide)
    have T11 : XCls P w K mg base "InvalidDeed" "value" (CA K 11) fI11 fd11 := T11
    obtain ⟨fI12, fd12, T12⟩ := Z.x 12 (by decide)
    have T12 : XCls P w K mg base "InvalidFlag" "value" (CA K 12) fI12 fd12 := T12
    obtain ⟨fI13, fd13, T13⟩ := Z.x 13 (by decide)
    have T13 : XCls P w K mg base "InvalidText" "value" (CA K 13) fI13 fd13 := T13
    have hr : Room 2 _ := hr
    refine ⟨_, PSs.nox (pss_cons (ps_if (pt_cmpR op_eq (pv 0) pe_int (nomark _)) (pss_one (ps_ret (pe_mk1 T7 hr (by rfl) (pv 1)))) pss_nil)
 (pss_cons (ps_if (pt_cmpR op_eq (pv 0) pe_int (nomark _)) (pss_one (ps_ret (pe_mk1 T8 hr (by rfl) (pv 1)))) pss_nil)
 (pss_cons (ps_if (pt_cmpR op_eq (pv 0) pe_int (nomark _)) (pss_one (ps_ret (pe_mk1 T9 hr (by rfl) (pv 1)))) pss_nil)
 (pss_cons (ps_if (pt_cmpR op_eq (pv 0) pe_int (nomark _)) (pss_one (ps_ret (pe_mk1 T10 hr (by rfl) (pv 1)))) pss_nil)
 (pss_cons (ps_if (pt_cmpR op_eq (pv 0) pe_int (nomark _)) (pss_one (ps_ret (pe_mk1 T11 hr (by rfl) (pv 1)))) pss_nil)
 (pss_cons (ps_if (pt_cmpR op_eq (pv 0) pe_int (nomark _)) (pss_one (ps_ret (pe_mk1 T12 hr (by rfl) (pv 1)))) pss_nil)
 (pss_cons (ps_if (pt_cmpR op_eq (pv 0) pe_int (nomark _)) (pss_one (ps_ret (pe_mk1 T13 hr (by rfl) (pv 1)))) pss_nil)
 (pss_one (ps_ret pe_non))))))))), ?_⟩
    refine ⟨_, rfl, rfl, _, rfl, ite2 (fun e => ?_) (fun e7 => ?_)⟩
    · obtain rfl := int_eq (c := 7) e
      exact ⟨_, rfl, q1 (by decide) (by decide)⟩
    refine ⟨_, rfl, rfl, _, rfl, ite2 (fun e => ?_) (fun e8 => ?_)⟩
    · obtain rfl := int_eq (c := 8) e
      exact ⟨_, rfl, q1 (by decide) (by decide)⟩
    refine ⟨_, rfl, rfl, _, rfl, ite2 (fun e => ?_) (fun e9 => ?_)⟩
    · obtain rfl := int_eq (c := 9) e
      exact ⟨_, rfl, q1 (by decide) (by decide)⟩
    refine ⟨_, rfl, rfl, _, rfl, ite2 (fun e => ?_) (fun e10 => ?_)⟩
    · obtain rfl := int_eq (c := 10) e
      exact ⟨_, rfl, q1 (by decide) (by decide)⟩
    refine ⟨_, rfl, rfl, _, rfl, ite2 (fun e => ?_) (fun e11 => ?_)⟩
    · obtain rfl := int_eq (c := 11) e
      exact ⟨_, rfl, q1 (by decide) (by decide)⟩
    refine ⟨_, rfl, rfl, _, rfl, ite2 (fun e => ?_) (fun e12 => ?_)⟩
    · obtain rfl := int_eq (c := 12) e
      exact ⟨_, rfl, q1 (by decide) (by decide)⟩
    refine ⟨_, rfl, rfl, _, rfl, ite2 (fun e => ?_) (fun e13 => ?_)⟩
    · obtain rfl := int_eq (c := 13) e
      exact ⟨_, rfl, q1 (by decide) (by decide)⟩
    refine q0 fun ⟨l1, l2⟩ => ?_
    have n7 : i ≠ 7 := fun z => e7 (by rw [z]; rfl)
    have n8 : i ≠ 8 := fun z => e8 (by rw [z]; rfl)
    have n9 : i ≠ 9 := fun z => e9 (by rw [z]; rfl)
    have n10 : i ≠ 10 := fun z => e10 (by rw [z]; rfl)
    have n11 : i ≠ 11 := fun z => e11 (by rw [z]; rfl)
    have n12 : i ≠ 12 := fun z => e12 (by rw [z]; rfl)
    have n13 : i ≠ 13 := fun z => e13 (by rw [z]; rfl)
    omega
theorem scThird : FnScope ["_law_number", "_law_value_here"] ["_law_number", "_law_value_here"] (defScope sThird) := ⟨rfl, rfl, rfl, by decide +kernel, rfl, by decide +kernel, by decide +kernel⟩
theorem ok_law_third (F : FnP K "_law_third" sThird f fd) (Z : Cl P w K mg base) : FnOk P w K mg base CX0 3 f fd ["_law_number", "_law_value_here"] (spPart K 14 21) := by
  refine F.ok scThird (fun vs H Q E h => ?_) (fun cdv A outer s H vs Q E hr h => ?_)
  · obtain ⟨i, v, rfl, _⟩ := h
    rfl
  · obtain ⟨i, v, rfl, hi, q1, q0⟩ := h
    obtain ⟨fI14, fd14, T14⟩ := Z.x 14 (by decide)
    have T14 : XCls P w K mg base "InvalidGrid" "value" (CA K 14) fI14 fd14 := T14
    obtain ⟨fI15, fd15, T15⟩ := Z.x 15 (by decide)
    have T15 : XCls P w K mg base "InvalidSet" "value" (CA K 15) fI15 fd15 := T15
    obtain ⟨fI16, fd16, T16⟩ := Z.x 16 (by decide)
    have T16 : XCls P w K mg base "InvalidTable" "value" (CA K 16) fI16 fd16 := T16
    obtain ⟨fI17, fd17, T17⟩ := Z.x 17 (by decide)
    have T17 : XCls P w K mg base "InvalidAutomaton" "value" (CA K 17) fI17 fd17 := T17
    obtain ⟨fI18, fd18, T18⟩ := Z.x 18 (by decide)
    have T18 : XCls P w K mg base "InvalidMaker" "value" (CA K 18) fI18 fd18 := T18
    obtain ⟨fI19, fd19, T19⟩ := Z.x 19 (by decide)
    have T19 : XCls P w K mg base "InvalidProgram" "value" (CA K 19) fI19 fd19 := T19
    obtain ⟨fI20, fd20, T20⟩ := Z.x 20 (by decide)
    have T20 : XCls P w K mg base "InvalidWorkshop" "value" (CA K 20) fI20 fd20 := T20
    have hr : Room 2 _ := hr
    refine ⟨_, PSs.nox (pss_cons (ps_if (pt_cmpR op_eq (pv 0) pe_int (nomark _)) (pss_one (ps_ret (pe_mk1 T14 hr (by rfl) (pv 1)))) pss_nil)
 (pss_cons (ps_if (pt_cmpR op_eq (pv 0) pe_int (nomark _)) (pss_one (ps_ret (pe_mk1 T15 hr (by rfl) (pv 1)))) pss_nil)
 (pss_cons (ps_if (pt_cmpR op_eq (pv 0) pe_int (nomark _)) (pss_one (ps_ret (pe_mk1 T16 hr (by rfl) (pv 1)))) pss_nil)
 (pss_cons (ps_if (pt_cmpR op_eq (pv 0) pe_int (nomark _)) (pss_one (ps_ret (pe_mk1 T17 hr (by rfl) (pv 1)))) pss_nil)
 (pss_cons (ps_if (pt_cmpR op_eq (pv 0) pe_int (nomark _)) (pss_one (ps_ret (pe_mk1 T18 hr (by rfl) (pv 1)))) pss_nil)
 (pss_cons (ps_if (pt_cmpR op_eq (pv 0) pe_int (nomark _)) (pss_one (ps_ret (pe_mk1 T19 hr (by rfl) (pv 1)))) pss_nil)
 (pss_cons (ps_if (pt_cmpR op_eq (pv 0) pe_int (nomark _)) (pss_one (ps_ret (pe_mk1 T20 hr (by rfl) (pv 1)))) pss_nil)
 (pss_one (ps_ret pe_non))))))))), ?_⟩
    refine ⟨_, rfl, rfl, _, rfl, ite2 (fun e => ?_) (fun e14 => ?_)⟩
    · obtain rfl := int_eq (c := 14) e
      exact ⟨_, rfl, q1 (by decide) (by decide)⟩
    refine ⟨_, rfl, rfl, _, rfl, ite2 (fun e => ?_) (fun e15 => ?_)⟩
    · obtain rfl := int_eq (c := 15) e
      exact ⟨_, rfl, q1 (by decide) (by decide)⟩
    refine ⟨_, rfl, rfl, _, rfl, ite2 (fun e => ?_) (fun e16 => ?_)⟩
    · obtain rfl := int_eq (c := 16) e
      exact ⟨_, rfl, q1 (by decide) (by decide)⟩
    refine ⟨_, rfl, rfl, _, rfl, ite2 (fun e => ?_) (fun e17 => ?_)⟩
    · obtain rfl := int_eq (c := 17) e
      exact ⟨_, rfl, q1 (by decide) (by decide)⟩
    refine ⟨_, rfl, rfl, _, rfl, ite2 (fun e => ?_) (fun e18 => ?_)⟩
    · obtain rfl := int_eq (c := 18) e
      exact ⟨_, rfl, q1 (by decide) (by decide)⟩
    refine ⟨_, rfl, rfl, _, rfl, ite2 (fun e => ?_) (fun e19 => ?_)⟩
    · obtain rfl := int_eq (c := 19) e
      exact ⟨_, rfl, q1 (by decide) (by decide)⟩
    refine ⟨_, rfl, rfl, _, rfl, ite2 (fun e => ?_) (fun e20 => ?_)⟩
    · obtain rfl := int_eq (c := 20) e
      exact ⟨_, rfl, q1 (by decide) (by decide)⟩
    refine q0 fun ⟨l1, l2⟩ => ?_
    have n14 : i ≠ 14 := fun z => e14 (by rw [z]; rfl)
    have n15 : i ≠ 15 := fun z => e15 (by rw [z]; rfl)
    have n16 : i ≠ 16 := fun z => e16 (by rw [z]; rfl)
    have n17 : i ≠ 17 := fun z => e17 (by rw [z]; rfl)
    have n18 : i ≠ 18 := fun z => e18 (by rw [z]; rfl)
    have n19 : i ≠ 19 := fun z => e19 (by rw [z]; rfl)
    have n20 : i ≠ 20 := fun z => e20 (by rw [z]; rfl)
    omega
theorem scFourth : FnScope ["_law_number", "_law_value_here"] ["_law_number", "_law_value_here"] (defScope sFourth) := ⟨rfl, rfl, rfl, by decide +kernel, rfl, by decide +kernel, by decide +kernel⟩
theorem ok_law_fourth (F : FnP K "_law_fourth" sFourth f fd) (Z : Cl P w K mg base) : FnOk P w K mg base CX0 3 f fd ["_law_number", "_law_value_here"] (spPart K 21 27) := by
  refine F.ok scFourth (fun vs H Q E h => ?_) (fun cdv A outer s H vs Q E hr h => ?_)
  · obtain ⟨i, v, rfl, _⟩ := h
    rfl
  · obtain ⟨i, v, rfl, hi, q1, q0⟩ := h
    obtain ⟨fI21, fd21, T21⟩ := Z.x 21 (by decide)
    have T21 : XCls P w K mg base "InvalidPiece" "value" (CA K 21) fI21 fd21 := T21
    obtain ⟨fI22, fd22, T22⟩ := Z.x 22 (by decide)
    have T22 : XCls P w K mg base "Unlike" "value" (CA K 22) fI22 fd22 := T22
    obtain ⟨fI23, fd23, T23⟩ := Z.x 23 (by decide)
    have T23 : XCls P w K mg base "TooLong" "value" (CA K 23) fI23 fd23 := T23
    obtain ⟨fI24, fd24, T24⟩ := Z.x 24 (by decide)
    have T24 : XCls P w K mg base "TooMany" "value" (CA K 24) fI24 fd24 := T24
    obtain ⟨fI25, fd25, T25⟩ := Z.x 25 (by decide)
    have T25 : XCls P w K mg base "UnknownPart" "value" (CA K 25) fI25 fd25 := T25
    obtain ⟨fI26, fd26, T26⟩ := Z.x 26 (by decide)
    have T26 : XCls P w K mg base "OpenInOpen" "place" (CA K 26) fI26 fd26 := T26
    have hr : Room 2 _ := hr
    refine ⟨_, PSs.nox (pss_cons (ps_if (pt_cmpR op_eq (pv 0) pe_int (nomark _)) (pss_one (ps_ret (pe_mk1 T21 hr (by rfl) (pv 1)))) pss_nil)
 (pss_cons (ps_if (pt_cmpR op_eq (pv 0) pe_int (nomark _)) (pss_one (ps_ret (pe_mk1 T22 hr (by rfl) (pv 1)))) pss_nil)
 (pss_cons (ps_if (pt_cmpR op_eq (pv 0) pe_int (nomark _)) (pss_one (ps_ret (pe_mk1 T23 hr (by rfl) (pv 1)))) pss_nil)
 (pss_cons (ps_if (pt_cmpR op_eq (pv 0) pe_int (nomark _)) (pss_one (ps_ret (pe_mk1 T24 hr (by rfl) (pv 1)))) pss_nil)
 (pss_cons (ps_if (pt_cmpR op_eq (pv 0) pe_int (nomark _)) (pss_one (ps_ret (pe_mk1 T25 hr (by rfl) (pv 1)))) pss_nil)
 (pss_cons (ps_if (pt_cmpR op_eq (pv 0) pe_int (nomark _)) (pss_one (ps_ret (pe_mk1 T26 hr (by rfl) (pv 1)))) pss_nil)
 (pss_one (ps_ret pe_non)))))))), ?_⟩
    refine ⟨_, rfl, rfl, _, rfl, ite2 (fun e => ?_) (fun e21 => ?_)⟩
    · obtain rfl := int_eq (c := 21) e
      exact ⟨_, rfl, q1 (by decide) (by decide)⟩
    refine ⟨_, rfl, rfl, _, rfl, ite2 (fun e => ?_) (fun e22 => ?_)⟩
    · obtain rfl := int_eq (c := 22) e
      exact ⟨_, rfl, q1 (by decide) (by decide)⟩
    refine ⟨_, rfl, rfl, _, rfl, ite2 (fun e => ?_) (fun e23 => ?_)⟩
    · obtain rfl := int_eq (c := 23) e
      exact ⟨_, rfl, q1 (by decide) (by decide)⟩
    refine ⟨_, rfl, rfl, _, rfl, ite2 (fun e => ?_) (fun e24 => ?_)⟩
    · obtain rfl := int_eq (c := 24) e
      exact ⟨_, rfl, q1 (by decide) (by decide)⟩
    refine ⟨_, rfl, rfl, _, rfl, ite2 (fun e => ?_) (fun e25 => ?_)⟩
    · obtain rfl := int_eq (c := 25) e
      exact ⟨_, rfl, q1 (by decide) (by decide)⟩
    refine ⟨_, rfl, rfl, _, rfl, ite2 (fun e => ?_) (fun e26 => ?_)⟩
    · obtain rfl := int_eq (c := 26) e
      exact ⟨_, rfl, q1 (by decide) (by decide)⟩
    refine q0 fun ⟨l1, l2⟩ => ?_
    have n21 : i ≠ 21 := fun z => e21 (by rw [z]; rfl)
    have n22 : i ≠ 22 := fun z => e22 (by rw [z]; rfl)
    have n23 : i ≠ 23 := fun z => e23 (by rw [z]; rfl)
    have n24 : i ≠ 24 := fun z => e24 (by rw [z]; rfl)
    have n25 : i ≠ 25 := fun z => e25 (by rw [z]; rfl)
    have n26 : i ≠ 26 := fun z => e26 (by rw [z]; rfl)
    omega
theorem scKinds : FnScope ["_law_error", "_law_found"] ["_law_error"] (defScope sKinds) := ⟨rfl, rfl, rfl, by decide +kernel, rfl, by decide +kernel, by decide +kernel⟩
def spKinds (K : PySem.W.Frag) : Sp := fun vs H Q _ => ∃ (i : Nat) (x : V), vs = [x] ∧ i < 29 ∧ IsE H x (CA K i) ∧ ∀ (H' : Hp) (p : Addr), Same H H' → H' p = some (.lst ((List.range 29).map fun j => V.bl (decide (i = j)))) → Q (.ref p) H'
theorem ok_law_kinds (F : FnP K "_law_kinds" sKinds f fd) (Z : Cl P w K mg base) (zI : mg "isinstance" = none) : FnOk P w K mg base CX0 1 f fd ["_law_error"] (spKinds K) := by
  have nd := scKinds.nd
  refine F.ok scKinds (fun vs H Q E h => ?_) (fun cdv A outer s H vs Q E hr h => ?_)
  · obtain ⟨i, x, rfl, _⟩ := h
    rfl
  · obtain ⟨i, x, rfl, hi, hx, q⟩ := h
    have g0 : mg "InvalidNumber" = some (.ref (CA K 0)) := Z.g 0 (by decide)
    have g1 : mg "InvalidWord" = some (.ref (CA K 1)) := Z.g 1 (by decide)
    have g2 : mg "InvalidForm" = some (.ref (CA K 2)) := Z.g 2 (by decide)
    have g3 : mg "InvalidPoint" = some (.ref (CA K 3)) := Z.g 3 (by decide)
    have g4 : mg "InvalidPieces" = some (.ref (CA K 4)) := Z.g 4 (by decide)
    have g5 : mg "InvalidList" = some (.ref (CA K 5)) := Z.g 5 (by decide)
    have g6 : mg "InvalidLines" = some (.ref (CA K 6)) := Z.g 6 (by decide)
    have g7 : mg "InvalidPlace" = some (.ref (CA K 7)) := Z.g 7 (by decide)
    have g8 : mg "InvalidAmount" = some (.ref (CA K 8)) := Z.g 8 (by decide)
    have g9 : mg "InvalidStep" = some (.ref (CA K 9)) := Z.g 9 (by decide)
    have g10 : mg "InvalidWay" = some (.ref (CA K 10)) := Z.g 10 (by decide)
    have g11 : mg "InvalidDeed" = some (.ref (CA K 11)) := Z.g 11 (by decide)
    have g12 : mg "InvalidFlag" = some (.ref (CA K 12)) := Z.g 12 (by decide)
    have g13 : mg "InvalidText" = some (.ref (CA K 13)) := Z.g 13 (by decide)
    have g14 : mg "InvalidGrid" = some (.ref (CA K 14)) := Z.g 14 (by decide)
    have g15 : mg "InvalidSet" = some (.ref (CA K 15)) := Z.g 15 (by decide)
    have g16 : mg "InvalidTable" = some (.ref (CA K 16)) := Z.g 16 (by decide)
    have g17 : mg "InvalidAutomaton" = some (.ref (CA K 17)) := Z.g 17 (by decide)
    have g18 : mg "InvalidMaker" = some (.ref (CA K 18)) := Z.g 18 (by decide)
    have g19 : mg "InvalidProgram" = some (.ref (CA K 19)) := Z.g 19 (by decide)
    have g20 : mg "InvalidWorkshop" = some (.ref (CA K 20)) := Z.g 20 (by decide)
    have g21 : mg "InvalidPiece" = some (.ref (CA K 21)) := Z.g 21 (by decide)
    have g22 : mg "Unlike" = some (.ref (CA K 22)) := Z.g 22 (by decide)
    have g23 : mg "TooLong" = some (.ref (CA K 23)) := Z.g 23 (by decide)
    have g24 : mg "TooMany" = some (.ref (CA K 24)) := Z.g 24 (by decide)
    have g25 : mg "UnknownPart" = some (.ref (CA K 25)) := Z.g 25 (by decide)
    have g26 : mg "OpenInOpen" = some (.ref (CA K 26)) := Z.g 26 (by decide)
    have g27 : mg "NothingToUndo" = some (.ref (CA K 27)) := Z.g 27 (by decide)
    have g28 : mg "NothingToRedo" = some (.ref (CA K 28)) := Z.g 28 (by decide)
    refine ⟨_, PSs.nox (pss_cons (ps_set (i := 1) nd rfl (Or.inl rfl) (pe_lst pa_nil))
 (pss_cons (ps_set (i := 1) nd rfl (Or.inl rfl) (pe_op op_cat (pv 1) (pe_lst (pa_cons (pe_callB call_isX (by rfl) zI (by decide +kernel) (pa_cons (pv 0) (pa_cons (pe_glob (v := .ref (CA K 0)) (by rfl) g0 rfl) pa_nil))) (pa_cons (pe_callB call_isX (by rfl) zI (by decide +kernel) (pa_cons (pv 0) (pa_cons (pe_glob (v := .ref (CA K 1)) (by rfl) g1 rfl) pa_nil))) (pa_cons (pe_callB call_isX (by rfl) zI (by decide +kernel) (pa_cons (pv 0) (pa_cons (pe_glob (v := .ref (CA K 2)) (by rfl) g2 rfl) pa_nil))) (pa_cons (pe_callB call_isX (by rfl) zI (by decide +kernel) (pa_cons (pv 0) (pa_cons (pe_glob (v := .ref (CA K 3)) (by rfl) g3 rfl) pa_nil))) pa_nil)))))))
 (pss_cons (ps_set (i := 1) nd rfl (Or.inl rfl) (pe_op op_cat (pv 1) (pe_lst (pa_cons (pe_callB call_isX (by rfl) zI (by decide +kernel) (pa_cons (pv 0) (pa_cons (pe_glob (v := .ref (CA K 4)) (by rfl) g4 rfl) pa_nil))) (pa_cons (pe_callB call_isX (by rfl) zI (by decide +kernel) (pa_cons (pv 0) (pa_cons (pe_glob (v := .ref (CA K 5)) (by rfl) g5 rfl) pa_nil))) (pa_cons (pe_callB call_isX (by rfl) zI (by decide +kernel) (pa_cons (pv 0) (pa_cons (pe_glob (v := .ref (CA K 6)) (by rfl) g6 rfl) pa_nil))) (pa_cons (pe_callB call_isX (by rfl) zI (by decide +kernel) (pa_cons (pv 0) (pa_cons (pe_glob (v := .ref (CA K 7)) (by rfl) g7 rfl) pa_nil))) pa_nil)))))))
 (pss_cons (ps_set (i := 1) nd rfl (Or.inl rfl) (pe_op op_cat (pv 1) (pe_lst (pa_cons (pe_callB call_isX (by rfl) zI (by decide +kernel) (pa_cons (pv 0) (pa_cons (pe_glob (v := .ref (CA K 8)) (by rfl) g8 rfl) pa_nil))) (pa_cons (pe_callB call_isX (by rfl) zI (by decide +kernel) (pa_cons (pv 0) (pa_cons (pe_glob (v := .ref (CA K 9)) (by rfl) g9 rfl) pa_nil))) (pa_cons (pe_callB call_isX (by rfl) zI (by decide +kernel) (pa_cons (pv 0) (pa_cons (pe_glob (v := .ref (CA K 10)) (by rfl) g10 rfl) pa_nil))) (pa_cons (pe_callB call_isX (by rfl) zI (by decide +kernel) (pa_cons (pv 0) (pa_cons (pe_glob (v := .ref (CA K 11)) (by rfl) g11 rfl) pa_nil))) pa_nil)))))))
 (pss_cons (ps_set (i := 1) nd rfl (Or.inl rfl) (pe_op op_cat (pv 1) (pe_lst (pa_cons (pe_callB call_isX (by rfl) zI (by decide +kernel) (pa_cons (pv 0) (pa_cons (pe_glob (v := .ref (CA K 12)) (by rfl) g12 rfl) pa_nil))) (pa_cons (pe_callB call_isX (by rfl) zI (by decide +kernel) (pa_cons (pv 0) (pa_cons (pe_glob (v := .ref (CA K 13)) (by rfl) g13 rfl) pa_nil))) (pa_cons (pe_callB call_isX (by rfl) zI (by decide +kernel) (pa_cons (pv 0) (pa_cons (pe_glob (v := .ref (CA K 14)) (by rfl) g14 rfl) pa_nil))) (pa_cons (pe_callB call_isX (by rfl) zI (by decide +kernel) (pa_cons (pv 0) (pa_cons (pe_glob (v := .ref (CA K 15)) (by rfl) g15 rfl) pa_nil))) pa_nil)))))))
 (pss_cons (ps_set (i := 1) nd rfl (Or.inl rfl) (pe_op op_cat (pv 1) (pe_lst (pa_cons (pe_callB call_isX (by rfl) zI (by decide +kernel) (pa_cons (pv 0) (pa_cons (pe_glob (v := .ref (CA K 16)) (by rfl) g16 rfl) pa_nil))) (pa_cons (pe_callB call_isX (by rfl) zI (by decide +kernel) (pa_cons (pv 0) (pa_cons (pe_glob (v := .ref (CA K 17)) (by rfl) g17 rfl) pa_nil))) (pa_cons (pe_callB call_isX (by rfl) zI (by decide +kernel) (pa_cons (pv 0) (pa_cons (pe_glob (v := .ref (CA K 18)) (by rfl) g18 rfl) pa_nil))) (pa_cons (pe_callB call_isX (by rfl) zI (by decide +kernel) (pa_cons (pv 0) (pa_cons (pe_glob (v := .ref (CA K 19)) (by rfl) g19 rfl) pa_nil))) pa_nil)))))))
 (pss_cons (ps_set (i := 1) nd rfl (Or.inl rfl) (pe_op op_cat (pv 1) (pe_lst (pa_cons (pe_callB call_isX (by rfl) zI (by decide +kernel) (pa_cons (pv 0) (pa_cons (pe_glob (v := .ref (CA K 20)) (by rfl) g20 rfl) pa_nil))) (pa_cons (pe_callB call_isX (by rfl) zI (by decide +kernel) (pa_cons (pv 0) (pa_cons (pe_glob (v := .ref (CA K 21)) (by rfl) g21 rfl) pa_nil))) (pa_cons (pe_callB call_isX (by rfl) zI (by decide +kernel) (pa_cons (pv 0) (pa_cons (pe_glob (v := .ref (CA K 22)) (by rfl) g22 rfl) pa_nil))) (pa_cons (pe_callB call_isX (by rfl) zI (by decide +kernel) (pa_cons (pv 0) (pa_cons (pe_glob (v := .ref (CA K 23)) (by rfl) g23 rfl) pa_nil))) pa_nil)))))))
 (pss_cons (ps_set (i := 1) nd rfl (Or.inl rfl) (pe_op op_cat (pv 1) (pe_lst (pa_cons (pe_callB call_isX (by rfl) zI (by decide +kernel) (pa_cons (pv 0) (pa_cons (pe_glob (v := .ref (CA K 24)) (by rfl) g24 rfl) pa_nil))) (pa_cons (pe_callB call_isX (by rfl) zI (by decide +kernel) (pa_cons (pv 0) (pa_cons (pe_glob (v := .ref (CA K 25)) (by rfl) g25 rfl) pa_nil))) (pa_cons (pe_callB call_isX (by rfl) zI (by decide +kernel) (pa_cons (pv 0) (pa_cons (pe_glob (v := .ref (CA K 26)) (by rfl) g26 rfl) pa_nil))) (pa_cons (pe_callB call_isX (by rfl) zI (by decide +kernel) (pa_cons (pv 0) (pa_cons (pe_glob (v := .ref (CA K 27)) (by rfl) g27 rfl) pa_nil))) pa_nil)))))))
 (pss_cons (ps_set (i := 1) nd rfl (Or.inl rfl) (pe_op op_cat (pv 1) (pe_lst (pa_cons (pe_callB call_isX (by rfl) zI (by decide +kernel) (pa_cons (pv 0) (pa_cons (pe_glob (v := .ref (CA K 28)) (by rfl) g28 rfl) pa_nil))) pa_nil))))
 (pss_one (ps_ret (pv 1)))))))))))), ?_⟩
    refine ⟨Nat.zero_le _, fun p0 np0 => ?_⟩
    have s0 : Same H (upd H p0 (.lst [])) := same_new np0
    have h0 : (upd H p0 (.lst [])) p0 = some (.lst []) := upd_same
    generalize upd H p0 (.lst []) = H0 at *
    refine ⟨_, rfl, _, rfl, _, _, _, _, _, rfl, isE_keep s0 hx, Z.e i (by omega), (fun u r => r), Z.kit i hi 0 (by decide), _, rfl, _, _, _, _, _, rfl, isE_keep s0 hx, Z.e i (by omega), (fun u r => r), Z.kit i hi 1 (by decide), _, rfl, _, _, _, _, _, rfl, isE_keep s0 hx, Z.e i (by omega), (fun u r => r), Z.kit i hi 2 (by decide), _, rfl, _, _, _, _, _, rfl, isE_keep s0 hx, Z.e i (by omega), (fun u r => r), Z.kit i hi 3 (by decide), (by show 4 ≤ sizeLine; decide), fun l1 nl1 => ?_⟩
    have a1 := same_new (o := .lst [.bl (decide (i = 0)), .bl (decide (i = 1)), .bl (decide (i = 2)), .bl (decide (i = 3))]) nl1
    refine ⟨_, _, [], _, rfl, rfl, a1 _ _ h0, upd_same, (by show 0 + 4 ≤ sizeLine; decide), fun p1 np1 => ?_⟩
    have b1 := (s0.trans a1).trans (same_new (o := .lst ([] ++ [.bl (decide (i = 0)), .bl (decide (i = 1)), .bl (decide (i = 2)), .bl (decide (i = 3))])) np1)
    have s1 := b1
    have h1 : (upd (upd H0 l1 (.lst [.bl (decide (i = 0)), .bl (decide (i = 1)), .bl (decide (i = 2)), .bl (decide (i = 3))])) p1 (.lst ([] ++ [.bl (decide (i = 0)), .bl (decide (i = 1)), .bl (decide (i = 2)), .bl (decide (i = 3))]))) p1 = some (.lst [.bl (decide (i = 0)), .bl (decide (i = 1)), .bl (decide (i = 2)), .bl (decide (i = 3))]) := upd_same
    clear b1 a1
    generalize upd (upd H0 l1 (.lst [.bl (decide (i = 0)), .bl (decide (i = 1)), .bl (decide (i = 2)), .bl (decide (i = 3))])) p1 (.lst ([] ++ [.bl (decide (i = 0)), .bl (decide (i = 1)), .bl (decide (i = 2)), .bl (decide (i = 3))])) = H1 at *
    refine ⟨_, rfl, _, rfl, _, _, _, _, _, rfl, isE_keep s1 hx, Z.e i (by omega), (fun u r => r), Z.kit i hi 4 (by decide), _, rfl, _, _, _, _, _, rfl, isE_keep s1 hx, Z.e i (by omega), (fun u r => r), Z.kit i hi 5 (by decide), _, rfl, _, _, _, _, _, rfl, isE_keep s1 hx, Z.e i (by omega), (fun u r => r), Z.kit i hi 6 (by decide), _, rfl, _, _, _, _, _, rfl, isE_keep s1 hx, Z.e i (by omega), (fun u r => r), Z.kit i hi 7 (by decide), (by show 4 ≤ sizeLine; decide), fun l2 nl2 => ?_⟩
    have a2 := same_new (o := .lst [.bl (decide (i = 4)), .bl (decide (i = 5)), .bl (decide (i = 6)), .bl (decide (i = 7))]) nl2
    refine ⟨_, _, [.bl (decide (i = 0)), .bl (decide (i = 1)), .bl (decide (i = 2)), .bl (decide (i = 3))], _, rfl, rfl, a2 _ _ h1, upd_same, (by show 4 + 4 ≤ sizeLine; decide), fun p2 np2 => ?_⟩
    have b2 := (s1.trans a2).trans (same_new (o := .lst ([.bl (decide (i = 0)), .bl (decide (i = 1)), .bl (decide (i = 2)), .bl (decide (i = 3))] ++ [.bl (decide (i = 4)), .bl (decide (i = 5)), .bl (decide (i = 6)), .bl (decide (i = 7))])) np2)
    have s2 := b2
    have h2 : (upd (upd H1 l2 (.lst [.bl (decide (i = 4)), .bl (decide (i = 5)), .bl (decide (i = 6)), .bl (decide (i = 7))])) p2 (.lst ([.bl (decide (i = 0)), .bl (decide (i = 1)), .bl (decide (i = 2)), .bl (decide (i = 3))] ++ [.bl (decide (i = 4)), .bl (decide (i = 5)), .bl (decide (i = 6)), .bl (decide (i = 7))]))) p2 = some (.lst [.bl (decide (i = 0)), .bl (decide (i = 1)), .bl (decide (i = 2)), .bl (decide (i = 3)), .bl (decide (i = 4)), .bl (decide (i = 5)), .bl (decide (i = 6)), .bl (decide (i = 7))]) := upd_same
    clear b2 a2
    generalize upd (upd H1 l2 (.lst [.bl (decide (i = 4)), .bl (decide (i = 5)), .bl (decide (i = 6)), .bl (decide (i = 7))])) p2 (.lst ([.bl (decide (i = 0)), .bl (decide (i = 1)), .bl (decide (i = 2)), .bl (decide (i = 3))] ++ [.bl (decide (i = 4)), .bl (decide (i = 5)), .bl (decide (i = 6)), .bl (decide (i = 7))])) = H2 at *
    refine ⟨_, rfl, _, rfl, _, _, _, _, _, rfl, isE_keep s2 hx, Z.e i (by omega), (fun u r => r), Z.kit i hi 8 (by decide), _, rfl, _, _, _, _, _, rfl, isE_keep s2 hx, Z.e i (by omega), (fun u r => r), Z.kit i hi 9 (by decide), _, rfl, _, _, _, _, _, rfl, isE_keep s2 hx, Z.e i (by omega), (fun u r => r), Z.kit i hi 10 (by decide), _, rfl, _, _, _, _, _, rfl, isE_keep s2 hx, Z.e i (by omega), (fun u r => r), Z.kit i hi 11 (by decide), (by show 4 ≤ sizeLine; decide), fun l3 nl3 => ?_⟩
    have a3 := same_new (o := .lst [.bl (decide (i = 8)), .bl (decide (i = 9)), .bl (decide (i = 10)), .bl (decide (i = 11))]) nl3
    refine ⟨_, _, [.bl (decide (i = 0)), .bl (decide (i = 1)), .bl (decide (i = 2)), .bl (decide (i = 3)), .bl (decide (i = 4)), .bl (decide (i = 5)), .bl (decide (i = 6)), .bl (decide (i = 7))], _, rfl, rfl, a3 _ _ h2, upd_same, (by show 8 + 4 ≤ sizeLine; decide), fun p3 np3 => ?_⟩
    have b3 := (s2.trans a3).trans (same_new (o := .lst ([.bl (decide (i = 0)), .bl (decide (i = 1)), .bl (decide (i = 2)), .bl (decide (i = 3)), .bl (decide (i = 4)), .bl (decide (i = 5)), .bl (decide (i = 6)), .bl (decide (i = 7))] ++ [.bl (decide (i = 8)), .bl (decide (i = 9)), .bl (decide (i = 10)), .bl (decide (i = 11))])) np3)
    have s3 := b3
    have h3 : (upd (upd H2 l3 (.lst [.bl (decide (i = 8)), .bl (decide (i = 9)), .bl (decide (i = 10)), .bl (decide (i = 11))])) p3 (.lst ([.bl (decide (i = 0)), .bl (decide (i = 1)), .bl (decide (i = 2)), .bl (decide (i = 3)), .bl (decide (i = 4)), .bl (decide (i = 5)), .bl (decide (i = 6)), .bl (decide (i = 7))] ++ [.bl (decide (i = 8)), .bl (decide (i = 9)), .bl (decide (i = 10)), .bl (decide (i = 11))]))) p3 = some (.lst [.bl (decide (i = 0)), .bl (decide (i = 1)), .bl (decide (i = 2)), .bl (decide (i = 3)), .bl (decide (i = 4)), .bl (decide (i = 5)), .bl (decide (i = 6)), .bl (decide (i = 7)), .bl (decide (i = 8)), .bl (decide (i = 9)), .bl (decide (i = 10)), .bl (decide (i = 11))]) := upd_same
    clear b3 a3
    generalize upd (upd H2 l3 (.lst [.bl (decide (i = 8)), .bl (decide (i = 9)), .bl (decide (i = 10)), .bl (decide (i = 11))])) p3 (.lst ([.bl (decide (i = 0)), .bl (decide (i = 1)), .bl (decide (i = 2)), .bl (decide (i = 3)), .bl (decide (i = 4)), .bl (decide (i = 5)), .bl (decide (i = 6)), .bl (decide (i = 7))] ++ [.bl (decide (i = 8)), .bl (decide (i = 9)), .bl (decide (i = 10)), .bl (decide (i = 11))])) = H3 at *
    refine ⟨_, rfl, _, rfl, _, _, _, _, _, rfl, isE_keep s3 hx, Z.e i (by omega), (fun u r => r), Z.kit i hi 12 (by decide), _, rfl, _, _, _, _, _, rfl, isE_keep s3 hx, Z.e i (by omega), (fun u r => r), Z.kit i hi 13 (by decide), _, rfl, _, _, _, _, _, rfl, isE_keep s3 hx, Z.e i (by omega), (fun u r => r), Z.kit i hi 14 (by decide), _, rfl, _, _, _, _, _, rfl, isE_keep s3 hx, Z.e i (by omega), (fun u r => r), Z.kit i hi 15 (by decide), (by show 4 ≤ sizeLine; decide), fun l4 nl4 => ?_⟩
    have a4 := same_new (o := .lst [.bl (decide (i = 12)), .bl (decide (i = 13)), .bl (decide (i = 14)), .bl (decide (i = 15))]) nl4
    refine ⟨_, _, [.bl (decide (i = 0)), .bl (decide (i = 1)), .bl (decide (i = 2)), .bl (decide (i = 3)), .bl (decide (i = 4)), .bl (decide (i = 5)), .bl (decide (i = 6)), .bl (decide (i = 7)), .bl (decide (i = 8)), .bl (decide (i = 9)), .bl (decide (i = 10)), .bl (decide (i = 11))], _, rfl, rfl, a4 _ _ h3, upd_same, (by show 12 + 4 ≤ sizeLine; decide), fun p4 np4 => ?_⟩
    have b4 := (s3.trans a4).trans (same_new (o := .lst ([.bl (decide (i = 0)), .bl (decide (i = 1)), .bl (decide (i = 2)), .bl (decide (i = 3)), .bl (decide (i = 4)), .bl (decide (i = 5)), .bl (decide (i = 6)), .bl (decide (i = 7)), .bl (decide (i = 8)), .bl (decide (i = 9)), .bl (decide (i = 10)), .bl (decide (i = 11))] ++ [.bl (decide (i = 12)), .bl (decide (i = 13)), .bl (decide (i = 14)), .bl (decide (i = 15))])) np4)
    have s4 := b4
    have h4 : (upd (upd H3 l4 (.lst [.bl (decide (i = 12)), .bl (decide (i = 13)), .bl (decide (i = 14)), .bl (decide (i = 15))])) p4 (.lst ([.bl (decide (i = 0)), .bl (decide (i = 1)), .bl (decide (i = 2)), .bl (decide (i = 3)), .bl (decide (i = 4)), .bl (decide (i = 5)), .bl (decide (i = 6)), .bl (decide (i = 7)), .bl (decide (i = 8)), .bl (decide (i = 9)), .bl (decide (i = 10)), .bl (decide (i = 11))] ++ [.bl (decide (i = 12)), .bl (decide (i = 13)), .bl (decide (i = 14)), .bl (decide (i = 15))]))) p4 = some (.lst [.bl (decide (i = 0)), .bl (decide (i = 1)), .bl (decide (i = 2)), .bl (decide (i = 3)), .bl (decide (i = 4)), .bl (decide (i = 5)), .bl (decide (i = 6)), .bl (decide (i = 7)), .bl (decide (i = 8)), .bl (decide (i = 9)), .bl (decide (i = 10)), .bl (decide (i = 11)), .bl (decide (i = 12)), .bl (decide (i = 13)), .bl (decide (i = 14)), .bl (decide (i = 15))]) := upd_same
    clear b4 a4
    generalize upd (upd H3 l4 (.lst [.bl (decide (i = 12)), .bl (decide (i = 13)), .bl (decide (i = 14)), .bl (decide (i = 15))])) p4 (.lst ([.bl (decide (i = 0)), .bl (decide (i = 1)), .bl (decide (i = 2)), .bl (decide (i = 3)), .bl (decide (i = 4)), .bl (decide (i = 5)), .bl (decide (i = 6)), .bl (decide (i = 7)), .bl (decide (i = 8)), .bl (decide (i = 9)), .bl (decide (i = 10)), .bl (decide (i = 11))] ++ [.bl (decide (i = 12)), .bl (decide (i = 13)), .bl (decide (i = 14)), .bl (decide (i = 15))])) = H4 at *
    refine ⟨_, rfl, _, rfl, _, _, _, _, _, rfl, isE_keep s4 hx, Z.e i (by omega), (fun u r => r), Z.kit i hi 16 (by decide), _, rfl, _, _, _, _, _, rfl, isE_keep s4 hx, Z.e i (by omega), (fun u r => r), Z.kit i hi 17 (by decide), _, rfl, _, _, _, _, _, rfl, isE_keep s4 hx, Z.e i (by omega), (fun u r => r), Z.kit i hi 18 (by decide), _, rfl, _, _, _, _, _, rfl, isE_keep s4 hx, Z.e i (by omega), (fun u r => r), Z.kit i hi 19 (by decide), (by show 4 ≤ sizeLine; decide), fun l5 nl5 => ?_⟩
    have a5 := same_new (o := .lst [.bl (decide (i = 16)), .bl (decide (i = 17)), .bl (decide (i = 18)), .bl (decide (i = 19))]) nl5
    refine ⟨_, _, [.bl (decide (i = 0)), .bl (decide (i = 1)), .bl (decide (i = 2)), .bl (decide (i = 3)), .bl (decide (i = 4)), .bl (decide (i = 5)), .bl (decide (i = 6)), .bl (decide (i = 7)), .bl (decide (i = 8)), .bl (decide (i = 9)), .bl (decide (i = 10)), .bl (decide (i = 11)), .bl (decide (i = 12)), .bl (decide (i = 13)), .bl (decide (i = 14)), .bl (decide (i = 15))], _, rfl, rfl, a5 _ _ h4, upd_same, (by show 16 + 4 ≤ sizeLine; decide), fun p5 np5 => ?_⟩
    have b5 := (s4.trans a5).trans (same_new (o := .lst ([.bl (decide (i = 0)), .bl (decide (i = 1)), .bl (decide (i = 2)), .bl (decide (i = 3)), .bl (decide (i = 4)), .bl (decide (i = 5)), .bl (decide (i = 6)), .bl (decide (i = 7)), .bl (decide (i = 8)), .bl (decide (i = 9)), .bl (decide (i = 10)), .bl (decide (i = 11)), .bl (decide (i = 12)), .bl (decide (i = 13)), .bl (decide (i = 14)), .bl (decide (i = 15))] ++ [.bl (decide (i = 16)), .bl (decide (i = 17)), .bl (decide (i = 18)), .bl (decide (i = 19))])) np5)
    have s5 := b5
    have h5 : (upd (upd H4 l5 (.lst [.bl (decide (i = 16)), .bl (decide (i = 17)), .bl (decide (i = 18)), .bl (decide (i = 19))])) p5 (.lst ([.bl (decide (i = 0)), .bl (decide (i = 1)), .bl (decide (i = 2)), .bl (decide (i = 3)), .bl (decide (i = 4)), .bl (decide (i = 5)), .bl (decide (i = 6)), .bl (decide (i = 7)), .bl (decide (i = 8)), .bl (decide (i = 9)), .bl (decide (i = 10)), .bl (decide (i = 11)), .bl (decide (i = 12)), .bl (decide (i = 13)), .bl (decide (i = 14)), .bl (decide (i = 15))] ++ [.bl (decide (i = 16)), .bl (decide (i = 17)), .bl (decide (i = 18)), .bl (decide (i = 19))]))) p5 = some (.lst [.bl (decide (i = 0)), .bl (decide (i = 1)), .bl (decide (i = 2)), .bl (decide (i = 3)), .bl (decide (i = 4)), .bl (decide (i = 5)), .bl (decide (i = 6)), .bl (decide (i = 7)), .bl (decide (i = 8)), .bl (decide (i = 9)), .bl (decide (i = 10)), .bl (decide (i = 11)), .bl (decide (i = 12)), .bl (decide (i = 13)), .bl (decide (i = 14)), .bl (decide (i = 15)), .bl (decide (i = 16)), .bl (decide (i = 17)), .bl (decide (i = 18)), .bl (decide (i = 19))]) := upd_same
    clear b5 a5
    generalize upd (upd H4 l5 (.lst [.bl (decide (i = 16)), .bl (decide (i = 17)), .bl (decide (i = 18)), .bl (decide (i = 19))])) p5 (.lst ([.bl (decide (i = 0)), .bl (decide (i = 1)), .bl (decide (i = 2)), .bl (decide (i = 3)), .bl (decide (i = 4)), .bl (decide (i = 5)), .bl (decide (i = 6)), .bl (decide (i = 7)), .bl (decide (i = 8)), .bl (decide (i = 9)), .bl (decide (i = 10)), .bl (decide (i = 11)), .bl (decide (i = 12)), .bl (decide (i = 13)), .bl (decide (i = 14)), .bl (decide (i = 15))] ++ [.bl (decide (i = 16)), .bl (decide (i = 17)), .bl (decide (i = 18)), .bl (decide (i = 19))])) = H5 at *
    refine ⟨_, rfl, _, rfl, _, _, _, _, _, rfl, isE_keep s5 hx, Z.e i (by omega), (fun u r => r), Z.kit i hi 20 (by decide), _, rfl, _, _, _, _, _, rfl, isE_keep s5 hx, Z.e i (by omega), (fun u r => r), Z.kit i hi 21 (by decide), _, rfl, _, _, _, _, _, rfl, isE_keep s5 hx, Z.e i (by omega), (fun u r => r), Z.kit i hi 22 (by decide), _, rfl, _, _, _, _, _, rfl, isE_keep s5 hx, Z.e i (by omega), (fun u r => r), Z.kit i hi 23 (by decide), (by show 4 ≤ sizeLine; decide), fun l6 nl6 => ?_⟩
    have a6 := same_new (o := .lst [.bl (decide (i = 20)), .bl (decide (i = 21)), .bl (decide (i = 22)), .bl (decide (i = 23))]) nl6
    refine ⟨_, _, [.bl (decide (i = 0)), .bl (decide (i = 1)), .bl (decide (i = 2)), .bl (decide (i = 3)), .bl (decide (i = 4)), .bl (decide (i = 5)), .bl (decide (i = 6)), .bl (decide (i = 7)), .bl (decide (i = 8)), .bl (decide (i = 9)), .bl (decide (i = 10)), .bl (decide (i = 11)), .bl (decide (i = 12)), .bl (decide (i = 13)), .bl (decide (i = 14)), .bl (decide (i = 15)), .bl (decide (i = 16)), .bl (decide (i = 17)), .bl (decide (i = 18)), .bl (decide (i = 19))], _, rfl, rfl, a6 _ _ h5, upd_same, (by show 20 + 4 ≤ sizeLine; decide), fun p6 np6 => ?_⟩
    have b6 := (s5.trans a6).trans (same_new (o := .lst ([.bl (decide (i = 0)), .bl (decide (i = 1)), .bl (decide (i = 2)), .bl (decide (i = 3)), .bl (decide (i = 4)), .bl (decide (i = 5)), .bl (decide (i = 6)), .bl (decide (i = 7)), .bl (decide (i = 8)), .bl (decide (i = 9)), .bl (decide (i = 10)), .bl (decide (i = 11)), .bl (decide (i = 12)), .bl (decide (i = 13)), .bl (decide (i = 14)), .bl (decide (i = 15)), .bl (decide (i = 16)), .bl (decide (i = 17)), .bl (decide (i = 18)), .bl (decide (i = 19))] ++ [.bl (decide (i = 20)), .bl (decide (i = 21)), .bl (decide (i = 22)), .bl (decide (i = 23))])) np6)
    have s6 := b6
    have h6 : (upd (upd H5 l6 (.lst [.bl (decide (i = 20)), .bl (decide (i = 21)), .bl (decide (i = 22)), .bl (decide (i = 23))])) p6 (.lst ([.bl (decide (i = 0)), .bl (decide (i = 1)), .bl (decide (i = 2)), .bl (decide (i = 3)), .bl (decide (i = 4)), .bl (decide (i = 5)), .bl (decide (i = 6)), .bl (decide (i = 7)), .bl (decide (i = 8)), .bl (decide (i = 9)), .bl (decide (i = 10)), .bl (decide (i = 11)), .bl (decide (i = 12)), .bl (decide (i = 13)), .bl (decide (i = 14)), .bl (decide (i = 15)), .bl (decide (i = 16)), .bl (decide (i = 17)), .bl (decide (i = 18)), .bl (decide (i = 19))] ++ [.bl (decide (i = 20)), .bl (decide (i = 21)), .bl (decide (i = 22)), .bl (decide (i = 23))]))) p6 = some (.lst [.bl (decide (i = 0)), .bl (decide (i = 1)), .bl (decide (i = 2)), .bl (decide (i = 3)), .bl (decide (i = 4)), .bl (decide (i = 5)), .bl (decide (i = 6)), .bl (decide (i = 7)), .bl (decide (i = 8)), .bl (decide (i = 9)), .bl (decide (i = 10)), .bl (decide (i = 11)), .bl (decide (i = 12)), .bl (decide (i = 13)), .bl (decide (i = 14)), .bl (decide (i = 15)), .bl (decide (i = 16)), .bl (decide (i = 17)), .bl (decide (i = 18)), .bl (decide (i = 19)), .bl (decide (i = 20)), .bl (decide (i = 21)), .bl (decide (i = 22)), .bl (decide (i = 23))]) := upd_same
    clear b6 a6
    generalize upd (upd H5 l6 (.lst [.bl (decide (i = 20)), .bl (decide (i = 21)), .bl (decide (i = 22)), .bl (decide (i = 23))])) p6 (.lst ([.bl (decide (i = 0)), .bl (decide (i = 1)), .bl (decide (i = 2)), .bl (decide (i = 3)), .bl (decide (i = 4)), .bl (decide (i = 5)), .bl (decide (i = 6)), .bl (decide (i = 7)), .bl (decide (i = 8)), .bl (decide (i = 9)), .bl (decide (i = 10)), .bl (decide (i = 11)), .bl (decide (i = 12)), .bl (decide (i = 13)), .bl (decide (i = 14)), .bl (decide (i = 15)), .bl (decide (i = 16)), .bl (decide (i = 17)), .bl (decide (i = 18)), .bl (decide (i = 19))] ++ [.bl (decide (i = 20)), .bl (decide (i = 21)), .bl (decide (i = 22)), .bl (decide (i = 23))])) = H6 at *
    refine ⟨_, rfl, _, rfl, _, _, _, _, _, rfl, isE_keep s6 hx, Z.e i (by omega), (fun u r => r), Z.kit i hi 24 (by decide), _, rfl, _, _, _, _, _, rfl, isE_keep s6 hx, Z.e i (by omega), (fun u r => r), Z.kit i hi 25 (by decide), _, rfl, _, _, _, _, _, rfl, isE_keep s6 hx, Z.e i (by omega), (fun u r => r), Z.kit i hi 26 (by decide), _, rfl, _, _, _, _, _, rfl, isE_keep s6 hx, Z.e i (by omega), (fun u r => r), Z.kit i hi 27 (by decide), (by show 4 ≤ sizeLine; decide), fun l7 nl7 => ?_⟩
    have a7 := same_new (o := .lst [.bl (decide (i = 24)), .bl (decide (i = 25)), .bl (decide (i = 26)), .bl (decide (i = 27))]) nl7
    refine ⟨_, _, [.bl (decide (i = 0)), .bl (decide (i = 1)), .bl (decide (i = 2)), .bl (decide (i = 3)), .bl (decide (i = 4)), .bl (decide (i = 5)), .bl (decide (i = 6)), .bl (decide (i = 7)), .bl (decide (i = 8)), .bl (decide (i = 9)), .bl (decide (i = 10)), .bl (decide (i = 11)), .bl (decide (i = 12)), .bl (decide (i = 13)), .bl (decide (i = 14)), .bl (decide (i = 15)), .bl (decide (i = 16)), .bl (decide (i = 17)), .bl (decide (i = 18)), .bl (decide (i = 19)), .bl (decide (i = 20)), .bl (decide (i = 21)), .bl (decide (i = 22)), .bl (decide (i = 23))], _, rfl, rfl, a7 _ _ h6, upd_same, (by show 24 + 4 ≤ sizeLine; decide), fun p7 np7 => ?_⟩
    have b7 := (s6.trans a7).trans (same_new (o := .lst ([.bl (decide (i = 0)), .bl (decide (i = 1)), .bl (decide (i = 2)), .bl (decide (i = 3)), .bl (decide (i = 4)), .bl (decide (i = 5)), .bl (decide (i = 6)), .bl (decide (i = 7)), .bl (decide (i = 8)), .bl (decide (i = 9)), .bl (decide (i = 10)), .bl (decide (i = 11)), .bl (decide (i = 12)), .bl (decide (i = 13)), .bl (decide (i = 14)), .bl (decide (i = 15)), .bl (decide (i = 16)), .bl (decide (i = 17)), .bl (decide (i = 18)), .bl (decide (i = 19)), .bl (decide (i = 20)), .bl (decide (i = 21)), .bl (decide (i = 22)), .bl (decide (i = 23))] ++ [.bl (decide (i = 24)), .bl (decide (i = 25)), .bl (decide (i = 26)), .bl (decide (i = 27))])) np7)
    have s7 := b7
    have h7 : (upd (upd H6 l7 (.lst [.bl (decide (i = 24)), .bl (decide (i = 25)), .bl (decide (i = 26)), .bl (decide (i = 27))])) p7 (.lst ([.bl (decide (i = 0)), .bl (decide (i = 1)), .bl (decide (i = 2)), .bl (decide (i = 3)), .bl (decide (i = 4)), .bl (decide (i = 5)), .bl (decide (i = 6)), .bl (decide (i = 7)), .bl (decide (i = 8)), .bl (decide (i = 9)), .bl (decide (i = 10)), .bl (decide (i = 11)), .bl (decide (i = 12)), .bl (decide (i = 13)), .bl (decide (i = 14)), .bl (decide (i = 15)), .bl (decide (i = 16)), .bl (decide (i = 17)), .bl (decide (i = 18)), .bl (decide (i = 19)), .bl (decide (i = 20)), .bl (decide (i = 21)), .bl (decide (i = 22)), .bl (decide (i = 23))] ++ [.bl (decide (i = 24)), .bl (decide (i = 25)), .bl (decide (i = 26)), .bl (decide (i = 27))]))) p7 = some (.lst [.bl (decide (i = 0)), .bl (decide (i = 1)), .bl (decide (i = 2)), .bl (decide (i = 3)), .bl (decide (i = 4)), .bl (decide (i = 5)), .bl (decide (i = 6)), .bl (decide (i = 7)), .bl (decide (i = 8)), .bl (decide (i = 9)), .bl (decide (i = 10)), .bl (decide (i = 11)), .bl (decide (i = 12)), .bl (decide (i = 13)), .bl (decide (i = 14)), .bl (decide (i = 15)), .bl (decide (i = 16)), .bl (decide (i = 17)), .bl (decide (i = 18)), .bl (decide (i = 19)), .bl (decide (i = 20)), .bl (decide (i = 21)), .bl (decide (i = 22)), .bl (decide (i = 23)), .bl (decide (i = 24)), .bl (decide (i = 25)), .bl (decide (i = 26)), .bl (decide (i = 27))]) := upd_same
    clear b7 a7
    generalize upd (upd H6 l7 (.lst [.bl (decide (i = 24)), .bl (decide (i = 25)), .bl (decide (i = 26)), .bl (decide (i = 27))])) p7 (.lst ([.bl (decide (i = 0)), .bl (decide (i = 1)), .bl (decide (i = 2)), .bl (decide (i = 3)), .bl (decide (i = 4)), .bl (decide (i = 5)), .bl (decide (i = 6)), .bl (decide (i = 7)), .bl (decide (i = 8)), .bl (decide (i = 9)), .bl (decide (i = 10)), .bl (decide (i = 11)), .bl (decide (i = 12)), .bl (decide (i = 13)), .bl (decide (i = 14)), .bl (decide (i = 15)), .bl (decide (i = 16)), .bl (decide (i = 17)), .bl (decide (i = 18)), .bl (decide (i = 19)), .bl (decide (i = 20)), .bl (decide (i = 21)), .bl (decide (i = 22)), .bl (decide (i = 23))] ++ [.bl (decide (i = 24)), .bl (decide (i = 25)), .bl (decide (i = 26)), .bl (decide (i = 27))])) = H7 at *
    refine ⟨_, rfl, _, rfl, _, _, _, _, _, rfl, isE_keep s7 hx, Z.e i (by omega), (fun u r => r), Z.kit i hi 28 (by decide), (by show 1 ≤ sizeLine; decide), fun l8 nl8 => ?_⟩
    have a8 := same_new (o := .lst [.bl (decide (i = 28))]) nl8
    refine ⟨_, _, [.bl (decide (i = 0)), .bl (decide (i = 1)), .bl (decide (i = 2)), .bl (decide (i = 3)), .bl (decide (i = 4)), .bl (decide (i = 5)), .bl (decide (i = 6)), .bl (decide (i = 7)), .bl (decide (i = 8)), .bl (decide (i = 9)), .bl (decide (i = 10)), .bl (decide (i = 11)), .bl (decide (i = 12)), .bl (decide (i = 13)), .bl (decide (i = 14)), .bl (decide (i = 15)), .bl (decide (i = 16)), .bl (decide (i = 17)), .bl (decide (i = 18)), .bl (decide (i = 19)), .bl (decide (i = 20)), .bl (decide (i = 21)), .bl (decide (i = 22)), .bl (decide (i = 23)), .bl (decide (i = 24)), .bl (decide (i = 25)), .bl (decide (i = 26)), .bl (decide (i = 27))], _, rfl, rfl, a8 _ _ h7, upd_same, (by show 28 + 1 ≤ sizeLine; decide), fun p8 np8 => ?_⟩
    have b8 := (s7.trans a8).trans (same_new (o := .lst ([.bl (decide (i = 0)), .bl (decide (i = 1)), .bl (decide (i = 2)), .bl (decide (i = 3)), .bl (decide (i = 4)), .bl (decide (i = 5)), .bl (decide (i = 6)), .bl (decide (i = 7)), .bl (decide (i = 8)), .bl (decide (i = 9)), .bl (decide (i = 10)), .bl (decide (i = 11)), .bl (decide (i = 12)), .bl (decide (i = 13)), .bl (decide (i = 14)), .bl (decide (i = 15)), .bl (decide (i = 16)), .bl (decide (i = 17)), .bl (decide (i = 18)), .bl (decide (i = 19)), .bl (decide (i = 20)), .bl (decide (i = 21)), .bl (decide (i = 22)), .bl (decide (i = 23)), .bl (decide (i = 24)), .bl (decide (i = 25)), .bl (decide (i = 26)), .bl (decide (i = 27))] ++ [.bl (decide (i = 28))])) np8)
    have s8 := b8
    have h8 : (upd (upd H7 l8 (.lst [.bl (decide (i = 28))])) p8 (.lst ([.bl (decide (i = 0)), .bl (decide (i = 1)), .bl (decide (i = 2)), .bl (decide (i = 3)), .bl (decide (i = 4)), .bl (decide (i = 5)), .bl (decide (i = 6)), .bl (decide (i = 7)), .bl (decide (i = 8)), .bl (decide (i = 9)), .bl (decide (i = 10)), .bl (decide (i = 11)), .bl (decide (i = 12)), .bl (decide (i = 13)), .bl (decide (i = 14)), .bl (decide (i = 15)), .bl (decide (i = 16)), .bl (decide (i = 17)), .bl (decide (i = 18)), .bl (decide (i = 19)), .bl (decide (i = 20)), .bl (decide (i = 21)), .bl (decide (i = 22)), .bl (decide (i = 23)), .bl (decide (i = 24)), .bl (decide (i = 25)), .bl (decide (i = 26)), .bl (decide (i = 27))] ++ [.bl (decide (i = 28))]))) p8 = some (.lst [.bl (decide (i = 0)), .bl (decide (i = 1)), .bl (decide (i = 2)), .bl (decide (i = 3)), .bl (decide (i = 4)), .bl (decide (i = 5)), .bl (decide (i = 6)), .bl (decide (i = 7)), .bl (decide (i = 8)), .bl (decide (i = 9)), .bl (decide (i = 10)), .bl (decide (i = 11)), .bl (decide (i = 12)), .bl (decide (i = 13)), .bl (decide (i = 14)), .bl (decide (i = 15)), .bl (decide (i = 16)), .bl (decide (i = 17)), .bl (decide (i = 18)), .bl (decide (i = 19)), .bl (decide (i = 20)), .bl (decide (i = 21)), .bl (decide (i = 22)), .bl (decide (i = 23)), .bl (decide (i = 24)), .bl (decide (i = 25)), .bl (decide (i = 26)), .bl (decide (i = 27)), .bl (decide (i = 28))]) := upd_same
    clear b8 a8
    generalize upd (upd H7 l8 (.lst [.bl (decide (i = 28))])) p8 (.lst ([.bl (decide (i = 0)), .bl (decide (i = 1)), .bl (decide (i = 2)), .bl (decide (i = 3)), .bl (decide (i = 4)), .bl (decide (i = 5)), .bl (decide (i = 6)), .bl (decide (i = 7)), .bl (decide (i = 8)), .bl (decide (i = 9)), .bl (decide (i = 10)), .bl (decide (i = 11)), .bl (decide (i = 12)), .bl (decide (i = 13)), .bl (decide (i = 14)), .bl (decide (i = 15)), .bl (decide (i = 16)), .bl (decide (i = 17)), .bl (decide (i = 18)), .bl (decide (i = 19)), .bl (decide (i = 20)), .bl (decide (i = 21)), .bl (decide (i = 22)), .bl (decide (i = 23)), .bl (decide (i = 24)), .bl (decide (i = 25)), .bl (decide (i = 26)), .bl (decide (i = 27))] ++ [.bl (decide (i = 28))])) = H8 at *
    exact ⟨_, rfl, q _ _ s8 h8⟩
end
end K8
set_option Elab.async false
set_option linter.all false
set_option maxRecDepth 100000
set_option maxHeartbeats 4000000
namespace K8
open PySem PySem.Spec PyProof.Rows L2 XV
section
variable {P : Program} {w : World} {K : PySem.W.Frag} {mg : Str → Option Value} {base : Heap} {f : Addr} {fd : FuncData}
abbrev psNV : List Str := ["_law_number", "_law_value_here"]
theorem scMade : FnScope ["_law_number", "_law_value_here", "_law_makers", "_law_error"] ["_law_number", "_law_value_here"] (defScope sMade) := ⟨rfl, rfl, rfl, by decide +kernel, rfl, by decide +kernel, by decide +kernel⟩
def spMade (K : PySem.W.Frag) : Sp := fun vs H Q _ => ∃ (i : Nat) (v : V), vs = [.int i, v] ∧ i < 27 ∧ ∀ (H' : Hp) (x : V), Same H H' → Err H' x (CA K i) [(fl i, v)] → Q x H'
/-- what one of the four gives, ahead of the rest -/
theorem part_any {lo hi i : Nat} {v : V} {H : Hp} {Q : VK} (hi27 : i < 27) (h : ∀ (H' : Hp) (x : V), Same H H' → ((lo ≤ i ∧ i < hi) → Err H' x (CA K i) [(fl i, v)]) → (¬ (lo ≤ i ∧ i < hi) → x = .non) → Q x H') :
    spPart K lo hi [.int i, v] H Q E0 :=
  ⟨i, v, rfl, hi27, fun l1 l2 => rMk_of fun H' x sm er => h H' x sm (fun _ => er) fun z => absurd ⟨l1, l2⟩ z, fun z => h H .non (Same.refl H) (fun y => absurd y z) fun _ => rfl⟩
theorem err_some {H : Hp} {x : V} {C : Addr} {fs : List (Str × V)} (h : Err H x C fs) : x ≠ .non := by
  obtain ⟨a, d, e, _⟩ := h
  rw [e]
  intro z
  cases z
/-- the only value that is not None -/
theorem only_one {i : Nat} {x0 x1 x2 x3 : V} {H : Hp} {C : Addr} {fs : List (Str × V)} (h27 : i < 27) (r0 : (0 ≤ i ∧ i < 7) → Err H x0 C fs) (z0 : ¬ (0 ≤ i ∧ i < 7) → x0 = .non)
    (r1 : (7 ≤ i ∧ i < 14) → Err H x1 C fs) (z1 : ¬ (7 ≤ i ∧ i < 14) → x1 = .non) (r2 : (14 ≤ i ∧ i < 21) → Err H x2 C fs) (z2 : ¬ (14 ≤ i ∧ i < 21) → x2 = .non)
    (r3 : (21 ≤ i ∧ i < 27) → Err H x3 C fs) (z3 : ¬ (21 ≤ i ∧ i < 27) → x3 = .non) : ∃ x, [x0, x1, x2, x3].filter (fun v => !decide (v = .non)) = [x] ∧ Err H x C fs := by
  by_cases c0 : i < 7
  · have e1 := z1 (by omega)
    have e2 := z2 (by omega)
    have e3 := z3 (by omega)
    have er := r0 ⟨by omega, by omega⟩
    subst e1 e2 e3
    exact ⟨x0, by simp [err_some er], er⟩
  · have e0 := z0 (by omega)
    subst e0
    by_cases c1 : i < 14
    · have e2 := z2 (by omega)
      have e3 := z3 (by omega)
      have er := r1 ⟨by omega, by omega⟩
      subst e2 e3
      exact ⟨x1, by simp [err_some er], er⟩
    · have e1 := z1 (by omega)
      subst e1
      by_cases c2 : i < 21
      · have e3 := z3 (by omega)
        have er := r2 ⟨by omega, by omega⟩
        subst e3
        exact ⟨x2, by simp [err_some er], er⟩
      · have e2 := z2 (by omega)
        have er := r3 ⟨by omega, by omega⟩
        subst e2
        exact ⟨x3, by simp [err_some er], er⟩
theorem filter_more {xs : List V} {i : Nat} {x : V} (p : V → Bool) (h : xs[i]? = some x) : (xs.take (i + 1)).filter p = (xs.take i).filter p ++ (if p x = true then [x] else []) := by
  rw [List.take_add_one, h, List.filter_append]
  congr 1
  by_cases c : p x = true
  · rw [if_pos c]
    simp [c]
  · rw [if_neg c]
    simp [c]
theorem ok_law_made (F : FnP K "_law_made" sMade f fd) (o1 : Ok P w K mg base "_law_first" 3 psNV (spPart K 0 7)) (o2 : Ok P w K mg base "_law_second" 3 psNV (spPart K 7 14)) (o3 : Ok P w K mg base "_law_third" 3 psNV (spPart K 14 21)) (o4 : Ok P w K mg base "_law_fourth" 3 psNV (spPart K 21 27)) :
    FnOk P w K mg base CX0 4 f fd psNV (spMade K) := by
  have nd := scMade.nd
  refine F.ok scMade (fun vs H Q E h => ?_) (fun cdv A outer s H vs Q E hr h => ?_)
  · obtain ⟨i, v, rfl, _⟩ := h
    rfl
  · obtain ⟨i, v, rfl, hi, q⟩ := h
    have hr : Room 3 _ := hr
    refine ⟨_, PSs.nox (pss_cons (ps_set (i := 2) nd rfl (Or.inl rfl) (pe_lst (pa_cons (pe_callO o1 hr (by rfl) (pa_cons (pv 0) (pa_cons (pv 1) pa_nil))) (pa_cons (pe_callO o2 hr (by rfl) (pa_cons (pv 0) (pa_cons (pv 1) pa_nil))) (pa_cons (pe_callO o3 hr (by rfl) (pa_cons (pv 0) (pa_cons (pv 1) pa_nil))) (pa_cons (pe_callO o4 hr (by rfl) (pa_cons (pv 0) (pa_cons (pv 1) pa_nil))) pa_nil))))))
      (pss_one (ps_ret (pe_ix ix_list (pe_lc (own := [("_law_error", 3)]) (g := gName 3) (by rfl) nd (pi_list (pv 2)) (blkOk_by (N := ["_law_number", "_law_value_here", "_law_makers", "_law_error"]) (sc := defScope sMade) (own := [("_law_error", 3)]) (by decide +kernel)) (fun _ _ _ _ _ => pg_name (i := 3) nd rfl (Or.inl rfl)) (fun _ _ _ _ _ => pts_one (pt_cmp (pc_notN (pv 3)))) (fun _ _ _ _ _ => pv 3)) pe_int (fun _ _ => rfl))))), ?_⟩
    refine ⟨_, rfl, _, rfl, part_any hi fun H1 x0 s1 r0 z0 => ⟨_, rfl, _, rfl, part_any hi fun H2 x1 s2 r1 z1 => ⟨_, rfl, _, rfl, part_any hi fun H3 x2 s3 r2 z2 => ⟨_, rfl, _, rfl, part_any hi fun H4 x3 s4 r3 z3 => ?_⟩⟩⟩⟩
    refine ⟨(by show 4 ≤ sizeLine; decide), fun l nl => ?_⟩
    have s5 : Same H4 (upd H4 l (.lst [x0, x1, x2, x3])) := same_new nl
    have hl : (upd H4 l (.lst [x0, x1, x2, x3])) l = some (.lst [x0, x1, x2, x3]) := upd_same
    obtain ⟨x, ex, er⟩ := only_one (H := H4) (C := CA K i) (fs := [(fl i, v)]) hi (fun z => exo_keep ((s2.trans s3).trans s4) (r0 z)) z0 (fun z => exo_keep (s3.trans s4) (r1 z)) z1 (fun z => exo_keep s4 (r2 z)) z2 r3 z3
    have sH : Same H (upd H4 l (.lst [x0, x1, x2, x3])) := (((s1.trans s2).trans s3).trans s4).trans s5
    have er5 := exo_keep s5 er
    generalize upd H4 l (.lst [x0, x1, x2, x3]) = H5 at *
    refine ⟨.ref l, rfl, l, rfl, ⟨_, SqL.of hl⟩, fun D nD => lc_list (K := K) (a := l) (xs := [x0, x1, x2, x3]) (fun k H' => Same H5 H' ∧ H' D = some (.lst (([x0, x1, x2, x3].take k).filter fun v => !decide (v = .non)))) ⟨same_new nD, upd_same⟩ (fun k H' _ p => p.1.seq (SqL.of hl)) ?_ ?_⟩
    · rintro k y H' hk ⟨sm, hD⟩
      refine ⟨rfl, _, rfl, _, rfl, ?_⟩
      have fm := filter_more (fun v => !decide (v = V.non)) hk
      by_cases c : y = .non
      · subst c
        refine ⟨sm, ?_⟩
        rw [hD, fm]
        simp
      · have c2 : (!decide (y = V.non)) = true := by simp [c]
        show if (!decide (y = V.non)) = true then _ else _
        rw [if_pos c2]
        refine ⟨_, rfl, _, hD, ?_, fun b o e => ?_, ?_⟩
        · refine Nat.lt_of_le_of_lt (List.length_filter_le _ _) (Nat.lt_of_le_of_lt (List.length_take_le _ _) ?_)
          have : k < 4 := by
            have := (List.getElem?_eq_some_iff.mp hk).1
            simpa using this
          exact small1000 (by omega)
        · rw [upd_ne (ne_of_none (H := H5) e nD)]
          exact sm _ _ e
        · rw [upd_same, fm, if_pos c2]
    · rintro H' ⟨sm, hD⟩
      have hD2 : H' D = some (.lst [x]) := by
        rw [hD]
        have e4 : ([x0, x1, x2, x3].take [x0, x1, x2, x3].length) = [x0, x1, x2, x3] := rfl
        rw [e4, ex]
      exact ⟨D, _, 0, x, rfl, rfl, SqL.of hD2, rfl, q H' x (sH.trans sm) (exo_keep sm er5)⟩
end
end K8
set_option Elab.async false
set_option linter.all false
set_option maxRecDepth 100000
set_option maxHeartbeats 4000000
namespace K8
open PySem PySem.Spec PyProof.Rows L2 XV
section
variable {P : Program} {w : World} {K : PySem.W.Frag} {mg : Str → Option Value} {base : Heap} {f : Addr} {fd : FuncData}
theorem scEmpty : FnScope ["_law_found"] [] (defScope sEmpty) := ⟨rfl, rfl, rfl, by decide +kernel, rfl, by decide +kernel, by decide +kernel⟩
theorem scNamed : FnScope ["_law_value_here", "_law_found"] ["_law_value_here"] (defScope sNamed) := ⟨rfl, rfl, rfl, by decide +kernel, rfl, by decide +kernel, by decide +kernel⟩
def spEmpty : Sp := fun vs H Q _ => vs = [] ∧ ∀ (H' : Hp) (p : Addr), Same H H' → H' p = some (.lst (List.replicate 27 V.non)) → Q (.ref p) H'
def spNamed : Sp := fun vs H Q _ => ∃ v, vs = [v] ∧ ∀ (H' : Hp) (p : Addr), Same H H' → H' p = some (.lst (List.replicate 27 v)) → Q (.ref p) H'

theorem ok_law_empty (F : FnP K "_law_empty" sEmpty f fd) (Z : Cl P w K mg base) : FnOk P w K mg base CX0 3 f fd [] spEmpty := by
  have nd := scEmpty.nd
  refine F.ok scEmpty (fun vs H Q E h => ?_) (fun cdv A outer s H vs Q E hr h => ?_)
  · obtain ⟨rfl, _⟩ := h
    rfl
  · obtain ⟨rfl, q⟩ := h
    have hr : Room 2 _ := hr
    obtain ⟨fI0, fd0, T0⟩ := Z.x 0 (by decide)
    have T0 : XCls P w K mg base "InvalidNumber" "value" (CA K 0) fI0 fd0 := T0
    obtain ⟨fI1, fd1, T1⟩ := Z.x 1 (by decide)
    have T1 : XCls P w K mg base "InvalidWord" "value" (CA K 1) fI1 fd1 := T1
    obtain ⟨fI2, fd2, T2⟩ := Z.x 2 (by decide)
    have T2 : XCls P w K mg base "InvalidForm" "value" (CA K 2) fI2 fd2 := T2
    obtain ⟨fI3, fd3, T3⟩ := Z.x 3 (by decide)
    have T3 : XCls P w K mg base "InvalidPoint" "value" (CA K 3) fI3 fd3 := T3
    obtain ⟨fI4, fd4, T4⟩ := Z.x 4 (by decide)
    have T4 : XCls P w K mg base "InvalidPieces" "value" (CA K 4) fI4 fd4 := T4
    obtain ⟨fI5, fd5, T5⟩ := Z.x 5 (by decide)
    have T5 : XCls P w K mg base "InvalidList" "value" (CA K 5) fI5 fd5 := T5
    obtain ⟨fI6, fd6, T6⟩ := Z.x 6 (by decide)
    have T6 : XCls P w K mg base "InvalidLines" "value" (CA K 6) fI6 fd6 := T6
    obtain ⟨fI7, fd7, T7⟩ := Z.x 7 (by decide)
    have T7 : XCls P w K mg base "InvalidPlace" "value" (CA K 7) fI7 fd7 := T7
    obtain ⟨fI8, fd8, T8⟩ := Z.x 8 (by decide)
    have T8 : XCls P w K mg base "InvalidAmount" "value" (CA K 8) fI8 fd8 := T8
    obtain ⟨fI9, fd9, T9⟩ := Z.x 9 (by decide)
    have T9 : XCls P w K mg base "InvalidStep" "value" (CA K 9) fI9 fd9 := T9
    obtain ⟨fI10, fd10, T10⟩ := Z.x 10 (by decide)
    have T10 : XCls P w K mg base "InvalidWay" "value" (CA K 10) fI10 fd10 := T10
    obtain ⟨fI11, fd11, T11⟩ := Z.x 11 (by decide)
    have T11 : XCls P w K mg base "InvalidDeed" "value" (CA K 11) fI11 fd11 := T11
    obtain ⟨fI12, fd12, T12⟩ := Z.x 12 (by decide)
    have T12 : XCls P w K mg base "InvalidFlag" "value" (CA K 12) fI12 fd12 := T12
    obtain ⟨fI13, fd13, T13⟩ := Z.x 13 (by decide)
    have T13 : XCls P w K mg base "InvalidText" "value" (CA K 13) fI13 fd13 := T13
    obtain ⟨fI14, fd14, T14⟩ := Z.x 14 (by decide)
    have T14 : XCls P w K mg base "InvalidGrid" "value" (CA K 14) fI14 fd14 := T14
    obtain ⟨fI15, fd15, T15⟩ := Z.x 15 (by decide)
    have T15 : XCls P w K mg base "InvalidSet" "value" (CA K 15) fI15 fd15 := T15
    obtain ⟨fI16, fd16, T16⟩ := Z.x 16 (by decide)
    have T16 : XCls P w K mg base "InvalidTable" "value" (CA K 16) fI16 fd16 := T16
    obtain ⟨fI17, fd17, T17⟩ := Z.x 17 (by decide)
    have T17 : XCls P w K mg base "InvalidAutomaton" "value" (CA K 17) fI17 fd17 := T17
    obtain ⟨fI18, fd18, T18⟩ := Z.x 18 (by decide)
    have T18 : XCls P w K mg base "InvalidMaker" "value" (CA K 18) fI18 fd18 := T18
    obtain ⟨fI19, fd19, T19⟩ := Z.x 19 (by decide)
    have T19 : XCls P w K mg base "InvalidProgram" "value" (CA K 19) fI19 fd19 := T19
    obtain ⟨fI20, fd20, T20⟩ := Z.x 20 (by decide)
    have T20 : XCls P w K mg base "InvalidWorkshop" "value" (CA K 20) fI20 fd20 := T20
    obtain ⟨fI21, fd21, T21⟩ := Z.x 21 (by decide)
    have T21 : XCls P w K mg base "InvalidPiece" "value" (CA K 21) fI21 fd21 := T21
    obtain ⟨fI22, fd22, T22⟩ := Z.x 22 (by decide)
    have T22 : XCls P w K mg base "Unlike" "value" (CA K 22) fI22 fd22 := T22
    obtain ⟨fI23, fd23, T23⟩ := Z.x 23 (by decide)
    have T23 : XCls P w K mg base "TooLong" "value" (CA K 23) fI23 fd23 := T23
    obtain ⟨fI24, fd24, T24⟩ := Z.x 24 (by decide)
    have T24 : XCls P w K mg base "TooMany" "value" (CA K 24) fI24 fd24 := T24
    obtain ⟨fI25, fd25, T25⟩ := Z.x 25 (by decide)
    have T25 : XCls P w K mg base "UnknownPart" "value" (CA K 25) fI25 fd25 := T25
    obtain ⟨fI26, fd26, T26⟩ := Z.x 26 (by decide)
    have T26 : XCls P w K mg base "OpenInOpen" "place" (CA K 26) fI26 fd26 := T26
    refine ⟨_, PSs.nox (pss_cons (ps_set (i := 0) nd rfl (Or.inl rfl) (pe_lst pa_nil))
 (pss_cons (ps_set (i := 0) nd rfl (Or.inl rfl) (pe_op op_cat (pv 0) (pe_lst (pa_cons (pe_xget (pe_mk0 T0 hr (by rfl))) (pa_cons (pe_xget (pe_mk0 T1 hr (by rfl))) (pa_cons (pe_xget (pe_mk0 T2 hr (by rfl))) (pa_cons (pe_xget (pe_mk0 T3 hr (by rfl))) (pa_cons (pe_xget (pe_mk0 T4 hr (by rfl))) pa_nil))))))))
 (pss_cons (ps_set (i := 0) nd rfl (Or.inl rfl) (pe_op op_cat (pv 0) (pe_lst (pa_cons (pe_xget (pe_mk0 T5 hr (by rfl))) (pa_cons (pe_xget (pe_mk0 T6 hr (by rfl))) (pa_cons (pe_xget (pe_mk0 T7 hr (by rfl))) (pa_cons (pe_xget (pe_mk0 T8 hr (by rfl))) (pa_cons (pe_xget (pe_mk0 T9 hr (by rfl))) pa_nil))))))))
 (pss_cons (ps_set (i := 0) nd rfl (Or.inl rfl) (pe_op op_cat (pv 0) (pe_lst (pa_cons (pe_xget (pe_mk0 T10 hr (by rfl))) (pa_cons (pe_xget (pe_mk0 T11 hr (by rfl))) (pa_cons (pe_xget (pe_mk0 T12 hr (by rfl))) (pa_cons (pe_xget (pe_mk0 T13 hr (by rfl))) (pa_cons (pe_xget (pe_mk0 T14 hr (by rfl))) pa_nil))))))))
 (pss_cons (ps_set (i := 0) nd rfl (Or.inl rfl) (pe_op op_cat (pv 0) (pe_lst (pa_cons (pe_xget (pe_mk0 T15 hr (by rfl))) (pa_cons (pe_xget (pe_mk0 T16 hr (by rfl))) (pa_cons (pe_xget (pe_mk0 T17 hr (by rfl))) (pa_cons (pe_xget (pe_mk0 T18 hr (by rfl))) (pa_cons (pe_xget (pe_mk0 T19 hr (by rfl))) pa_nil))))))))
 (pss_cons (ps_set (i := 0) nd rfl (Or.inl rfl) (pe_op op_cat (pv 0) (pe_lst (pa_cons (pe_xget (pe_mk0 T20 hr (by rfl))) (pa_cons (pe_xget (pe_mk0 T21 hr (by rfl))) (pa_cons (pe_xget (pe_mk0 T22 hr (by rfl))) (pa_cons (pe_xget (pe_mk0 T23 hr (by rfl))) (pa_cons (pe_xget (pe_mk0 T24 hr (by rfl))) pa_nil))))))))
 (pss_cons (ps_set (i := 0) nd rfl (Or.inl rfl) (pe_op op_cat (pv 0) (pe_lst (pa_cons (pe_xget (pe_mk0 T25 hr (by rfl))) pa_nil))))
 (pss_one (ps_ret (pe_op op_cat (pv 0) (pe_lst (pa_cons (pe_xget (pe_mk0 T26 hr (by rfl))) pa_nil)))))))))))), ?_⟩
    refine ⟨Nat.zero_le _, fun p0 np0 => ?_⟩
    have s0 : Same H (upd H p0 (.lst [])) := same_new np0
    have h0 : (upd H p0 (.lst [])) p0 = some (.lst []) := upd_same
    generalize upd H p0 (.lst []) = H0 at *
    refine ⟨_, rfl, rMk_of fun A0 y0 t0 r0 => ⟨_, _, _, r0, Z.f 0 (by decide), look1 _ _, rMk_of fun A1 y1 t1 r1 => ⟨_, _, _, r1, Z.f 1 (by decide), look1 _ _, rMk_of fun A2 y2 t2 r2 => ⟨_, _, _, r2, Z.f 2 (by decide), look1 _ _, rMk_of fun A3 y3 t3 r3 => ⟨_, _, _, r3, Z.f 3 (by decide), look1 _ _, rMk_of fun A4 y4 t4 r4 => ⟨_, _, _, r4, Z.f 4 (by decide), look1 _ _, (by show 5 ≤ sizeLine; decide), fun l1 nl1 => ⟨_, _, [], _, rfl, rfl, (((((t0.trans t1).trans t2).trans t3).trans t4).trans (same_new nl1)) _ _ h0, upd_same, (by show 0 + 5 ≤ sizeLine; decide), fun p1 np1 => ?_⟩⟩⟩⟩⟩⟩⟩
    have s1 := ((((((s0.trans t0).trans t1).trans t2).trans t3).trans t4).trans (same_new (o := .lst [V.non, V.non, V.non, V.non, V.non]) nl1)).trans (same_new (o := .lst ([] ++ [V.non, V.non, V.non, V.non, V.non])) np1)
    have h1 : (upd (upd A4 l1 (.lst [V.non, V.non, V.non, V.non, V.non])) p1 (.lst ([] ++ [V.non, V.non, V.non, V.non, V.non]))) p1 = some (.lst [V.non, V.non, V.non, V.non, V.non]) := upd_same
    generalize upd (upd A4 l1 (.lst [V.non, V.non, V.non, V.non, V.non])) p1 (.lst ([] ++ [V.non, V.non, V.non, V.non, V.non])) = H1 at *
    refine ⟨_, rfl, rMk_of fun A5 y5 t5 r5 => ⟨_, _, _, r5, Z.f 5 (by decide), look1 _ _, rMk_of fun A6 y6 t6 r6 => ⟨_, _, _, r6, Z.f 6 (by decide), look1 _ _, rMk_of fun A7 y7 t7 r7 => ⟨_, _, _, r7, Z.f 7 (by decide), look1 _ _, rMk_of fun A8 y8 t8 r8 => ⟨_, _, _, r8, Z.f 8 (by decide), look1 _ _, rMk_of fun A9 y9 t9 r9 => ⟨_, _, _, r9, Z.f 9 (by decide), look1 _ _, (by show 5 ≤ sizeLine; decide), fun l2 nl2 => ⟨_, _, [V.non, V.non, V.non, V.non, V.non], _, rfl, rfl, (((((t5.trans t6).trans t7).trans t8).trans t9).trans (same_new nl2)) _ _ h1, upd_same, (by show 5 + 5 ≤ sizeLine; decide), fun p2 np2 => ?_⟩⟩⟩⟩⟩⟩⟩
    have s2 := ((((((s1.trans t5).trans t6).trans t7).trans t8).trans t9).trans (same_new (o := .lst [V.non, V.non, V.non, V.non, V.non]) nl2)).trans (same_new (o := .lst ([V.non, V.non, V.non, V.non, V.non] ++ [V.non, V.non, V.non, V.non, V.non])) np2)
    have h2 : (upd (upd A9 l2 (.lst [V.non, V.non, V.non, V.non, V.non])) p2 (.lst ([V.non, V.non, V.non, V.non, V.non] ++ [V.non, V.non, V.non, V.non, V.non]))) p2 = some (.lst [V.non, V.non, V.non, V.non, V.non, V.non, V.non, V.non, V.non, V.non]) := upd_same
    generalize upd (upd A9 l2 (.lst [V.non, V.non, V.non, V.non, V.non])) p2 (.lst ([V.non, V.non, V.non, V.non, V.non] ++ [V.non, V.non, V.non, V.non, V.non])) = H2 at *
    refine ⟨_, rfl, rMk_of fun A10 y10 t10 r10 => ⟨_, _, _, r10, Z.f 10 (by decide), look1 _ _, rMk_of fun A11 y11 t11 r11 => ⟨_, _, _, r11, Z.f 11 (by decide), look1 _ _, rMk_of fun A12 y12 t12 r12 => ⟨_, _, _, r12, Z.f 12 (by decide), look1 _ _, rMk_of fun A13 y13 t13 r13 => ⟨_, _, _, r13, Z.f 13 (by decide), look1 _ _, rMk_of fun A14 y14 t14 r14 => ⟨_, _, _, r14, Z.f 14 (by decide), look1 _ _, (by show 5 ≤ sizeLine; decide), fun l3 nl3 => ⟨_, _, [V.non, V.non, V.non, V.non, V.non, V.non, V.non, V.non, V.non, V.non], _, rfl, rfl, (((((t10.trans t11).trans t12).trans t13).trans t14).trans (same_new nl3)) _ _ h2, upd_same, (by show 10 + 5 ≤ sizeLine; decide), fun p3 np3 => ?_⟩⟩⟩⟩⟩⟩⟩
    have s3 := ((((((s2.trans t10).trans t11).trans t12).trans t13).trans t14).trans (same_new (o := .lst [V.non, V.non, V.non, V.non, V.non]) nl3)).trans (same_new (o := .lst ([V.non, V.non, V.non, V.non, V.non, V.non, V.non, V.non, V.non, V.non] ++ [V.non, V.non, V.non, V.non, V.non])) np3)
    have h3 : (upd (upd A14 l3 (.lst [V.non, V.non, V.non, V.non, V.non])) p3 (.lst ([V.non, V.non, V.non, V.non, V.non, V.non, V.non, V.non, V.non, V.non] ++ [V.non, V.non, V.non, V.non, V.non]))) p3 = some (.lst [V.non, V.non, V.non, V.non, V.non, V.non, V.non, V.non, V.non, V.non, V.non, V.non, V.non, V.non, V.non]) := upd_same
    generalize upd (upd A14 l3 (.lst [V.non, V.non, V.non, V.non, V.non])) p3 (.lst ([V.non, V.non, V.non, V.non, V.non, V.non, V.non, V.non, V.non, V.non] ++ [V.non, V.non, V.non, V.non, V.non])) = H3 at *
    refine ⟨_, rfl, rMk_of fun A15 y15 t15 r15 => ⟨_, _, _, r15, Z.f 15 (by decide), look1 _ _, rMk_of fun A16 y16 t16 r16 => ⟨_, _, _, r16, Z.f 16 (by decide), look1 _ _, rMk_of fun A17 y17 t17 r17 => ⟨_, _, _, r17, Z.f 17 (by decide), look1 _ _, rMk_of fun A18 y18 t18 r18 => ⟨_, _, _, r18, Z.f 18 (by decide), look1 _ _, rMk_of fun A19 y19 t19 r19 => ⟨_, _, _, r19, Z.f 19 (by decide), look1 _ _, (by show 5 ≤ sizeLine; decide), fun l4 nl4 => ⟨_, _, [V.non, V.non, V.non, V.non, V.non, V.non, V.non, V.non, V.non, V.non, V.non, V.non, V.non, V.non, V.non], _, rfl, rfl, (((((t15.trans t16).trans t17).trans t18).trans t19).trans (same_new nl4)) _ _ h3, upd_same, (by show 15 + 5 ≤ sizeLine; decide), fun p4 np4 => ?_⟩⟩⟩⟩⟩⟩⟩
    have s4 := ((((((s3.trans t15).trans t16).trans t17).trans t18).trans t19).trans (same_new (o := .lst [V.non, V.non, V.non, V.non, V.non]) nl4)).trans (same_new (o := .lst ([V.non, V.non, V.non, V.non, V.non, V.non, V.non, V.non, V.non, V.non, V.non, V.non, V.non, V.non, V.non] ++ [V.non, V.non, V.non, V.non, V.non])) np4)
    have h4 : (upd (upd A19 l4 (.lst [V.non, V.non, V.non, V.non, V.non])) p4 (.lst ([V.non, V.non, V.non, V.non, V.non, V.non, V.non, V.non, V.non, V.non, V.non, V.non, V.non, V.non, V.non] ++ [V.non, V.non, V.non, V.non, V.non]))) p4 = some (.lst [V.non, V.non, V.non, V.non, V.non, V.non, V.non, V.non, V.non, V.non, V.non, V.non, V.non, V.non, V.non, V.non, V.non, V.non, V.non, V.non]) := upd_same
    generalize upd (upd A19 l4 (.lst [V.non, V.non, V.non, V.non, V.non])) p4 (.lst ([V.non, V.non, V.non, V.non, V.non, V.non, V.non, V.non, V.non, V.non, V.non, V.non, V.non, V.non, V.non] ++ [V.non, V.non, V.non, V.non, V.non])) = H4 at *
    refine ⟨_, rfl, rMk_of fun A20 y20 t20 r20 => ⟨_, _, _, r20, Z.f 20 (by decide), look1 _ _, rMk_of fun A21 y21 t21 r21 => ⟨_, _, _, r21, Z.f 21 (by decide), look1 _ _, rMk_of fun A22 y22 t22 r22 => ⟨_, _, _, r22, Z.f 22 (by decide), look1 _ _, rMk_of fun A23 y23 t23 r23 => ⟨_, _, _, r23, Z.f 23 (by decide), look1 _ _, rMk_of fun A24 y24 t24 r24 => ⟨_, _, _, r24, Z.f 24 (by decide), look1 _ _, (by show 5 ≤ sizeLine; decide), fun l5 nl5 => ⟨_, _, [V.non, V.non, V.non, V.non, V.non, V.non, V.non, V.non, V.non, V.non, V.non, V.non, V.non, V.non, V.non, V.non, V.non, V.non, V.non, V.non], _, rfl, rfl, (((((t20.trans t21).trans t22).trans t23).trans t24).trans (same_new nl5)) _ _ h4, upd_same, (by show 20 + 5 ≤ sizeLine; decide), fun p5 np5 => ?_⟩⟩⟩⟩⟩⟩⟩
    have s5 := ((((((s4.trans t20).trans t21).trans t22).trans t23).trans t24).trans (same_new (o := .lst [V.non, V.non, V.non, V.non, V.non]) nl5)).trans (same_new (o := .lst ([V.non, V.non, V.non, V.non, V.non, V.non, V.non, V.non, V.non, V.non, V.non, V.non, V.non, V.non, V.non, V.non, V.non, V.non, V.non, V.non] ++ [V.non, V.non, V.non, V.non, V.non])) np5)
    have h5 : (upd (upd A24 l5 (.lst [V.non, V.non, V.non, V.non, V.non])) p5 (.lst ([V.non, V.non, V.non, V.non, V.non, V.non, V.non, V.non, V.non, V.non, V.non, V.non, V.non, V.non, V.non, V.non, V.non, V.non, V.non, V.non] ++ [V.non, V.non, V.non, V.non, V.non]))) p5 = some (.lst [V.non, V.non, V.non, V.non, V.non, V.non, V.non, V.non, V.non, V.non, V.non, V.non, V.non, V.non, V.non, V.non, V.non, V.non, V.non, V.non, V.non, V.non, V.non, V.non, V.non]) := upd_same
    generalize upd (upd A24 l5 (.lst [V.non, V.non, V.non, V.non, V.non])) p5 (.lst ([V.non, V.non, V.non, V.non, V.non, V.non, V.non, V.non, V.non, V.non, V.non, V.non, V.non, V.non, V.non, V.non, V.non, V.non, V.non, V.non] ++ [V.non, V.non, V.non, V.non, V.non])) = H5 at *
    refine ⟨_, rfl, rMk_of fun A25 y25 t25 r25 => ⟨_, _, _, r25, Z.f 25 (by decide), look1 _ _, (by show 1 ≤ sizeLine; decide), fun l6 nl6 => ⟨_, _, [V.non, V.non, V.non, V.non, V.non, V.non, V.non, V.non, V.non, V.non, V.non, V.non, V.non, V.non, V.non, V.non, V.non, V.non, V.non, V.non, V.non, V.non, V.non, V.non, V.non], _, rfl, rfl, (t25.trans (same_new nl6)) _ _ h5, upd_same, (by show 25 + 1 ≤ sizeLine; decide), fun p6 np6 => ?_⟩⟩⟩
    have s6 := ((s5.trans t25).trans (same_new (o := .lst [V.non]) nl6)).trans (same_new (o := .lst ([V.non, V.non, V.non, V.non, V.non, V.non, V.non, V.non, V.non, V.non, V.non, V.non, V.non, V.non, V.non, V.non, V.non, V.non, V.non, V.non, V.non, V.non, V.non, V.non, V.non] ++ [V.non])) np6)
    have h6 : (upd (upd A25 l6 (.lst [V.non])) p6 (.lst ([V.non, V.non, V.non, V.non, V.non, V.non, V.non, V.non, V.non, V.non, V.non, V.non, V.non, V.non, V.non, V.non, V.non, V.non, V.non, V.non, V.non, V.non, V.non, V.non, V.non] ++ [V.non]))) p6 = some (.lst [V.non, V.non, V.non, V.non, V.non, V.non, V.non, V.non, V.non, V.non, V.non, V.non, V.non, V.non, V.non, V.non, V.non, V.non, V.non, V.non, V.non, V.non, V.non, V.non, V.non, V.non]) := upd_same
    generalize upd (upd A25 l6 (.lst [V.non])) p6 (.lst ([V.non, V.non, V.non, V.non, V.non, V.non, V.non, V.non, V.non, V.non, V.non, V.non, V.non, V.non, V.non, V.non, V.non, V.non, V.non, V.non, V.non, V.non, V.non, V.non, V.non] ++ [V.non])) = H6 at *
    refine ⟨_, rfl, rMk_of fun A26 y26 t26 r26 => ⟨_, _, _, r26, Z.f 26 (by decide), look1 _ _, (by show 1 ≤ sizeLine; decide), fun l7 nl7 => ⟨_, _, [V.non, V.non, V.non, V.non, V.non, V.non, V.non, V.non, V.non, V.non, V.non, V.non, V.non, V.non, V.non, V.non, V.non, V.non, V.non, V.non, V.non, V.non, V.non, V.non, V.non, V.non], _, rfl, rfl, (t26.trans (same_new nl7)) _ _ h6, upd_same, (by show 26 + 1 ≤ sizeLine; decide), fun p7 np7 => ?_⟩⟩⟩
    have s7 := ((s6.trans t26).trans (same_new (o := .lst [V.non]) nl7)).trans (same_new (o := .lst ([V.non, V.non, V.non, V.non, V.non, V.non, V.non, V.non, V.non, V.non, V.non, V.non, V.non, V.non, V.non, V.non, V.non, V.non, V.non, V.non, V.non, V.non, V.non, V.non, V.non, V.non] ++ [V.non])) np7)
    have h7 : (upd (upd A26 l7 (.lst [V.non])) p7 (.lst ([V.non, V.non, V.non, V.non, V.non, V.non, V.non, V.non, V.non, V.non, V.non, V.non, V.non, V.non, V.non, V.non, V.non, V.non, V.non, V.non, V.non, V.non, V.non, V.non, V.non, V.non] ++ [V.non]))) p7 = some (.lst [V.non, V.non, V.non, V.non, V.non, V.non, V.non, V.non, V.non, V.non, V.non, V.non, V.non, V.non, V.non, V.non, V.non, V.non, V.non, V.non, V.non, V.non, V.non, V.non, V.non, V.non, V.non]) := upd_same
    exact q _ _ s7 h7
theorem ok_law_named (F : FnP K "_law_named" sNamed f fd) (Z : Cl P w K mg base) : FnOk P w K mg base CX0 3 f fd ["_law_value_here"] spNamed := by
  have nd := scNamed.nd
  refine F.ok scNamed (fun vs H Q E h => ?_) (fun cdv A outer s H vs Q E hr h => ?_)
  · obtain ⟨v, rfl, _⟩ := h
    rfl
  · obtain ⟨v, rfl, q⟩ := h
    have hr : Room 2 _ := hr
    obtain ⟨fI0, fd0, T0⟩ := Z.x 0 (by decide)
    have T0 : XCls P w K mg base "InvalidNumber" "value" (CA K 0) fI0 fd0 := T0
    obtain ⟨fI1, fd1, T1⟩ := Z.x 1 (by decide)
    have T1 : XCls P w K mg base "InvalidWord" "value" (CA K 1) fI1 fd1 := T1
    obtain ⟨fI2, fd2, T2⟩ := Z.x 2 (by decide)
    have T2 : XCls P w K mg base "InvalidForm" "value" (CA K 2) fI2 fd2 := T2
    obtain ⟨fI3, fd3, T3⟩ := Z.x 3 (by decide)
    have T3 : XCls P w K mg base "InvalidPoint" "value" (CA K 3) fI3 fd3 := T3
    obtain ⟨fI4, fd4, T4⟩ := Z.x 4 (by decide)
    have T4 : XCls P w K mg base "InvalidPieces" "value" (CA K 4) fI4 fd4 := T4
    obtain ⟨fI5, fd5, T5⟩ := Z.x 5 (by decide)
    have T5 : XCls P w K mg base "InvalidList" "value" (CA K 5) fI5 fd5 := T5
    obtain ⟨fI6, fd6, T6⟩ := Z.x 6 (by decide)
    have T6 : XCls P w K mg base "InvalidLines" "value" (CA K 6) fI6 fd6 := T6
    obtain ⟨fI7, fd7, T7⟩ := Z.x 7 (by decide)
    have T7 : XCls P w K mg base "InvalidPlace" "value" (CA K 7) fI7 fd7 := T7
    obtain ⟨fI8, fd8, T8⟩ := Z.x 8 (by decide)
    have T8 : XCls P w K mg base "InvalidAmount" "value" (CA K 8) fI8 fd8 := T8
    obtain ⟨fI9, fd9, T9⟩ := Z.x 9 (by decide)
    have T9 : XCls P w K mg base "InvalidStep" "value" (CA K 9) fI9 fd9 := T9
    obtain ⟨fI10, fd10, T10⟩ := Z.x 10 (by decide)
    have T10 : XCls P w K mg base "InvalidWay" "value" (CA K 10) fI10 fd10 := T10
    obtain ⟨fI11, fd11, T11⟩ := Z.x 11 (by decide)
    have T11 : XCls P w K mg base "InvalidDeed" "value" (CA K 11) fI11 fd11 := T11
    obtain ⟨fI12, fd12, T12⟩ := Z.x 12 (by decide)
    have T12 : XCls P w K mg base "InvalidFlag" "value" (CA K 12) fI12 fd12 := T12
    obtain ⟨fI13, fd13, T13⟩ := Z.x 13 (by decide)
    have T13 : XCls P w K mg base "InvalidText" "value" (CA K 13) fI13 fd13 := T13
    obtain ⟨fI14, fd14, T14⟩ := Z.x 14 (by decide)
    have T14 : XCls P w K mg base "InvalidGrid" "value" (CA K 14) fI14 fd14 := T14
    obtain ⟨fI15, fd15, T15⟩ := Z.x 15 (by decide)
    have T15 : XCls P w K mg base "InvalidSet" "value" (CA K 15) fI15 fd15 := T15
    obtain ⟨fI16, fd16, T16⟩ := Z.x 16 (by decide)
    have T16 : XCls P w K mg base "InvalidTable" "value" (CA K 16) fI16 fd16 := T16
    obtain ⟨fI17, fd17, T17⟩ := Z.x 17 (by decide)
    have T17 : XCls P w K mg base "InvalidAutomaton" "value" (CA K 17) fI17 fd17 := T17
    obtain ⟨fI18, fd18, T18⟩ := Z.x 18 (by decide)
    have T18 : XCls P w K mg base "InvalidMaker" "value" (CA K 18) fI18 fd18 := T18
    obtain ⟨fI19, fd19, T19⟩ := Z.x 19 (by decide)
    have T19 : XCls P w K mg base "InvalidProgram" "value" (CA K 19) fI19 fd19 := T19
    obtain ⟨fI20, fd20, T20⟩ := Z.x 20 (by decide)
    have T20 : XCls P w K mg base "InvalidWorkshop" "value" (CA K 20) fI20 fd20 := T20
    obtain ⟨fI21, fd21, T21⟩ := Z.x 21 (by decide)
    have T21 : XCls P w K mg base "InvalidPiece" "value" (CA K 21) fI21 fd21 := T21
    obtain ⟨fI22, fd22, T22⟩ := Z.x 22 (by decide)
    have T22 : XCls P w K mg base "Unlike" "value" (CA K 22) fI22 fd22 := T22
    obtain ⟨fI23, fd23, T23⟩ := Z.x 23 (by decide)
    have T23 : XCls P w K mg base "TooLong" "value" (CA K 23) fI23 fd23 := T23
    obtain ⟨fI24, fd24, T24⟩ := Z.x 24 (by decide)
    have T24 : XCls P w K mg base "TooMany" "value" (CA K 24) fI24 fd24 := T24
    obtain ⟨fI25, fd25, T25⟩ := Z.x 25 (by decide)
    have T25 : XCls P w K mg base "UnknownPart" "value" (CA K 25) fI25 fd25 := T25
    obtain ⟨fI26, fd26, T26⟩ := Z.x 26 (by decide)
    have T26 : XCls P w K mg base "OpenInOpen" "place" (CA K 26) fI26 fd26 := T26
    refine ⟨_, PSs.nox (pss_cons (ps_set (i := 1) nd rfl (Or.inl rfl) (pe_lst pa_nil))
 (pss_cons (ps_set (i := 1) nd rfl (Or.inl rfl) (pe_op op_cat (pv 1) (pe_lst (pa_cons (pe_xget (pe_mkK T0 hr (by rfl) (pv 0))) (pa_cons (pe_xget (pe_mkK T1 hr (by rfl) (pv 0))) (pa_cons (pe_xget (pe_mkK T2 hr (by rfl) (pv 0))) (pa_cons (pe_xget (pe_mkK T3 hr (by rfl) (pv 0))) pa_nil)))))))
 (pss_cons (ps_set (i := 1) nd rfl (Or.inl rfl) (pe_op op_cat (pv 1) (pe_lst (pa_cons (pe_xget (pe_mkK T4 hr (by rfl) (pv 0))) (pa_cons (pe_xget (pe_mkK T5 hr (by rfl) (pv 0))) (pa_cons (pe_xget (pe_mkK T6 hr (by rfl) (pv 0))) (pa_cons (pe_xget (pe_mkK T7 hr (by rfl) (pv 0))) pa_nil)))))))
 (pss_cons (ps_set (i := 1) nd rfl (Or.inl rfl) (pe_op op_cat (pv 1) (pe_lst (pa_cons (pe_xget (pe_mkK T8 hr (by rfl) (pv 0))) (pa_cons (pe_xget (pe_mkK T9 hr (by rfl) (pv 0))) (pa_cons (pe_xget (pe_mkK T10 hr (by rfl) (pv 0))) (pa_cons (pe_xget (pe_mkK T11 hr (by rfl) (pv 0))) pa_nil)))))))
 (pss_cons (ps_set (i := 1) nd rfl (Or.inl rfl) (pe_op op_cat (pv 1) (pe_lst (pa_cons (pe_xget (pe_mkK T12 hr (by rfl) (pv 0))) (pa_cons (pe_xget (pe_mkK T13 hr (by rfl) (pv 0))) (pa_cons (pe_xget (pe_mkK T14 hr (by rfl) (pv 0))) (pa_cons (pe_xget (pe_mkK T15 hr (by rfl) (pv 0))) pa_nil)))))))
 (pss_cons (ps_set (i := 1) nd rfl (Or.inl rfl) (pe_op op_cat (pv 1) (pe_lst (pa_cons (pe_xget (pe_mkK T16 hr (by rfl) (pv 0))) (pa_cons (pe_xget (pe_mkK T17 hr (by rfl) (pv 0))) (pa_cons (pe_xget (pe_mkK T18 hr (by rfl) (pv 0))) (pa_cons (pe_xget (pe_mkK T19 hr (by rfl) (pv 0))) pa_nil)))))))
 (pss_cons (ps_set (i := 1) nd rfl (Or.inl rfl) (pe_op op_cat (pv 1) (pe_lst (pa_cons (pe_xget (pe_mkK T20 hr (by rfl) (pv 0))) (pa_cons (pe_xget (pe_mkK T21 hr (by rfl) (pv 0))) (pa_cons (pe_xget (pe_mkK T22 hr (by rfl) (pv 0))) (pa_cons (pe_xget (pe_mkK T23 hr (by rfl) (pv 0))) pa_nil)))))))
 (pss_cons (ps_set (i := 1) nd rfl (Or.inl rfl) (pe_op op_cat (pv 1) (pe_lst (pa_cons (pe_xget (pe_mkK T24 hr (by rfl) (pv 0))) (pa_cons (pe_xget (pe_mkK T25 hr (by rfl) (pv 0))) pa_nil)))))
 (pss_one (ps_ret (pe_op op_cat (pv 1) (pe_lst (pa_cons (pe_xget (pe_mkK T26 hr (by rfl) (pv 0))) pa_nil))))))))))))), ?_⟩
    refine ⟨Nat.zero_le _, fun p0 np0 => ?_⟩
    have s0 : Same H (upd H p0 (.lst [])) := same_new np0
    have h0 : (upd H p0 (.lst [])) p0 = some (.lst []) := upd_same
    generalize upd H p0 (.lst []) = H0 at *
    refine ⟨_, rfl, _, rfl, rMk_of fun A0 y0 t0 r0 => ⟨_, _, _, r0, Z.f 0 (by decide), look1 _ _, _, rfl, rMk_of fun A1 y1 t1 r1 => ⟨_, _, _, r1, Z.f 1 (by decide), look1 _ _, _, rfl, rMk_of fun A2 y2 t2 r2 => ⟨_, _, _, r2, Z.f 2 (by decide), look1 _ _, _, rfl, rMk_of fun A3 y3 t3 r3 => ⟨_, _, _, r3, Z.f 3 (by decide), look1 _ _, (by show 4 ≤ sizeLine; decide), fun l1 nl1 => ⟨_, _, [], _, rfl, rfl, ((((t0.trans t1).trans t2).trans t3).trans (same_new nl1)) _ _ h0, upd_same, (by show 0 + 4 ≤ sizeLine; decide), fun p1 np1 => ?_⟩⟩⟩⟩⟩⟩
    have s1 := (((((s0.trans t0).trans t1).trans t2).trans t3).trans (same_new (o := .lst [v, v, v, v]) nl1)).trans (same_new (o := .lst ([] ++ [v, v, v, v])) np1)
    have h1 : (upd (upd A3 l1 (.lst [v, v, v, v])) p1 (.lst ([] ++ [v, v, v, v]))) p1 = some (.lst [v, v, v, v]) := upd_same
    generalize upd (upd A3 l1 (.lst [v, v, v, v])) p1 (.lst ([] ++ [v, v, v, v])) = H1 at *
    refine ⟨_, rfl, _, rfl, rMk_of fun A4 y4 t4 r4 => ⟨_, _, _, r4, Z.f 4 (by decide), look1 _ _, _, rfl, rMk_of fun A5 y5 t5 r5 => ⟨_, _, _, r5, Z.f 5 (by decide), look1 _ _, _, rfl, rMk_of fun A6 y6 t6 r6 => ⟨_, _, _, r6, Z.f 6 (by decide), look1 _ _, _, rfl, rMk_of fun A7 y7 t7 r7 => ⟨_, _, _, r7, Z.f 7 (by decide), look1 _ _, (by show 4 ≤ sizeLine; decide), fun l2 nl2 => ⟨_, _, [v, v, v, v], _, rfl, rfl, ((((t4.trans t5).trans t6).trans t7).trans (same_new nl2)) _ _ h1, upd_same, (by show 4 + 4 ≤ sizeLine; decide), fun p2 np2 => ?_⟩⟩⟩⟩⟩⟩
    have s2 := (((((s1.trans t4).trans t5).trans t6).trans t7).trans (same_new (o := .lst [v, v, v, v]) nl2)).trans (same_new (o := .lst ([v, v, v, v] ++ [v, v, v, v])) np2)
    have h2 : (upd (upd A7 l2 (.lst [v, v, v, v])) p2 (.lst ([v, v, v, v] ++ [v, v, v, v]))) p2 = some (.lst [v, v, v, v, v, v, v, v]) := upd_same
    generalize upd (upd A7 l2 (.lst [v, v, v, v])) p2 (.lst ([v, v, v, v] ++ [v, v, v, v])) = H2 at *
    refine ⟨_, rfl, _, rfl, rMk_of fun A8 y8 t8 r8 => ⟨_, _, _, r8, Z.f 8 (by decide), look1 _ _, _, rfl, rMk_of fun A9 y9 t9 r9 => ⟨_, _, _, r9, Z.f 9 (by decide), look1 _ _, _, rfl, rMk_of fun A10 y10 t10 r10 => ⟨_, _, _, r10, Z.f 10 (by decide), look1 _ _, _, rfl, rMk_of fun A11 y11 t11 r11 => ⟨_, _, _, r11, Z.f 11 (by decide), look1 _ _, (by show 4 ≤ sizeLine; decide), fun l3 nl3 => ⟨_, _, [v, v, v, v, v, v, v, v], _, rfl, rfl, ((((t8.trans t9).trans t10).trans t11).trans (same_new nl3)) _ _ h2, upd_same, (by show 8 + 4 ≤ sizeLine; decide), fun p3 np3 => ?_⟩⟩⟩⟩⟩⟩
    have s3 := (((((s2.trans t8).trans t9).trans t10).trans t11).trans (same_new (o := .lst [v, v, v, v]) nl3)).trans (same_new (o := .lst ([v, v, v, v, v, v, v, v] ++ [v, v, v, v])) np3)
    have h3 : (upd (upd A11 l3 (.lst [v, v, v, v])) p3 (.lst ([v, v, v, v, v, v, v, v] ++ [v, v, v, v]))) p3 = some (.lst [v, v, v, v, v, v, v, v, v, v, v, v]) := upd_same
    generalize upd (upd A11 l3 (.lst [v, v, v, v])) p3 (.lst ([v, v, v, v, v, v, v, v] ++ [v, v, v, v])) = H3 at *
    refine ⟨_, rfl, _, rfl, rMk_of fun A12 y12 t12 r12 => ⟨_, _, _, r12, Z.f 12 (by decide), look1 _ _, _, rfl, rMk_of fun A13 y13 t13 r13 => ⟨_, _, _, r13, Z.f 13 (by decide), look1 _ _, _, rfl, rMk_of fun A14 y14 t14 r14 => ⟨_, _, _, r14, Z.f 14 (by decide), look1 _ _, _, rfl, rMk_of fun A15 y15 t15 r15 => ⟨_, _, _, r15, Z.f 15 (by decide), look1 _ _, (by show 4 ≤ sizeLine; decide), fun l4 nl4 => ⟨_, _, [v, v, v, v, v, v, v, v, v, v, v, v], _, rfl, rfl, ((((t12.trans t13).trans t14).trans t15).trans (same_new nl4)) _ _ h3, upd_same, (by show 12 + 4 ≤ sizeLine; decide), fun p4 np4 => ?_⟩⟩⟩⟩⟩⟩
    have s4 := (((((s3.trans t12).trans t13).trans t14).trans t15).trans (same_new (o := .lst [v, v, v, v]) nl4)).trans (same_new (o := .lst ([v, v, v, v, v, v, v, v, v, v, v, v] ++ [v, v, v, v])) np4)
    have h4 : (upd (upd A15 l4 (.lst [v, v, v, v])) p4 (.lst ([v, v, v, v, v, v, v, v, v, v, v, v] ++ [v, v, v, v]))) p4 = some (.lst [v, v, v, v, v, v, v, v, v, v, v, v, v, v, v, v]) := upd_same
    generalize upd (upd A15 l4 (.lst [v, v, v, v])) p4 (.lst ([v, v, v, v, v, v, v, v, v, v, v, v] ++ [v, v, v, v])) = H4 at *
    refine ⟨_, rfl, _, rfl, rMk_of fun A16 y16 t16 r16 => ⟨_, _, _, r16, Z.f 16 (by decide), look1 _ _, _, rfl, rMk_of fun A17 y17 t17 r17 => ⟨_, _, _, r17, Z.f 17 (by decide), look1 _ _, _, rfl, rMk_of fun A18 y18 t18 r18 => ⟨_, _, _, r18, Z.f 18 (by decide), look1 _ _, _, rfl, rMk_of fun A19 y19 t19 r19 => ⟨_, _, _, r19, Z.f 19 (by decide), look1 _ _, (by show 4 ≤ sizeLine; decide), fun l5 nl5 => ⟨_, _, [v, v, v, v, v, v, v, v, v, v, v, v, v, v, v, v], _, rfl, rfl, ((((t16.trans t17).trans t18).trans t19).trans (same_new nl5)) _ _ h4, upd_same, (by show 16 + 4 ≤ sizeLine; decide), fun p5 np5 => ?_⟩⟩⟩⟩⟩⟩
    have s5 := (((((s4.trans t16).trans t17).trans t18).trans t19).trans (same_new (o := .lst [v, v, v, v]) nl5)).trans (same_new (o := .lst ([v, v, v, v, v, v, v, v, v, v, v, v, v, v, v, v] ++ [v, v, v, v])) np5)
    have h5 : (upd (upd A19 l5 (.lst [v, v, v, v])) p5 (.lst ([v, v, v, v, v, v, v, v, v, v, v, v, v, v, v, v] ++ [v, v, v, v]))) p5 = some (.lst [v, v, v, v, v, v, v, v, v, v, v, v, v, v, v, v, v, v, v, v]) := upd_same
    generalize upd (upd A19 l5 (.lst [v, v, v, v])) p5 (.lst ([v, v, v, v, v, v, v, v, v, v, v, v, v, v, v, v] ++ [v, v, v, v])) = H5 at *
    refine ⟨_, rfl, _, rfl, rMk_of fun A20 y20 t20 r20 => ⟨_, _, _, r20, Z.f 20 (by decide), look1 _ _, _, rfl, rMk_of fun A21 y21 t21 r21 => ⟨_, _, _, r21, Z.f 21 (by decide), look1 _ _, _, rfl, rMk_of fun A22 y22 t22 r22 => ⟨_, _, _, r22, Z.f 22 (by decide), look1 _ _, _, rfl, rMk_of fun A23 y23 t23 r23 => ⟨_, _, _, r23, Z.f 23 (by decide), look1 _ _, (by show 4 ≤ sizeLine; decide), fun l6 nl6 => ⟨_, _, [v, v, v, v, v, v, v, v, v, v, v, v, v, v, v, v, v, v, v, v], _, rfl, rfl, ((((t20.trans t21).trans t22).trans t23).trans (same_new nl6)) _ _ h5, upd_same, (by show 20 + 4 ≤ sizeLine; decide), fun p6 np6 => ?_⟩⟩⟩⟩⟩⟩
    have s6 := (((((s5.trans t20).trans t21).trans t22).trans t23).trans (same_new (o := .lst [v, v, v, v]) nl6)).trans (same_new (o := .lst ([v, v, v, v, v, v, v, v, v, v, v, v, v, v, v, v, v, v, v, v] ++ [v, v, v, v])) np6)
    have h6 : (upd (upd A23 l6 (.lst [v, v, v, v])) p6 (.lst ([v, v, v, v, v, v, v, v, v, v, v, v, v, v, v, v, v, v, v, v] ++ [v, v, v, v]))) p6 = some (.lst [v, v, v, v, v, v, v, v, v, v, v, v, v, v, v, v, v, v, v, v, v, v, v, v]) := upd_same
    generalize upd (upd A23 l6 (.lst [v, v, v, v])) p6 (.lst ([v, v, v, v, v, v, v, v, v, v, v, v, v, v, v, v, v, v, v, v] ++ [v, v, v, v])) = H6 at *
    refine ⟨_, rfl, _, rfl, rMk_of fun A24 y24 t24 r24 => ⟨_, _, _, r24, Z.f 24 (by decide), look1 _ _, _, rfl, rMk_of fun A25 y25 t25 r25 => ⟨_, _, _, r25, Z.f 25 (by decide), look1 _ _, (by show 2 ≤ sizeLine; decide), fun l7 nl7 => ⟨_, _, [v, v, v, v, v, v, v, v, v, v, v, v, v, v, v, v, v, v, v, v, v, v, v, v], _, rfl, rfl, ((t24.trans t25).trans (same_new nl7)) _ _ h6, upd_same, (by show 24 + 2 ≤ sizeLine; decide), fun p7 np7 => ?_⟩⟩⟩⟩
    have s7 := (((s6.trans t24).trans t25).trans (same_new (o := .lst [v, v]) nl7)).trans (same_new (o := .lst ([v, v, v, v, v, v, v, v, v, v, v, v, v, v, v, v, v, v, v, v, v, v, v, v] ++ [v, v])) np7)
    have h7 : (upd (upd A25 l7 (.lst [v, v])) p7 (.lst ([v, v, v, v, v, v, v, v, v, v, v, v, v, v, v, v, v, v, v, v, v, v, v, v] ++ [v, v]))) p7 = some (.lst [v, v, v, v, v, v, v, v, v, v, v, v, v, v, v, v, v, v, v, v, v, v, v, v, v, v]) := upd_same
    generalize upd (upd A25 l7 (.lst [v, v])) p7 (.lst ([v, v, v, v, v, v, v, v, v, v, v, v, v, v, v, v, v, v, v, v, v, v, v, v] ++ [v, v])) = H7 at *
    refine ⟨_, rfl, _, rfl, rMk_of fun A26 y26 t26 r26 => ⟨_, _, _, r26, Z.f 26 (by decide), look1 _ _, (by show 1 ≤ sizeLine; decide), fun l8 nl8 => ⟨_, _, [v, v, v, v, v, v, v, v, v, v, v, v, v, v, v, v, v, v, v, v, v, v, v, v, v, v], _, rfl, rfl, (t26.trans (same_new nl8)) _ _ h7, upd_same, (by show 26 + 1 ≤ sizeLine; decide), fun p8 np8 => ?_⟩⟩⟩
    have s8 := ((s7.trans t26).trans (same_new (o := .lst [v]) nl8)).trans (same_new (o := .lst ([v, v, v, v, v, v, v, v, v, v, v, v, v, v, v, v, v, v, v, v, v, v, v, v, v, v] ++ [v])) np8)
    have h8 : (upd (upd A26 l8 (.lst [v])) p8 (.lst ([v, v, v, v, v, v, v, v, v, v, v, v, v, v, v, v, v, v, v, v, v, v, v, v, v, v] ++ [v]))) p8 = some (.lst [v, v, v, v, v, v, v, v, v, v, v, v, v, v, v, v, v, v, v, v, v, v, v, v, v, v, v]) := upd_same
    exact q _ _ s8 h8
end
end K8
set_option Elab.async false
set_option linter.all false
set_option maxRecDepth 100000
set_option maxHeartbeats 4000000
namespace K8
open PySem PySem.Spec PyProof.Rows L2 XV
/-! ### values that are drawn, and == of one with itself -/
mutual
theorem dp_keep {K : PySem.W.Frag} {H H' : Hp} (s : Same H H') : ∀ (d : PyData) (v : V), Dp K H v d → Dp K H' v d
  | .none, _, h => by
    cases h
    exact .non
  | .bool b, _, h => by
    cases h
    exact .bl b
  | .int i, _, h => by
    cases h
    exact .int i
  | .str x, _, h => by
    cases h
    exact .str x
  | .list ds, _, h => by
    cases h with
    | lst hs ha => exact .lst (s.seq hs) (dps_keep s ds _ ha)
  | .tuple ds, _, h => by
    cases h with
    | tup hs ha => exact .tup (SqT.ext hs s) (dps_keep s ds _ ha)
  | .dict _, _, h => by cases h
theorem dps_keep {K : PySem.W.Frag} {H H' : Hp} (s : Same H H') : ∀ (ds : List PyData) (vs : List V), DpAll K H vs ds → DpAll K H' vs ds
  | [], _, h => by
    cases h
    exact .nil
  | d :: ds, _, h => by
    cases h with
    | cons h1 h2 => exact .cons (dp_keep s d _ h1) (dps_keep s ds _ h2)
end
theorem dp_bools {K : PySem.W.Frag} {H : Hp} : ∀ bs : List Bool, DpAll K H (bs.map V.bl) (bs.map PyData.bool)
  | [] => .nil
  | b :: bs => .cons (.bl b) (dp_bools bs)
/-- an open text that stands at a: its pieces at l -/
def TxtAt (K : PySem.W.Frag) (CT : Addr) (H : Hp) (a : Addr) : Prop := ∃ dx l d, H a = some (.ins CT dx [("_pieces", .ref l), ("_many", .int 1)]) ∧ Dp K H (.ref l) d ∧ SeqAt.shaped d = true
theorem txt_keep {K : PySem.W.Frag} {CT : Addr} {H H' : Hp} (s : Same H H') {a : Addr} (h : TxtAt K CT H a) : TxtAt K CT H' a := by
  obtain ⟨dx, l, d, h1, h2, h3⟩ := h
  exact ⟨dx, l, d, s _ _ h1, dp_keep s d _ h2, h3⟩
def ValOk (K : PySem.W.Frag) (CT : Addr) (H : Hp) (v : V) : Prop := (∃ d, Dp K H v d ∧ SeqAt.shaped d = true) ∨ ∃ a, v = .ref a ∧ TxtAt K CT H a
theorem val_keep {K : PySem.W.Frag} {CT : Addr} {H H' : Hp} (s : Same H H') {v : V} (h : ValOk K CT H v) : ValOk K CT H' v := by
  rcases h with ⟨d, h1, h2⟩ | ⟨a, h1, h2⟩
  · exact .inl ⟨d, dp_keep s d _ h1, h2⟩
  · exact .inr ⟨a, h1, txt_keep s h2⟩
/-- two texts that are one object -/
def RT (K : PySem.W.Frag) (CT : Addr) : Addr → Addr → Hp → Prop := fun a b H => a = b ∧ TxtAt K CT H a
/-- what is known of the class of texts: its own == -/
structure EqOk (P : Program) (w : World) (K : PySem.W.Frag) (mg : Str → Option Value) (base : Heap) (CT : Addr) : Prop where
  ex : ∃ f fd ps, FnOk P w K mg base CX0 3 f fd ps (spEq (RT K CT)) ∧ PySem.W.findIn K (.ref CT) "__eq__" = some (some (.ref f)) ∧ PySem.W.isFn K (.ref f) = true ∧ Binds K fd ps []
def rV (K : PySem.W.Frag) (CT : Addr) : R2 := fun x y H Q => rEqD K x y H Q ∨ rEqG (DIns CT (RT K CT)) x y H Q
theorem op_V {X : Cx} {CT : Addr} (o : EqOk X.prog X.w X.K X.mg X.base CT) (hr : Room 3 X.A) : OpR X (compareOp .Eq) (rV X.K CT) := by
  obtain ⟨f, fd, ps, F, h1, h2, b⟩ := o.ex
  exact OpR.or (op_eqD hr.units) (op_eqG (rcG_ins (E := E0) F h1 h2 b pass0) hr)
theorem op_VK {X : Cx} {K : PySem.W.Frag} {CT : Addr} (e : X.K = K) (o : EqOk X.prog X.w X.K X.mg X.base CT) (hr : Room 3 X.A) : OpR X (compareOp .Eq) (rV K CT) := by
  subst e
  exact op_V o hr
/-- == of a value with itself -/
theorem eq_self {K : PySem.W.Frag} {CT : Addr} {H : Hp} {v : V} {Q : VK} (h : ValOk K CT H v) (q : ∀ H', Same H H' → Q (.bl true) H') : rV K CT v v H Q := by
  rcases h with ⟨d, h1, h2⟩ | ⟨a, h1, h2⟩
  · refine .inl ⟨d, d, h1, h1, h2, h2, ?_⟩
    rw [SeqAt.eqv_refl d (SeqAt.canLay_of_shaped h2)]
    exact q H (Same.refl H)
  · subst h1
    obtain ⟨dx, l, d, e, _⟩ := id h2
    exact .inr ⟨⟨a, a, dx, dx, _, _, rfl, rfl, e, e, rfl, h2⟩, fun H' e => q H' e⟩
end K8
set_option Elab.async false
set_option linter.all false
set_option maxRecDepth 100000
set_option maxHeartbeats 8000000
namespace K8
open PySem PySem.Spec PyProof.Rows L2 XV
abbrev sLaw : Stmt := top 74
abbrev nLaw : List Str := ["_law_script", "_law_generator_here", "_law_value_here", "_law_number", "_law_error", "_law_told", "_law_place", "_law_field"]
theorem scLaw : FnScope nLaw ["_law_script"] (defScope sLaw) := ⟨rfl, rfl, rfl, by decide +kernel, rfl, by decide +kernel, by decide +kernel⟩
def spValue (K : PySem.W.Frag) (CT : Addr) : Sp := fun vs H Q _ => ∃ (g : Addr) (n : Nat), vs = [.ref g] ∧ Dr H g n ∧ n ≤ 10000 ∧ ∀ (H' : Hp) (v : V), But H H' g → ValOk K CT H' v → Q v H'
def spLaw (K : PySem.W.Frag) : Sp := fun vs H Q _ => ∃ (a : Addr) (ns : List Int), vs = [.ref a] ∧ SqL K H a (ns.map V.int) ∧ ns.length ≤ 63 ∧ ∀ H', Q (.bl true) H'
def bits (i : Nat) : List Bool := (List.range 29).map fun j => decide (i = j)
theorem bits_dp {K : PySem.W.Frag} {H : Hp} {p : Addr} {i : Nat} (h : H p = some (.lst ((List.range 29).map fun j => V.bl (decide (i = j))))) : Dp K H (.ref p) (.list ((bits i).map PyData.bool)) := by
  refine .lst (SqL.of h) ?_
  have e : ((List.range 29).map fun j => V.bl (decide (i = j))) = (bits i).map V.bl := by
    unfold bits
    rw [List.map_map]
    rfl
  rw [e]
  exact dp_bools _
theorem bits_shaped : ∀ i, i < 29 → SeqAt.shaped (.list ((bits i).map PyData.bool)) = true := by decide +kernel
theorem same_place (k i : Nat) : decide (V.int (0 + (k : Int)) = V.int (i : Int)) = decide (i = k) := by
  by_cases e : i = k
  · subst e
    rw [Int.zero_add, decide_eq_true rfl, decide_eq_true rfl]
  · rw [decide_eq_false e, decide_eq_false]
    intro z
    have := V.int.inj z
    omega
theorem range_more (k i : Nat) : ((List.range (k + 1)).map fun j => V.bl (decide (i = j))) = ((List.range k).map fun j => V.bl (decide (i = j))) ++ [V.bl (decide (i = k))] := by
  rw [List.range_succ, List.map_append]
  rfl
section
variable {P : Program} {w : World} {K : PySem.W.Frag} {mg : Str → Option Value} {base : Heap} {f : Addr} {fd : FuncData} {CT : Addr} {kv : Nat}
theorem ok_law (F : FnP K "law" sLaw f fd) (Z : Cl P w K mg base) (EQ : EqOk P w K mg base CT) (zI : mg "isinstance" = none) (zR : mg "range" = none) (zV : mg "ValueError" = none)
    (oGen : Ok P w K mg base "_law_generator" 1 ["_law_script", "_law_index"] (spGen K)) (oVal : Ok P w K mg base "_law_value" 12 ["_law_generator_here"] (spValue K CT))
    (oMade : Ok P w K mg base "_law_made" 4 psNV (spMade K)) (oKinds : Ok P w K mg base "_law_kinds" 1 ["_law_error"] (spKinds K)) (oEmpty : Ok P w K mg base "_law_empty" 3 [] spEmpty) (oNamed : Ok P w K mg base "_law_named" 3 ["_law_value_here"] spNamed) :
    FnOk P w K mg base CX0 13 f fd ["_law_script"] (spLaw K) := by
  have nd := scLaw.nd
  refine F.ok scLaw (fun vs H Q E h => ?_) (fun cdv A outer s H vs Q E hr h => ?_)
  · obtain ⟨a, ns, rfl, _⟩ := h
    rfl
  · obtain ⟨a, ns, rfl, hS, hlen, q⟩ := h
    have gL : mg "LoopError" = some (.ref (CA K 29)) := Z.g 29 (by decide)
    have gU : mg "NothingToUndo" = some (.ref (CA K 27)) := Z.g 27 (by decide)
    have gR : mg "NothingToRedo" = some (.ref (CA K 28)) := Z.g 28 (by decide)
    obtain ⟨eU, kU⟩ := Z.ex 27 (by decide) (by decide)
    obtain ⟨eR, kR⟩ := Z.ex 28 (by decide) (by decide)
    obtain ⟨eL, kL⟩ := Z.ex 29 (by decide) (by decide)
    have r4 : Room 4 (A.deeper (envOfC "law" (defScope sLaw) s.heap.objs.size f cdv)) := hr.mono (by decide)
    have r3 : Room 3 (A.deeper (envOfC "law" (defScope sLaw) s.heap.objs.size f cdv)) := hr.mono (by decide)
    have r1 : Room 1 (A.deeper (envOfC "law" (defScope sLaw) s.heap.objs.size f cdv)) := hr.mono (by decide)
    refine ⟨_, PSs.nox (pss_cons (ps_set (i := 1) nd rfl (Or.inl rfl) (pe_callO oGen r1 (by rfl) (pa_cons (pv 0) (pa_cons pe_int pa_nil))))
      (pss_cons (ps_set (i := 2) nd rfl (Or.inr rfl) (pe_callO oVal hr (by rfl) (pa_cons (pv 1) pa_nil)))
      (pss_cons (ps_for PassesOwn.never rfl (pi_range1 (by rfl) zR (pa_cons pe_int pa_nil)) (pg_name (i := 3) nd rfl (Or.inr rfl))
        (pss_cons (ps_set (i := 4) nd rfl (Or.inl rfl) (pe_callO oMade r4 (by rfl) (pa_cons (pv 3) (pa_cons (pv 2) pa_nil))))
        (pss_cons (ps_if (PW.pt (pw_or (pt_not (pt_val (pe_callB call_isX (by rfl) zI (by decide +kernel) (pa_cons (pv 4) (pa_cons (pe_glob (v := .ref (CA K 29)) (by rfl) gL rfl) pa_nil))))) (pw_or1 (pt_not (pt_val (pe_callB call_isX (by rfl) zI (by decide +kernel) (pa_cons (pv 4) (pa_cons (pe_bltn (v := .ty "ValueError") (by rfl) zV (by decide +kernel) rfl) pa_nil)))))))) (pss_one (ps_ret pe_bl)) pss_nil)
        (pss_cons (ps_if (pt_cmpR (op_neD r1.units) (pe_callO oKinds r1 (by rfl) (pa_cons (pv 4) pa_nil))
            (pe_lc (own := [("_law_place", 6)]) (g := gName 6) (by rfl) nd (pi_range1 (by rfl) zR (pa_cons pe_int pa_nil)) (blkOk_by (N := nLaw) (sc := defScope sLaw) (own := [("_law_place", 6)]) (by decide +kernel)) (fun _ _ _ _ _ => pg_name (i := 6) nd rfl (Or.inl rfl)) (fun _ _ _ _ _ => pts_nil) (fun _ _ _ _ _ => pe_cmpR op_eq (pv 6) (pv 3) (nomark _))) (nomark _)) (pss_one (ps_ret pe_bl)) pss_nil)
        (pss_cons (ps_set (i := 5) nd rfl (Or.inl rfl) (pe_ifExp (pt_cmpR op_eq (pv 3) pe_int (nomark _)) (pe_xget (pv 4)) (pe_xget (pv 4))))
        (pss_one (ps_if (PW.pt (pw_or (pt_not (pt_cmpR (op_V EQ r3) (pv 5) (pv 2) (nomark _))) (pw_or1 (pt_cmpR op_ne (pe_cmp (pc_isN (pv 5)) rfl) (pe_cmp (pc_isN (pv 2)) rfl) (nomark _))))) (pss_one (ps_ret pe_bl)) pss_nil)))))))
      (pss_cons (ps_if (pt_cmpR (op_neD r1.units) (pe_lc (own := [("_law_field", 7)]) (g := gName 7) (by rfl) nd (pi_list (pe_callO oNamed r3 (by rfl) (pa_cons (pv 2) pa_nil))) (blkOk_by (N := nLaw) (sc := defScope sLaw) (own := [("_law_field", 7)]) (by decide +kernel)) (fun _ _ _ _ _ => pg_name (i := 7) nd rfl (Or.inl rfl)) (fun _ _ _ _ _ => pts_one (pt_not (pt_cmpR (op_VK (K := K) (CT := CT) rfl EQ r3) (pv 7) (pv 2) (nomark _)))) (fun _ _ _ _ _ => pv 7)) (pe_lst pa_nil) (nomark _)) (pss_one (ps_ret pe_bl)) pss_nil)
      (pss_cons (ps_for PassesOwn.never rfl (pi_range1 (by rfl) zR (pa_cons pe_int pa_nil)) (pg_name (i := 3) nd rfl (Or.inr rfl))
        (pss_cons (ps_set (i := 4) nd rfl (Or.inl rfl) (pe_ifExp (pt_cmpR op_eq (pv 3) pe_int (nomark _)) (pe_mkE PySem.F.excBase_ValueError eU gU kU (by rfl)) (pe_mkE PySem.F.excBase_ValueError eR gR kR (by rfl))))
        (pss_one (ps_if (PW.pt (pw_or (pt_not (pt_val (pe_callB call_isX (by rfl) zI (by decide +kernel) (pa_cons (pv 4) (pa_cons (pe_glob (v := .ref (CA K 29)) (by rfl) gL rfl) pa_nil))))) (pw_or1 (pt_cmpR (op_neD r1.units) (pe_callO oKinds r1 (by rfl) (pa_cons (pv 4) pa_nil))
            (pe_lc (own := [("_law_place", 6)]) (g := gName 6) (by rfl) nd (pi_range1 (by rfl) zR (pa_cons pe_int pa_nil)) (blkOk_by (N := nLaw) (sc := defScope sLaw) (own := [("_law_place", 6)]) (by decide +kernel)) (fun _ _ _ _ _ => pg_name (i := 6) nd rfl (Or.inl rfl)) (fun _ _ _ _ _ => pts_nil) (fun _ _ _ _ _ => pe_cmpR op_eq (pv 6) (pe_op op_add pe_int (pv 3)) (nomark _))) (nomark _))))) (pss_one (ps_ret pe_bl)) pss_nil))))
      (pss_one (ps_ret (pe_and (pe_cmpR (op_eqD r1.units) (pe_lc (own := [("_law_field", 7)]) (g := gName 7) (by rfl) nd (pi_list (pe_callO0 oEmpty r3 (by rfl))) (blkOk_by (N := nLaw) (sc := defScope sLaw) (own := [("_law_field", 7)]) (by decide +kernel)) (fun _ _ _ _ _ => pg_name (i := 7) nd rfl (Or.inl rfl)) (fun _ _ _ _ _ => pts_one (pt_cmp (pc_notN (pv 7)))) (fun _ _ _ _ _ => pv 7)) (pe_lst pa_nil) (nomark _))
        (pe_one (pe_callB call_isX (by rfl) zI (by decide +kernel) (pa_cons (pe_mkE PySem.F.excBase_ValueError eL gL kL (by rfl)) (pa_cons (pe_bltn (v := .ty "ValueError") (by rfl) zV (by decide +kernel) rfl) pa_nil)))))))))))), ?_⟩
    -- generator, value
    refine ⟨_, rfl, a, ns, 0, rfl, hS, by decide, fun H1 g s1 fr dr => ?_⟩
    refine ⟨_, rfl, g, _, rfl, dr, by decide, fun H2 v _ vo => ?_⟩
    -- the 27 classes with a field
    refine ⟨27, rfl, by decide, by decide, for_range (lo := 0) (n := 27) (fun i σ H' => ∃ x3 x4 x5, σ = [some (.ref a), some (.ref g), some v, x3, x4, x5, none, none] ∧ Same H2 H') ⟨_, _, _, rfl, Same.refl H2⟩ ?_ ?_⟩
    · rintro i σ H' hi ⟨x3, x4, x5, rfl, sm⟩
      rw [Int.zero_add]
      have h29 : i < 29 := by omega
      have h30 : i < 30 := by omega
      refine ⟨_, rfl, _, rfl, i, v, rfl, hi, fun H3 x s3 er => ?_⟩
      refine ⟨_, rfl, _, _, _, _, _, rfl, er.isE, Z.e i h30, (fun u r => r), Z.kitL i h29, _, rfl, iteF ⟨_, rfl, _, _, _, _, _, rfl, er.isE, Z.e i h30, (fun u r => r), Z.kitV i h30, _, rfl, iteF ?_⟩⟩
      refine ⟨_, rfl, i, x, rfl, h29, er.isE, fun H4 p4 s4 h4 => ⟨29, rfl, by decide, by decide, fun D nD => lc_range (lo := 0) (n := 29) (fun k H' => Same H4 H' ∧ H' D = some (.lst ((List.range k).map fun j => V.bl (decide (i = j))))) ⟨same_new nD, upd_same⟩ ?_ ?_⟩⟩
      · rintro k H5 hk ⟨s5, hD⟩
        refine ⟨rfl, ?_⟩
        refine ⟨_, rfl, _, rfl, rfl, _, hD, ?_, fun b o e => ?_, ?_⟩
        · rw [List.length_map, List.length_range]
          exact small1000 (by omega)
        · rw [upd_ne (ne_of_none (H := H4) e nD)]
          exact s5 _ _ e
        · rw [upd_same, range_more, same_place]
      · rintro H5 ⟨s5, hD⟩
        refine ⟨_, _, bits_dp (s5 _ _ h4), bits_dp hD, bits_shaped i h29, bits_shaped i h29, ?_⟩
        rw [SeqAt.eqv_refl _ (SeqAt.canLay_of_shaped (bits_shaped i h29))]
        have s25 : Same H2 H5 := ((sm.trans s3).trans s4).trans s5
        have er5 := exo_keep (s4.trans s5) er
        have vo5 := val_keep s25 vo
        have fin : ∀ H6 : Hp, Same H5 H6 → ∃ x3' x4' x5', [some (.ref a), some (.ref g), some v, some (.int i), some x, some v, none, none] = [some (.ref a), some (.ref g), some v, x3', x4', x5', none, none] ∧ Same H2 H6 := fun H6 s6 => ⟨_, _, _, rfl, s25.trans s6⟩
        refine ⟨false, rfl, iteF ⟨_, rfl, rfl, _, rfl, ite2 (fun e => ?_) (fun e => ?_)⟩⟩
        · have e26 : i = 26 := int_eq (c := 26) e
          subst e26
          refine ⟨_, rfl, _, _, v, er5, Z.f 26 (by decide), look1 _ _, ?_⟩
          exact ⟨_, rfl, _, rfl, eq_self vo5 fun H6 s6 => ⟨_, rfl, iteF ⟨_, rfl, _, rfl, rfl, _, rfl, iteNS rfl (fin H6 s6)⟩⟩⟩
        · have n26 : i ≠ 26 := fun z => e (by rw [z]; rfl)
          have ef : fl i = "value" := if_neg n26
          rw [ef] at er5
          have xf := Z.f i hi
          rw [ef] at xf
          refine ⟨_, rfl, _, _, v, er5, xf, look1 _ _, ?_⟩
          exact ⟨_, rfl, _, rfl, eq_self vo5 fun H6 s6 => ⟨_, rfl, iteF ⟨_, rfl, _, rfl, rfl, _, rfl, iteNS rfl (fin H6 s6)⟩⟩⟩
    · rintro σ H' ⟨x3, x4, x5, rfl, sm⟩
      -- by name
      refine ⟨_, rfl, v, rfl, fun H7 p7 s7 h7 => ⟨p7, rfl, ⟨_, SqL.of h7⟩, fun D nD => lc_list (K := K) (a := p7) (xs := List.replicate 27 v) (fun k H' => Same H7 H' ∧ H' D = some (.lst [])) ⟨same_new nD, upd_same⟩ (fun k H' _ p => p.1.seq (SqL.of h7)) ?_ ?_⟩⟩
      · rintro k y H8 hk ⟨s8, hD⟩
        have ey : y = v := by
          have := List.mem_of_getElem? hk
          exact List.eq_of_mem_replicate this
        subst ey
        exact ⟨rfl, _, rfl, _, rfl, eq_self (val_keep ((sm.trans s7).trans s8) vo) fun H9 s9 => ⟨_, rfl, iteF ⟨s8.trans s9, s9 _ _ hD⟩⟩⟩
      · rintro H8 ⟨s8, hD⟩
        refine ⟨Nat.zero_le _, fun q8 nq8 => ?_⟩
        refine ⟨.list [], .list [], .lst (SqL.of (same_new nq8 _ _ hD)) .nil, .lst (SqL.of upd_same) .nil, by decide +kernel, by decide +kernel, false, rfl, iteF ?_⟩
        have sm8 : Same H2 (upd H8 q8 (.lst [])) := ((sm.trans s7).trans s8).trans (same_new nq8)
        generalize upd H8 q8 (.lst []) = H9 at *
        -- the two without a field
        refine ⟨2, rfl, by decide, by decide, for_range (lo := 0) (n := 2) (fun i σ H' => ∃ x3 x4 x5, σ = [some (.ref a), some (.ref g), some v, x3, x4, x5, none, none] ∧ Same H2 H') ⟨_, _, _, rfl, sm8⟩ ?_ ?_⟩
        · rintro i σ H' hi ⟨x3, x4, x5, rfl, sm⟩
          rw [Int.zero_add]
          have rest : ∀ (H3 : Hp) (x : V), Same H2 H3 → IsE H3 x (CA K (27 + i)) → IsE H3 x (CA K (27 + i)) := fun _ _ _ z => z
          refine ⟨_, rfl, rfl, _, rfl, ite2 (fun e => ?_) (fun e => ?_)⟩
          · have e0 : i = 0 := int_eq (c := 0) e
            subst e0
            intro b nb
            have ie : IsE (upd H' b (exo b (CA K 27) none)) (.ref b) (CA K 27) := ⟨b, rfl, .inl upd_same⟩
            have sm3 : Same H2 (upd H' b (exo b (CA K 27) none)) := sm.trans (same_new nb)
            generalize upd H' b (exo b (CA K 27) none) = H3 at *
            refine ⟨_, rfl, _, _, _, _, _, rfl, ie, Z.e 27 (by decide), (fun u r => r), Z.kitL 27 (by decide), _, rfl, iteF ?_⟩
            refine ⟨_, rfl, 27, _, rfl, by decide, ie, fun H4 p4 s4 h4 => ⟨29, rfl, by decide, by decide, fun D nD => lc_range (lo := 0) (n := 29) (fun k H' => Same H4 H' ∧ H' D = some (.lst ((List.range k).map fun j => V.bl (decide (27 = j))))) ⟨same_new nD, upd_same⟩ ?_ ?_⟩⟩
            · rintro k H5 hk ⟨s5, hD⟩
              refine ⟨rfl, ?_⟩
              refine ⟨_, rfl, _, rfl, _, _, rfl, rfl, rfl, _, hD, ?_, fun b o e => ?_, ?_⟩
              · rw [List.length_map, List.length_range]
                exact small1000 (by omega)
              · rw [upd_ne (ne_of_none (H := H4) e nD)]
                exact s5 _ _ e
              · rw [upd_same, range_more]
                have := same_place k 27
                exact congrArg (fun z => some (HO.lst (((List.range k).map fun j => V.bl (decide (27 = j))) ++ [V.bl z]))) this
            · rintro H5 ⟨s5, hD⟩
              refine ⟨_, _, bits_dp (s5 _ _ h4), bits_dp hD, bits_shaped 27 (by decide), bits_shaped 27 (by decide), ?_⟩
              rw [SeqAt.eqv_refl _ (SeqAt.canLay_of_shaped (bits_shaped 27 (by decide)))]
              exact ⟨false, rfl, iteF ⟨_, _, _, rfl, (sm3.trans s4).trans s5⟩⟩
          · have e1 : i = 1 := by
              have : i ≠ 0 := fun z => e (by rw [z]; rfl)
              omega
            subst e1
            intro b nb
            have ie : IsE (upd H' b (exo b (CA K 28) none)) (.ref b) (CA K 28) := ⟨b, rfl, .inl upd_same⟩
            have sm3 : Same H2 (upd H' b (exo b (CA K 28) none)) := sm.trans (same_new nb)
            generalize upd H' b (exo b (CA K 28) none) = H3 at *
            refine ⟨_, rfl, _, _, _, _, _, rfl, ie, Z.e 28 (by decide), (fun u r => r), Z.kitL 28 (by decide), _, rfl, iteF ?_⟩
            refine ⟨_, rfl, 28, _, rfl, by decide, ie, fun H4 p4 s4 h4 => ⟨29, rfl, by decide, by decide, fun D nD => lc_range (lo := 0) (n := 29) (fun k H' => Same H4 H' ∧ H' D = some (.lst ((List.range k).map fun j => V.bl (decide (28 = j))))) ⟨same_new nD, upd_same⟩ ?_ ?_⟩⟩
            · rintro k H5 hk ⟨s5, hD⟩
              refine ⟨rfl, ?_⟩
              refine ⟨_, rfl, _, rfl, _, _, rfl, rfl, rfl, _, hD, ?_, fun b o e => ?_, ?_⟩
              · rw [List.length_map, List.length_range]
                exact small1000 (by omega)
              · rw [upd_ne (ne_of_none (H := H4) e nD)]
                exact s5 _ _ e
              · rw [upd_same, range_more]
                have := same_place k 28
                exact congrArg (fun z => some (HO.lst (((List.range k).map fun j => V.bl (decide (28 = j))) ++ [V.bl z]))) this
            · rintro H5 ⟨s5, hD⟩
              refine ⟨_, _, bits_dp (s5 _ _ h4), bits_dp hD, bits_shaped 28 (by decide), bits_shaped 28 (by decide), ?_⟩
              rw [SeqAt.eqv_refl _ (SeqAt.canLay_of_shaped (bits_shaped 28 (by decide)))]
              exact ⟨false, rfl, iteF ⟨_, _, _, rfl, (sm3.trans s4).trans s5⟩⟩
        · rintro σ H' ⟨x3, x4, x5, rfl, sm⟩
          -- without an argument
          refine ⟨rfl, fun H10 p10 s10 h10 => ⟨p10, rfl, ⟨_, SqL.of h10⟩, fun D nD => lc_list (K := K) (a := p10) (xs := List.replicate 27 V.non) (fun k H' => Same H10 H' ∧ H' D = some (.lst [])) ⟨same_new nD, upd_same⟩ (fun k H' _ p => p.1.seq (SqL.of h10)) ?_ ?_⟩⟩
          · rintro k y H8 hk ⟨s8, hD⟩
            have ey : y = V.non := by
              have := List.mem_of_getElem? hk
              exact List.eq_of_mem_replicate this
            subst ey
            exact ⟨rfl, _, rfl, _, rfl, iteNS rfl ⟨s8, hD⟩⟩
          · rintro H8 ⟨s8, hD⟩
            refine ⟨Nat.zero_le _, fun q8 nq8 => ?_⟩
            refine ⟨.list [], .list [], .lst (SqL.of (same_new nq8 _ _ hD)) .nil, .lst (SqL.of upd_same) .nil, by decide +kernel, by decide +kernel, true, rfl, iteT ?_⟩
            intro b nb
            exact ⟨_, _, _, _, _, rfl, ⟨b, rfl, .inl upd_same⟩, Z.e 29 (by decide), (fun u r => r), Z.kitV 29 (by decide), q _⟩
end
end K8
set_option Elab.async false
set_option linter.all false
set_option maxRecDepth 100000
set_option maxHeartbeats 4000000
namespace K8
open PySem PySem.Spec PyProof.Rows L2 XV
abbrev sWhole : Stmt := top 33
abbrev sCount : Stmt := top 34
abbrev sBelow : Stmt := top 35
abbrev sReqMany : Stmt := top 36
abbrev sLetters : Stmt := top 37
abbrev sHasForm : Stmt := top 39
abbrev sIsPlain : Stmt := top 40
abbrev sTimes : Stmt := top 41
abbrev sPlainForm : Stmt := top 43
abbrev sRoot : Stmt := top 45
abbrev sCommon : Stmt := top 46
abbrev sTurned : Stmt := top 47
theorem scWhole : FnScope ["value"] ["value"] (defScope sWhole) := ⟨rfl, rfl, rfl, by decide +kernel, rfl, by decide +kernel, by decide +kernel⟩
theorem scCount : FnScope ["value"] ["value"] (defScope sCount) := ⟨rfl, rfl, rfl, by decide +kernel, rfl, by decide +kernel, by decide +kernel⟩
theorem scBelow : FnScope ["bound", "value"] ["bound", "value"] (defScope sBelow) := ⟨rfl, rfl, rfl, by decide +kernel, rfl, by decide +kernel, by decide +kernel⟩
theorem scReqMany : FnScope ["many"] ["many"] (defScope sReqMany) := ⟨rfl, rfl, rfl, by decide +kernel, rfl, by decide +kernel, by decide +kernel⟩
theorem scLetters : FnScope ["value"] ["value"] (defScope sLetters) := ⟨rfl, rfl, rfl, by decide +kernel, rfl, by decide +kernel, by decide +kernel⟩
theorem scHasForm : FnScope ["many", "item", "number"] ["many", "item"] (defScope sHasForm) := ⟨rfl, rfl, rfl, by decide +kernel, rfl, by decide +kernel, by decide +kernel⟩
theorem scIsPlain : FnScope ["form"] ["form"] (defScope sIsPlain) := ⟨rfl, rfl, rfl, by decide +kernel, rfl, by decide +kernel, by decide +kernel⟩
theorem scTimes : FnScope ["form", "times", "number"] ["form", "times"] (defScope sTimes) := ⟨rfl, rfl, rfl, by decide +kernel, rfl, by decide +kernel, by decide +kernel⟩
theorem scPlainForm : FnScope ["many", "constant"] ["many", "constant"] (defScope sPlainForm) := ⟨rfl, rfl, rfl, by decide +kernel, rfl, by decide +kernel, by decide +kernel⟩
theorem scRoot : FnScope ["word"] ["word"] (defScope sRoot) := ⟨rfl, rfl, rfl, by decide +kernel, rfl, by decide +kernel, by decide +kernel⟩
theorem scCommon : FnScope ["text", "word", "same"] ["text", "word"] (defScope sCommon) := ⟨rfl, rfl, rfl, by decide +kernel, rfl, by decide +kernel, by decide +kernel⟩
theorem scTurned : FnScope ["word", "letters", "middle"] ["word", "letters"] (defScope sTurned) := ⟨rfl, rfl, rfl, by decide +kernel, rfl, by decide +kernel, by decide +kernel⟩
def spWhole : Sp := fun vs H Q _ => ∃ v : Int, vs = [.int v] ∧ Q (.bl true) H
def spCount : Sp := fun vs H Q _ => ∃ v : Int, vs = [.int v] ∧ 0 ≤ v ∧ Q (.bl true) H
def spBelow : Sp := fun vs H Q _ => ∃ b v : Int, vs = [.int b, .int v] ∧ 0 ≤ v ∧ v < b ∧ Q (.bl true) H
def spReqMany : Sp := fun vs H Q _ => vs = [.int 1] ∧ Q .non H
def spLetters : Sp := fun vs H Q _ => vs = [.str "a"] ∧ Q (.bl true) H
def spHasForm (K : PySem.W.Frag) : Sp := fun vs H Q _ => ∃ (fm : Addr) (n : Int), vs = [.int 1, .ref fm] ∧ H fm = some (.tup [.int 1, .int n]) ∧ 0 ≤ n ∧ ∀ H', Same H H' → Q (.bl true) H'
def spIsPlain (K : PySem.W.Frag) : Sp := fun vs H Q _ => ∃ (fm : Addr) (n : Int), vs = [.ref fm] ∧ H fm = some (.tup [.int 1, .int n]) ∧ 0 ≤ n ∧ n < 9 ∧ ∀ H', Same H H' → Q (.bl (decide (n = 0))) H'
def spTimes : Sp := fun vs H Q _ => ∃ (fm : Addr) (n : Int), vs = [.ref fm, .int 1] ∧ H fm = some (.tup [.int 1, .int n]) ∧ 0 ≤ n ∧ n < 9 ∧ ∀ (H' : Hp) (t : Addr), Same H H' → H' t = some (.tup [.int 1, .int n]) → Q (.ref t) H'
def spPlainForm : Sp := fun vs H Q _ => vs = [.int 1, .int 1] ∧ ∀ (H' : Hp) (t : Addr), Same H H' → H' t = some (.tup [.int 1, .int 0]) → Q (.ref t) H'
def spRoot : Sp := fun vs H Q _ => vs = [.str "a"] ∧ Q (.str "a") H
def spCommon : Sp := fun vs H Q _ => vs = [.str "", .str "a"] ∧ Q (.int 0) H
def spTurned : Sp := fun vs H Q _ => vs = [.str "a", .int 0] ∧ Q (.str "a") H
section
variable {P : Program} {w : World} {K : PySem.W.Frag} {mg : Str → Option Value} {base : Heap} {f : Addr} {fd : FuncData}
theorem isi_int {H : Hp} {Q : VK} {v : Int} (q : Q (.bl true) H) : rIsi K [.int v, .ty "int"] H Q := ⟨_, _, _, _, true, rfl, .ty "int", .base (.int v), kit_ty (by decide +kernel), q⟩
theorem isi_bool {H : Hp} {Q : VK} {v : Int} (q : Q (.bl false) H) : rIsi K [.int v, .ty "bool"] H Q := ⟨_, _, _, _, false, rfl, .ty "bool", .base (.int v), kit_ty (by decide +kernel), q⟩
theorem isi_str {H : Hp} {Q : VK} {v : Str} (q : Q (.bl true) H) : rIsi K [.str v, .ty "str"] H Q := ⟨_, _, _, _, true, rfl, .ty "str", .base (.str v), kit_ty (by decide +kernel), q⟩
theorem isi_tup {H : Hp} {Q : VK} {a : Addr} {xs : List V} (h : H a = some (.tup xs)) (q : Q (.bl true) H) : rIsi K [.ref a, .ty "tuple"] H Q := ⟨_, _, _, _, true, rfl, .ty "tuple", .base (.tup h), kit_ty (by decide +kernel), q⟩
theorem isi_lst {H : Hp} {Q : VK} {a : Addr} {xs : List V} (h : H a = some (.lst xs)) (q : Q (.bl true) H) : rIsi K [.ref a, .ty "list"] H Q := ⟨_, _, _, _, true, rfl, .ty "list", .base (.lst h), kit_ty (by decide +kernel), q⟩
theorem ok_whole (F : FnP K "is_whole" sWhole f fd) (z_isinstance : mg "isinstance" = none) (z_int : mg "int" = none) (z_bool : mg "bool" = none) : FnOk P w K mg base CX0 1 f fd ["value"] spWhole := by
  refine F.ok scWhole (fun vs H Q E h => ?_) (fun cdv A outer s H vs Q E hr h => ?_)
  · obtain ⟨v, rfl, _⟩ := h
    rfl
  · obtain ⟨v, rfl, q⟩ := h
    refine ⟨_, PSs.nox (pss_one (ps_ret (pe_and (pe_callB call_isi (by rfl) z_isinstance (by decide +kernel) (pa_cons (pv 0) (pa_cons (pe_bltn (v := .ty "int") (by rfl) z_int (by decide +kernel) rfl) pa_nil))) (pe_one (pe_not (pe_callB call_isi (by rfl) z_isinstance (by decide +kernel) (pa_cons (pv 0) (pa_cons (pe_bltn (v := .ty "bool") (by rfl) z_bool (by decide +kernel) rfl) pa_nil)))))))), ?_⟩
    exact ⟨_, rfl, _, _, _, _, true, rfl, .ty "int", .base (.int v), kit_ty (by decide +kernel), true, rfl, _, rfl, _, _, _, _, false, rfl, .ty "bool", .base (.int v), kit_ty (by decide +kernel), false, rfl, q⟩
theorem ok_count (F : FnP K "is_count" sCount f fd) (o_is_whole : Ok P w K mg base "is_whole" 1 ["value"] spWhole) : FnOk P w K mg base CX0 2 f fd ["value"] spCount := by
  refine F.ok scCount (fun vs H Q E h => ?_) (fun cdv A outer s H vs Q E hr h => ?_)
  · obtain ⟨v, rfl, _⟩ := h
    rfl
  · obtain ⟨v, rfl, h0, q⟩ := h
    refine ⟨_, PSs.nox (pss_one (ps_ret (pe_and (pe_callO o_is_whole (hr.mono (by decide)) (by rfl) (pa_cons (pv 0) pa_nil)) (pe_one (pe_cmpR op_ge (pv 0) pe_int (nomark _)))))), ?_⟩
    refine ⟨_, rfl, v, rfl, true, rfl, _, rfl, _, _, rfl, rfl, ?_⟩
    show Q (.bl (decide (0 ≤ v))) H
    rw [decide_eq_true h0]
    exact q
theorem ok_below (F : FnP K "is_count_below" sBelow f fd) (o_is_count : Ok P w K mg base "is_count" 2 ["value"] spCount) : FnOk P w K mg base CX0 3 f fd ["bound", "value"] spBelow := by
  refine F.ok scBelow (fun vs H Q E h => ?_) (fun cdv A outer s H vs Q E hr h => ?_)
  · obtain ⟨b, v, rfl, _⟩ := h
    rfl
  · obtain ⟨b, v, rfl, h0, h1, q⟩ := h
    refine ⟨_, PSs.nox (pss_one (ps_ret (pe_and (pe_callO o_is_count (hr.mono (by decide)) (by rfl) (pa_cons (pv 1) pa_nil)) (pe_one (pe_cmpR op_lt (pv 1) (pv 0) (nomark _)))))), ?_⟩
    refine ⟨_, rfl, v, rfl, h0, true, rfl, _, rfl, _, rfl, _, _, rfl, rfl, ?_⟩
    show Q (.bl (decide (v < b))) H
    rw [decide_eq_true h1]
    exact q
theorem ok_reqMany (F : FnP K "require_many" sReqMany f fd) (o_is_count_below : Ok P w K mg base "is_count_below" 3 ["bound", "value"] spBelow) {tM : Tok} (h_MOST_UNKNOWNS : mg "MOST_UNKNOWNS" = some (.int 3 tM)) : FnOk P w K mg base CX0 4 f fd ["many"] spReqMany := by
  refine F.ok scReqMany (fun vs H Q E h => ?_) (fun cdv A outer s H vs Q E hr h => ?_)
  · obtain ⟨rfl, _⟩ := h
    rfl
  · obtain ⟨rfl, q⟩ := h
    refine ⟨_, PSs.nox (pss_one (ps_if (pt_not (pt_val (pe_callO o_is_count_below (hr.mono (by decide)) (by rfl) (pa_cons (pe_op op_add (pe_glob (v := .int 3) (by rfl) h_MOST_UNKNOWNS ⟨_, rfl⟩) pe_int) (pa_cons (pv 0) pa_nil))))) (pss_one (ps_never)) pss_nil)), ?_⟩
    exact ⟨_, _, rfl, rfl, _, rfl, _, _, rfl, by decide, by decide, true, rfl, iteF q⟩
theorem ok_letters (F : FnP K "is_string_of_letters" sLetters f fd) (z_isinstance : mg "isinstance" = none) (z_str : mg "str" = none) : FnOk P w K mg base CX0 1 f fd ["value"] spLetters := by
  refine F.ok scLetters (fun vs H Q E h => ?_) (fun cdv A outer s H vs Q E hr h => ?_)
  · obtain ⟨rfl, _⟩ := h
    rfl
  · obtain ⟨rfl, q⟩ := h
    refine ⟨_, PSs.nox (pss_cons (ps_if (pt_not (pt_val (pe_callB call_isi (by rfl) z_isinstance (by decide +kernel) (pa_cons (pv 0) (pa_cons (pe_bltn (v := .ty "str") (by rfl) z_str (by decide +kernel) rfl) pa_nil))))) (pss_one (ps_ret pe_bl)) pss_nil)
 (pss_one (ps_ret (pe_or (pe_cmpR op_eq (pv 0) pe_str (nomark _)) (pe_one (pe_and (pe_m0 PySem.F.slot_str_isascii PySem.F.type_str_isascii mt_isascii (pv 0)) (pe_and (pe_m0 PySem.F.slot_str_isalpha PySem.F.type_str_isalpha mt_isalpha (pv 0)) (pe_one (pe_m0 PySem.F.slot_str_islower PySem.F.type_str_islower mt_islower (pv 0)))))))))), ?_⟩
    have e1 : decide (V.str "a" = V.str "") = false := by decide +kernel
    have e2 : Txt.isascii "a" = true := by decide +kernel
    have e3 : Txt.isalpha "a" = true := by decide +kernel
    have e4 : Txt.islower "a" = true := by decide +kernel
    refine ⟨_, rfl, _, _, _, _, true, rfl, .ty "str", .base (.str "a"), kit_ty (by decide +kernel), true, rfl, iteF ⟨_, rfl, rfl, false, congrArg V.bl e1, iteF ?_⟩⟩
    refine ⟨_, rfl, ⟨_, rfl⟩, _, rfl, rfl, trivial, true, congrArg V.bl e2, ?_⟩
    refine ⟨_, rfl, ⟨_, rfl⟩, _, rfl, rfl, trivial, true, congrArg V.bl e3, ?_⟩
    refine ⟨_, rfl, ⟨_, rfl⟩, _, rfl, rfl, trivial, ?_⟩
    show Q (.bl (Txt.islower "a")) H
    rw [e4]
    exact q
theorem ok_hasForm (F : FnP K "has_form" sHasForm f fd) (o_is_count : Ok P w K mg base "is_count" 2 ["value"] spCount) (z_isinstance : mg "isinstance" = none) (z_tuple : mg "tuple" = none) (z_len : mg "len" = none) (z_all : mg "all" = none) :
    FnOk P w K mg base CX0 3 f fd ["many", "item"] (spHasForm K) := by
  have nd := scHasForm.nd
  refine F.ok scHasForm (fun vs H Q E h => ?_) (fun cdv A outer s H vs Q E hr h => ?_)
  · obtain ⟨fm, n, rfl, _⟩ := h
    rfl
  · obtain ⟨fm, n, rfl, hf, h0, q⟩ := h
    have hr2 : Room 2 (A.deeper (envOfC "has_form" (defScope sHasForm) s.heap.objs.size f cdv)) := hr
    refine ⟨_, PSs.nox (pss_one (ps_ret (pe_and (pe_callB call_isi (by rfl) z_isinstance (by decide +kernel) (pa_cons (pv 1) (pa_cons (pe_bltn (v := .ty "tuple") (by rfl) z_tuple (by decide +kernel) rfl) pa_nil))) (pe_and (pe_cmpR op_eq (pe_callB call_len (by rfl) z_len boot_len (pa_cons (pv 1) pa_nil)) (pe_op op_add (pv 0) pe_int) (nomark _)) (pe_one (pe_callB (cr_all rfl) (by rfl) z_all (by decide +kernel) (pa_cons
      (pe_lc (own := [("number", 2)]) (g := gName 2) (by rfl) nd (pi_tup (pv 1)) (blkOk_by (N := ["many", "item", "number"]) (sc := defScope sHasForm) (own := [("number", 2)]) (by decide +kernel)) (fun _ _ _ _ _ => pg_name (i := 2) nd rfl (Or.inl rfl)) (fun _ _ _ _ _ => pts_nil) (fun _ _ _ _ _ => pe_callO o_is_count hr2 (by rfl) (pa_cons (pv 2) pa_nil))) pa_nil))))))), ?_⟩
    refine ⟨_, rfl, _, _, _, _, true, rfl, .ty "tuple", .base (.tup hf), kit_ty (by decide +kernel), true, rfl, .ref fm, rfl, _, 2, rfl, .inr ⟨_, SqT.of hf, rfl⟩, _, rfl, _, _, rfl, rfl, rfl, true, by rfl, ?_⟩
    refine ⟨_, rfl, fm, rfl, ⟨_, SqT.of hf⟩, fun D nD => lc_tup (K := K) (a := fm) (xs := [.int 1, .int n]) (fun k H' => Same H H' ∧ H' D = some (.lst ((List.replicate k true).map V.bl))) ⟨same_new nD, upd_same⟩ (fun k H' _ p => SqT.ext (SqT.of hf) p.1) ?_ ?_⟩
    · rintro k y H' hk ⟨sm, hD⟩
      have hy : ∃ z : Int, y = .int z ∧ 0 ≤ z := by
        have hm := List.mem_of_getElem? hk
        rcases List.mem_cons.mp hm with e | hm
        · exact ⟨1, e, by decide⟩
        · rcases List.mem_cons.mp hm with e | hm
          · exact ⟨n, e, h0⟩
          · cases hm
      obtain ⟨z, rfl, z0⟩ := hy
      have hk2 : k < 2 := (List.getElem?_eq_some_iff.mp hk).1
      refine ⟨rfl, ?_⟩
      refine ⟨_, rfl, z, rfl, z0, _, hD, ?_, fun b o e => ?_, ?_⟩
      · rw [List.length_map, List.length_replicate]
        exact small1000 (by omega)
      · rw [upd_ne (ne_of_none (H := H) e nD)]
        exact sm _ _ e
      · rw [upd_same, List.replicate_succ', List.map_append]
        rfl
    · rintro H' ⟨sm, hD⟩
      exact ⟨D, _, rfl, SqL.of hD, q H' sm⟩
end
end K8
set_option Elab.async false
set_option linter.all false
set_option maxRecDepth 100000
set_option maxHeartbeats 4000000
namespace K8
open PySem PySem.Spec PyProof.Rows L2 XV
abbrev sIsPiece : Stmt := top 53
abbrev sMeasure : Stmt := top 54
abbrev sReqMeasure : Stmt := top 55
abbrev sAddFixed : Stmt := top 57
abbrev sAddPower : Stmt := top 58
theorem scIsPiece : FnScope ["many", "item", "word", "form"] ["many", "item"] (defScope sIsPiece) := ⟨rfl, rfl, rfl, by decide +kernel, rfl, by decide +kernel, by decide +kernel⟩
theorem scMeasure : FnScope ["pieces", "word", "form"] ["pieces"] (defScope sMeasure) := ⟨rfl, rfl, rfl, by decide +kernel, rfl, by decide +kernel, by decide +kernel⟩
theorem scReqMeasure : FnScope ["number"] ["number"] (defScope sReqMeasure) := ⟨rfl, rfl, rfl, by decide +kernel, rfl, by decide +kernel, by decide +kernel⟩
theorem scAddFixed : FnScope ["many", "done", "word"] ["many", "done", "word"] (defScope sAddFixed) := ⟨rfl, rfl, rfl, by decide +kernel, rfl, by decide +kernel, by decide +kernel⟩
theorem scAddPower : FnScope ["many", "done", "word", "form", "power"] ["many", "done", "word", "form"] (defScope sAddPower) := ⟨rfl, rfl, rfl, by decide +kernel, rfl, by decide +kernel, by decide +kernel⟩
def spIsPiece : Sp := fun vs H Q _ => ∃ (it fm : Addr) (n : Int), vs = [.int 1, .ref it] ∧ H it = some (.tup [.str "a", .ref fm]) ∧ H fm = some (.tup [.int 1, .int n]) ∧ 0 ≤ n ∧ ∀ H', Same H H' → Q (.bl true) H'
def spMeasure : Sp := fun vs H Q _ => ∃ (pl it fm : Addr) (n : Int), vs = [.ref pl] ∧ H pl = some (.lst [.ref it]) ∧ H it = some (.tup [.str "a", .ref fm]) ∧ H fm = some (.tup [.int 1, .int n]) ∧ 0 ≤ n ∧ n < 9 ∧ ∀ (H' : Hp) (m : Int), m ≤ 2 → Same H H' → Q (.int m) H'
def spReqMeasure : Sp := fun vs H Q _ => ∃ m : Int, vs = [.int m] ∧ m ≤ 2000 ∧ Q .non H
def spAddFixed : Sp := fun vs H Q _ => ∃ (D : Addr) (z : Str) (xs : List V), vs = [.int 1, .ref D, .str z] ∧ H D = some (.lst xs) ∧ xs.length ≤ 100 ∧ ((z = "" ∧ Q .non H) ∨ (z = "a" ∧
  ∀ (H' : Hp) (t u : Addr), But H H' D → H' D = some (.lst (xs ++ [.ref t])) → H' t = some (.tup [.str "a", .ref u]) → H' u = some (.tup [.int 1, .int 0]) → Q .non H'))
def spAddPower : Sp := fun vs H Q _ => ∃ (D fm : Addr) (n : Int), vs = [.int 1, .ref D, .str "a", .ref fm] ∧ H D = some (.lst []) ∧ H fm = some (.tup [.int 1, .int n]) ∧
  ∀ (H' : Hp) (t u : Addr), But H H' D → H' D = some (.lst [.ref t]) → H' t = some (.tup [.str "a", .ref u]) → H' u = some (.tup [.int 0, .int n]) → Q .non H'
section
variable {P : Program} {w : World} {K : PySem.W.Frag} {mg : Str → Option Value} {base : Heap} {f : Addr} {fd : FuncData}
theorem ok_isPlain (F : FnP K "is_plain" sIsPlain f fd) (z_any : mg "any" = none) : FnOk P w K mg base CX0 1 f fd ["form"] (spIsPlain K) := by
  refine F.ok scIsPlain (fun vs H Q E h => ?_) (fun cdv A outer s H vs Q E hr h => ?_)
  · obtain ⟨fm, n, rfl, _⟩ := h
    rfl
  · obtain ⟨fm, n, rfl, hf, h0, h9, q⟩ := h
    refine ⟨_, PSs.nox (pss_one (ps_ret (pe_not (pe_callB (call_anyT rfl) (by rfl) z_any (by decide +kernel) (pa_cons (pe_slice sl_tup (pv 0) (po_some pe_int) po_none) pa_nil))))), ?_⟩
    refine ⟨_, rfl, _, rfl, fm, _, rfl, SqT.of hf, (fun z => absurd z.1 (by show ¬ (HT.sIx 2 0 (some 1) = 0); decide)), fun p np => ?_⟩
    have hp : (upd H p (.tup (cutV [V.int 1, V.int n] (some 1) none))) p = some (.tup [.int n]) := upd_same
    refine ⟨p, [.int n], [.int n], rfl, SqT.of hp, .cons (.int n) .nil, rfl, ?_, _, rfl, ?_⟩
    · intro d hd
      rcases List.mem_cons.mp hd with e | e
      · rw [e]
        trivial
      · cases e
    · have e : (!([PyData.int n].any PyData.truthy)) = decide (n = 0) := by
        by_cases c : n = 0
        · subst c
          rfl
        · rw [decide_eq_false c]
          show (!(PyData.truthy (.int n) || false)) = false
          simp [PyData.truthy, c]
      show Q (.bl (!([PyData.int n].any PyData.truthy))) _
      rw [e]
      exact q _ (same_new np)
theorem ok_times (F : FnP K "form_times" sTimes f fd) (z_tuple : mg "tuple" = none) : FnOk P w K mg base CX0 1 f fd ["form", "times"] spTimes := by
  have nd := scTimes.nd
  refine F.ok scTimes (fun vs H Q E h => ?_) (fun cdv A outer s H vs Q E hr h => ?_)
  · obtain ⟨fm, n, rfl, _⟩ := h
    rfl
  · obtain ⟨fm, n, rfl, hf, h0, h9, q⟩ := h
    refine ⟨_, PSs.nox (pss_one (ps_ret (pe_callTy call_tuple_of (by rfl) z_tuple (by decide +kernel) (pa_cons
      (pe_lc (own := [("number", 2)]) (g := gName 2) (by rfl) nd (pi_tup (pv 0)) (blkOk_by (N := ["form", "times", "number"]) (sc := defScope sTimes) (own := [("number", 2)]) (by decide +kernel)) (fun _ _ _ _ _ => pg_name (i := 2) nd rfl (Or.inl rfl)) (fun _ _ _ _ _ => pts_nil) (fun _ _ _ _ _ => pe_op op_mul (pv 2) (pv 1))) pa_nil)))), ?_⟩
    refine ⟨_, rfl, fm, rfl, ⟨_, SqT.of hf⟩, fun D nD => lc_tup (K := K) (a := fm) (xs := [.int 1, .int n]) (fun k H' => Same H H' ∧ H' D = some (.lst ([V.int 1, V.int n].take k))) ⟨same_new nD, upd_same⟩ (fun k H' _ p => SqT.ext (SqT.of hf) p.1) ?_ ?_⟩
    · rintro k y H' hk ⟨sm, hD⟩
      have hy : ∃ z : Int, y = .int z := by
        have hm := List.mem_of_getElem? hk
        rcases List.mem_cons.mp hm with e | hm
        · exact ⟨1, e⟩
        · rcases List.mem_cons.mp hm with e | hm
          · exact ⟨n, e⟩
          · cases hm
      obtain ⟨z, rfl⟩ := hy
      have hk2 : k < 2 := (List.getElem?_eq_some_iff.mp hk).1
      refine ⟨rfl, ?_⟩
      refine ⟨_, rfl, _, rfl, _, _, rfl, rfl, .inr ⟨by decide, by decide⟩, _, hD, ?_, fun b o e => ?_, ?_⟩
      · exact small1000 (Nat.le_trans (List.length_take_le _ _) (by omega))
      · rw [upd_ne (ne_of_none (H := H) e nD)]
        exact sm _ _ e
      · rw [upd_same, List.take_add_one, hk]
        show some (HO.lst (List.take k [V.int 1, V.int n] ++ [V.int (z * 1)])) = _
        rw [Int.mul_one]
        rfl
    · rintro H' ⟨sm, hD⟩
      have hD2 : H' D = some (.lst [V.int 1, V.int n]) := hD
      exact ⟨D, _, rfl, .inl ⟨SqL.of hD2, fun l nl => q _ l (sm.trans (same_new nl)) upd_same⟩⟩
theorem ok_plainForm (F : FnP K "plain_form" sPlainForm f fd) (z_tuple : mg "tuple" = none) : FnOk P w K mg base CX0 1 f fd ["many", "constant"] spPlainForm := by
  refine F.ok scPlainForm (fun vs H Q E h => ?_) (fun cdv A outer s H vs Q E hr h => ?_)
  · obtain ⟨rfl, _⟩ := h
    rfl
  · obtain ⟨rfl, q⟩ := h
    refine ⟨_, PSs.nox (pss_one (ps_ret (pe_callTy call_tuple_of (by rfl) z_tuple (by decide +kernel) (pa_cons (pe_op op_cat (pe_lst (pa_cons (pv 1) pa_nil)) (pe_op op_rep (pe_lst (pa_cons pe_int pa_nil)) (pv 0))) pa_nil)))), ?_⟩
    refine ⟨_, rfl, (by show 1 ≤ sizeLine; decide), fun l nl => ⟨(by show 1 ≤ sizeLine; decide), fun m nm => ⟨_, rfl, m, 1, _, rfl, rfl, upd_same, by decide, by decide, (by show 1 ≤ sizeLine; decide), fun r nr => ?_⟩⟩⟩
    have s1 : Same H (upd H l (.lst [.int 1])) := same_new nl
    have s2 : Same (upd H l (.lst [.int 1])) (upd (upd H l (.lst [.int 1])) m (.lst [.int 0])) := same_new nm
    have s3 : Same (upd (upd H l (.lst [.int 1])) m (.lst [.int 0])) (upd (upd (upd H l (.lst [.int 1])) m (.lst [.int 0])) r (.lst (List.replicate (1 : Int).toNat [V.int 0]).flatten)) := same_new nr
    refine ⟨l, r, [.int 1], [.int 0], rfl, rfl, s3 _ _ (s2 _ _ upd_same), upd_same, (by show 2 ≤ sizeLine; decide), fun t nt => ?_⟩
    refine ⟨t, [.int 1, .int 0], rfl, .inl ⟨SqL.of upd_same, fun x nx => q _ x ?_ upd_same⟩⟩
    exact ((s1.trans (s2.trans s3)).trans (same_new nt)).trans (same_new nx)
theorem ok_root (F : FnP K "root_of" sRoot f fd) : FnOk P w K mg base CX0 1 f fd ["word"] spRoot := by
  refine F.ok scRoot (fun vs H Q E h => ?_) (fun cdv A outer s H vs Q E hr h => ?_)
  · obtain ⟨rfl, _⟩ := h
    rfl
  · obtain ⟨rfl, q⟩ := h
    refine ⟨_, PSs.nox (pss_one (ps_ret (pe_slice sl_str (pv 0) po_none (po_some (pe_bm PySem.F.plainAttrs_str PySem.F.slot_str_find PySem.F.type_str_find mt_find3 (pe_op op_add_str (pv 0) (pv 0)) (pa_cons (pv 0) (pa_cons pe_int pa_nil))))))), ?_⟩
    have e1 : Txt.find3 (("a" : Str) ++ "a") "a" 1 = 1 := by decide +kernel
    refine ⟨_, rfl, _, rfl, _, rfl, _, _, rfl, rfl, by decide +kernel, rfl, _, rfl, _, _, _, rfl, rfl, 1, congrArg V.int e1, _, rfl, by decide +kernel, ?_⟩
    have e2 : cutS "a" none (some 1) = "a" := by decide +kernel
    show Q (.str (cutS "a" none (some 1))) H
    rw [e2]
    exact q
theorem ok_common (F : FnP K "common_end" sCommon f fd) (z_len : mg "len" = none) : FnOk P w K mg base CX0 1 f fd ["text", "word"] spCommon := by
  have nd := scCommon.nd
  refine F.ok scCommon (fun vs H Q E h => ?_) (fun cdv A outer s H vs Q E hr h => ?_)
  · obtain ⟨rfl, _⟩ := h
    rfl
  · obtain ⟨rfl, q⟩ := h
    refine ⟨_, PSs.nox (pss_cons (ps_set (i := 2) nd rfl (Or.inl rfl) pe_int)
 (pss_cons (ps_while PassesOwn.never (PW.pt (pw_and (pt_cmpR op_lt (pv 2) (pe_callB call_len (by rfl) z_len boot_len (pa_cons (pv 0) pa_nil)) (nomark _)) (pw_and1 (pt_cmpR op_eq (pe_ix ix_str (pv 0) (pe_op op_sub (pe_un un_neg pe_int) (pv 2)) (fun _ _ => rfl)) (pe_ix ix_str (pv 1) (pe_op op_sub (pe_un un_neg pe_int) (pe_op op_mod (pv 2) (pe_callB call_len (by rfl) z_len boot_len (pa_cons (pv 1) pa_nil)))) (fun _ _ => rfl)) (nomark _))))) (pss_one (ps_aug (i := 2) nd rfl (Or.inl rfl) pe_int ip_add)))
 (pss_one (ps_ret (pv 2))))), ?_⟩
    refine ⟨fun m σ H' => σ = [some (.str ""), some (.str "a"), some (.int 0)] ∧ H' = H, ⟨0, rfl, rfl⟩, ?_⟩
    rintro m σ H' ⟨rfl, rfl⟩
    exact ⟨_, rfl, _, rfl, _, 0, rfl, ⟨by decide +kernel, rfl⟩, _, _, rfl, rfl, false, rfl, iteF (iteF ⟨_, rfl, q⟩)⟩
theorem ok_turned (F : FnP K "turned" sTurned f fd) (z_len : mg "len" = none) : FnOk P w K mg base CX0 1 f fd ["word", "letters"] spTurned := by
  have nd := scTurned.nd
  refine F.ok scTurned (fun vs H Q E h => ?_) (fun cdv A outer s H vs Q E hr h => ?_)
  · obtain ⟨rfl, _⟩ := h
    rfl
  · obtain ⟨rfl, q⟩ := h
    refine ⟨_, PSs.nox (pss_cons (ps_set (i := 2) nd rfl (Or.inl rfl) (pe_op op_sub (pe_callB call_len (by rfl) z_len boot_len (pa_cons (pv 0) pa_nil)) (pe_op op_mod (pv 1) (pe_callB call_len (by rfl) z_len boot_len (pa_cons (pv 0) pa_nil)))))
 (pss_one (ps_ret (pe_op op_add_str (pe_slice sl_str (pv 0) (po_some (pv 2)) po_none) (pe_slice sl_str (pv 0) po_none (po_some (pv 2))))))), ?_⟩
    have el : ("a" : Str).length = 1 := by decide +kernel
    refine ⟨_, rfl, _, 1, rfl, ⟨by decide +kernel, el⟩, _, rfl, _, rfl, _, 1, rfl, ⟨by decide +kernel, el⟩, _, _, rfl, rfl, (by show (0 : Int) < ((1 : Nat) : Int); decide), _, _, rfl, rfl, ?_⟩
    refine ⟨_, rfl, _, rfl, _, rfl, _, rfl, by decide +kernel, _, rfl, _, rfl, _, rfl, _, rfl, by decide +kernel, _, _, rfl, rfl, by decide +kernel, ?_⟩
    have e2 : cutS "a" (some (((1 : Nat) : Int) - 0 % ((1 : Nat) : Int))) none ++ cutS "a" none (some (((1 : Nat) : Int) - 0 % ((1 : Nat) : Int))) = "a" := by decide +kernel
    show Q (.str (cutS "a" (some (((1 : Nat) : Int) - 0 % ((1 : Nat) : Int))) none ++ cutS "a" none (some (((1 : Nat) : Int) - 0 % ((1 : Nat) : Int))))) H
    rw [e2]
    exact q
end
end K8
set_option Elab.async false
set_option linter.all false
set_option maxRecDepth 100000
set_option maxHeartbeats 4000000
namespace K8
open PySem PySem.Spec PyProof.Rows L2 XV
theorem append_M {X : Cx} : MtR X "list.append" rAppend := mt_append
section
variable {P : Program} {w : World} {K : PySem.W.Frag} {mg : Str → Option Value} {base : Heap} {f : Addr} {fd : FuncData}
theorem But.new {H H1 : Hp} {D p : Addr} {o : HO} (b : But H H1 D) (n : H1 p = none) : But H (upd H1 p o) D := b.trans (Same.but (same_new n))
theorem But.at {H H1 : Hp} {D : Addr} {o : HO} (b : But H H1 D) : But H (upd H1 D o) D := b.trans But.upd
theorem ok_reqMeasure (F : FnP K "require_measure" sReqMeasure f fd) {tM : Tok} (h_MM : mg "MOST_MEASURE" = some (.int 2000 tM)) : FnOk P w K mg base CX0 1 f fd ["number"] spReqMeasure := by
  refine F.ok scReqMeasure (fun vs H Q E h => ?_) (fun cdv A outer s H vs Q E hr h => ?_)
  · obtain ⟨m, rfl, _⟩ := h
    rfl
  · obtain ⟨m, rfl, hm, q⟩ := h
    refine ⟨_, PSs.nox (pss_one (ps_if (pt_cmpR op_gt (pv 0) (pe_glob (v := .int 2000) (by rfl) h_MM ⟨_, rfl⟩) (nomark _)) (pss_one (ps_never)) pss_nil)), ?_⟩
    exact ⟨_, rfl, _, _, rfl, rfl, false, congrArg V.bl (decide_eq_false (by omega)), iteF q⟩
theorem ok_addFixed (F : FnP K "add_fixed" sAddFixed f fd) (o_plain : Ok P w K mg base "plain_form" 1 ["many", "constant"] spPlainForm) : FnOk P w K mg base CX0 2 f fd ["many", "done", "word"] spAddFixed := by
  refine F.ok scAddFixed (fun vs H Q E h => ?_) (fun cdv A outer s H vs Q E hr h => ?_)
  · obtain ⟨D, z, xs, rfl, _⟩ := h
    rfl
  · obtain ⟨D, z, xs, rfl, hD, hn, c⟩ := h
    refine ⟨_, PSs.nox (pss_one (ps_if (pt_cmpR op_ne (pv 2) pe_str (nomark _)) (pss_one (ps_expr (pe_bm PySem.F.plainAttrs_list PySem.F.slot_list_append PySem.F.type_list_append append_M (pv 1) (pa_cons (pe_tup (pa_cons (pv 2) (pa_cons (pe_callO o_plain (hr.mono (by decide)) (by rfl) (pa_cons (pv 0) (pa_cons pe_int pa_nil))) pa_nil))) pa_nil)))) pss_nil)), ?_⟩
    rcases c with ⟨rfl, q⟩ | ⟨rfl, q⟩
    · exact ⟨_, rfl, rfl, false, congrArg V.bl (by decide +kernel), iteF q⟩
    · refine ⟨_, rfl, rfl, true, congrArg V.bl (by decide +kernel), iteT ?_⟩
      refine ⟨_, rfl, .inl ⟨rfl, _, SqL.of hD⟩, _, rfl, _, rfl, rfl, fun H1 u s1 hu => ⟨(by show 2 ≤ sizeLine; decide), fun t nt => ?_⟩⟩
      have nD : t ≠ D := fun e => by
        rw [e, s1 _ _ hD] at nt
        cases nt
      have hD2 : (upd H1 t (.tup [V.str "a", V.ref u])) D = some (.lst xs) := same_new nt _ _ (s1 _ _ hD)
      refine ⟨D, xs, _, rfl, rfl, hD2, small1000 (by omega), ?_⟩
      refine q _ t u (But.at (But.new (Same.but s1) nt)) upd_same ?_ ?_
      · rw [upd_ne nD]
        exact upd_same
      · have eu : u ≠ D := fun e => by
          rw [e, s1 _ _ hD] at hu
          cases hu
        rw [upd_ne eu]
        exact same_new nt _ _ hu
end
end K8
set_option Elab.async false
set_option linter.all false
set_option maxRecDepth 100000
set_option maxHeartbeats 4000000
namespace K8
open PySem PySem.Spec PyProof.Rows L2 XV
section
variable {P : Program} {w : World} {K : PySem.W.Frag} {mg : Str → Option Value} {base : Heap} {f : Addr} {fd : FuncData}
theorem ix_tupK {X : Cx} {K : PySem.W.Frag} (e : X.K = K) : IxR X (rIxT K) := by
  subst e
  exact ix_tup
theorem len_S {X : Cx} : CallR X (.builtin "len") (fun xs H Q => ∃ (z : Str) (n : Nat), xs = [.str z] ∧ z.length ≤ sizeLine ∧ z.length = n ∧ Q (.int n) H) := by
  intro pins s σ H vs us Q I r h
  obtain ⟨z, n, rfl, h1, rfl, q⟩ := h
  exact call_len_str pins s σ H _ us Q I r ⟨z, rfl, h1, q⟩
theorem ok_isPiece (F : FnP K "is_piece" sIsPiece f fd) (o_letters : Ok P w K mg base "is_string_of_letters" 1 ["value"] spLetters) (o_form : Ok P w K mg base "has_form" 3 ["many", "item"] (spHasForm K))
    (z_isinstance : mg "isinstance" = none) (z_tuple : mg "tuple" = none) (z_len : mg "len" = none) {tM : Tok} (h_LP : mg "LONGEST_PIECE" = some (.int 2000 tM)) : FnOk P w K mg base CX0 4 f fd ["many", "item"] spIsPiece := by
  have nd := scIsPiece.nd
  refine F.ok scIsPiece (fun vs H Q E h => ?_) (fun cdv A outer s H vs Q E hr h => ?_)
  · obtain ⟨it, fm, n, rfl, _⟩ := h
    rfl
  · obtain ⟨it, fm, n, rfl, hi, hf, h0, q⟩ := h
    refine ⟨_, PSs.nox (pss_cons (ps_if (PW.pt (pw_or (pt_not (pt_val (pe_callB call_isi (by rfl) z_isinstance (by decide +kernel) (pa_cons (pv 1) (pa_cons (pe_bltn (v := .ty "tuple") (by rfl) z_tuple (by decide +kernel) rfl) pa_nil))))) (pw_or1 (pt_cmpR op_ne (pe_callB call_len (by rfl) z_len boot_len (pa_cons (pv 1) pa_nil)) pe_int (nomark _))))) (pss_one (ps_ret pe_bl)) pss_nil)
 (pss_cons (ps_asg (pv 1) (pg_tup rfl (pgs_cons (pg_name (i := 2) nd rfl (Or.inl rfl)) (pgs_cons (pg_name (i := 3) nd rfl (Or.inl rfl)) pgs_nil))))
 (pss_one (ps_ret (pe_and (pe_callO o_letters (hr.mono (by decide)) (by rfl) (pa_cons (pv 2) pa_nil)) (pe_and (pe_cmpR op_le (pe_callB call_len (by rfl) z_len boot_len (pa_cons (pv 2) pa_nil)) (pe_glob (v := .int 2000) (by rfl) h_LP ⟨_, rfl⟩) (nomark _)) (pe_one (pe_callO o_form (hr.mono (by decide)) (by rfl) (pa_cons (pv 0) (pa_cons (pv 3) pa_nil)))))))))), ?_⟩
    have el : ("a" : Str).length = 1 := by decide +kernel
    refine ⟨_, rfl, _, _, _, _, true, rfl, .ty "tuple", .base (.tup hi), kit_ty (by decide +kernel), _, rfl, iteF ⟨_, rfl, _, 2, rfl, .inr ⟨_, SqT.of hi, rfl⟩, rfl, false, rfl, iteF ?_⟩⟩
    refine ⟨_, rfl, it, _, rfl, SqT.of hi, rfl, _, _, rfl, _, _, rfl, rfl, ?_⟩
    refine ⟨_, rfl, rfl, true, rfl, _, rfl, _, 1, rfl, ⟨by decide +kernel, el⟩, _, _, rfl, rfl, true, rfl, _, rfl, _, rfl, fm, n, rfl, hf, h0, q⟩
theorem ok_measure (F : FnP K "measure" sMeasure f fd) (o_plain : Ok P w K mg base "is_plain" 1 ["form"] (spIsPlain K))
    (z_sum : mg "sum" = none) (z_len : mg "len" = none) : FnOk P w K mg base CX0 2 f fd ["pieces"] spMeasure := by
  have nd := scMeasure.nd
  refine F.ok scMeasure (fun vs H Q E h => ?_) (fun cdv A outer s H vs Q E hr h => ?_)
  · obtain ⟨pl, it, fm, n, rfl, _⟩ := h
    rfl
  · obtain ⟨pl, it, fm, n, rfl, hp, hi, hf, h0, h9, q⟩ := h
    have hr1 : Room 1 (A.deeper (envOfC "measure" (defScope sMeasure) s.heap.objs.size f cdv)) := hr.mono (by decide)
    refine ⟨_, PSs.nox (pss_one (ps_ret (pe_callB (cr_sum rfl) (by rfl) z_sum (by decide +kernel) (pa_cons
      (pe_lc (own := [("word", 1), ("form", 2)]) (g := gTup K 2 (gCons (gName 1) (gCons (gName 2) gNil))) (by rfl) nd (pi_list (pv 0)) (blkOk_by (N := ["pieces", "word", "form"]) (sc := defScope sMeasure) (own := [("word", 1), ("form", 2)]) (by decide +kernel))
        (fun _ _ _ _ _ => pg_tup rfl (pgs_cons (pg_name (i := 1) nd rfl (Or.inl rfl)) (pgs_cons (pg_name (i := 2) nd rfl (Or.inl rfl)) pgs_nil))) (fun _ _ _ _ _ => pts_nil)
        (fun _ _ _ _ _ => pe_op op_mul (pe_callB len_S (by rfl) z_len boot_len (pa_cons (pv 1) pa_nil)) (pe_op op_add (pe_ix (ix_tupK (K := K) rfl) (pv 2) pe_int (fun _ _ => rfl)) (pe_ifExp (pt_val (pe_callO o_plain hr1 (by rfl) (pa_cons (pv 2) pa_nil))) pe_int pe_int)))) pa_nil)))), ?_⟩
    have el : ("a" : Str).length = 1 := by decide +kernel
    refine ⟨_, rfl, pl, rfl, ⟨_, SqL.of hp⟩, fun D nD => lc_list (K := K) (a := pl) (xs := [.ref it]) (fun k H' => Same H H' ∧ ∃ m : Int, m ≤ 2 ∧ H' D = some (.lst (([m].take k).map V.int))) ⟨same_new nD, 0, by decide, upd_same⟩ (fun k H' _ p => p.1.seq (SqL.of hp)) ?_ ?_⟩
    · rintro k y H' hk ⟨sm, _, _, hD⟩
      have hk1 : k = 0 := by
        have := (List.getElem?_eq_some_iff.mp hk).1
        simp at this
        exact this
      subst hk1
      have ey : y = .ref it := (Option.some.inj hk).symm
      subst ey
      refine ⟨it, _, rfl, SqT.ext (SqT.of hi) sm, rfl, _, _, rfl, _, _, rfl, rfl, rfl, ?_⟩
      refine ⟨_, rfl, _, 1, rfl, by decide +kernel, el, _, rfl, fm, _, _, _, rfl, rfl, SqT.ext (SqT.of hf) sm, rfl, _, rfl, fm, n, rfl, sm _ _ hf, h0, h9, fun H1 s1 => ?_⟩
      refine ⟨_, rfl, ?_⟩
      have fin : ∀ c : Int, c = 0 ∨ c = 1 → ∃ acc, H1 D = some (.lst acc) ∧ acc.length < sizeLine ∧ (Same H (upd H1 D (.lst (acc ++ [V.int (1 * (1 + c))]))) ∧ ∃ m : Int, m ≤ 2 ∧ (upd H1 D (.lst (acc ++ [V.int (1 * (1 + c))]))) D = some (.lst (([m].take (0 + 1)).map V.int))) := by
        intro c hc
        refine ⟨_, s1 _ _ hD, (by show 0 < sizeLine; decide), fun b o e => ?_, 1 * (1 + c), by omega, upd_same⟩
        rw [upd_ne (ne_of_none (H := H) e nD)]
        exact s1 _ _ (sm _ _ e)
      by_cases c : n = 0
      · rw [decide_eq_true c]
        exact iteT ⟨_, _, rfl, rfl, _, _, rfl, rfl, .inl ⟨by decide, by decide⟩, fin 0 (.inl rfl)⟩
      · rw [decide_eq_false c]
        exact iteF ⟨_, _, rfl, rfl, _, _, rfl, rfl, .inl ⟨by decide, by decide⟩, fin 1 (.inr rfl)⟩
    · rintro H' ⟨sm, m, hm, hD⟩
      refine ⟨D, [m], rfl, SqL.of hD, ?_⟩
      have e : [m].sum = m := by simp
      show Q (.int [m].sum) H'
      rw [e]
      exact q H' m hm sm
end
end K8
set_option Elab.async false
set_option linter.all false
set_option maxRecDepth 100000
set_option maxHeartbeats 4000000
namespace K8
open PySem PySem.Spec PyProof.Rows L2 XV
section
variable {P : Program} {w : World} {K : PySem.W.Frag} {mg : Str → Option Value} {base : Heap} {f : Addr} {fd : FuncData}
theorem far {H : Hp} {t D : Addr} {o : HO} (n : H t = none) (h : H D = some o) : t ≠ D := fun e => by
  rw [e, h] at n
  cases n
theorem far2 {H : Hp} {t D : Addr} {o u : HO} (n : H t = some u) (h : H D = some o) (x : u ≠ o) : t ≠ D := fun e => by
  rw [e, h] at n
  exact x (Option.some.inj n).symm
theorem ok_addPower (F : FnP K "add_power" sAddPower f fd) (o_plain : Ok P w K mg base "is_plain" 1 ["form"] (spIsPlain K)) : FnOk P w K mg base CX0 2 f fd ["many", "done", "word", "form"] spAddPower := by
  have nd := scAddPower.nd
  refine F.ok scAddPower (fun vs H Q E h => ?_) (fun cdv A outer s H vs Q E hr h => ?_)
  · obtain ⟨D, fm, n, rfl, _⟩ := h
    rfl
  · obtain ⟨D, fm, n, rfl, hD, hf, q⟩ := h
    have hr1 : Room 1 (A.deeper (envOfC "add_power" (defScope sAddPower) s.heap.objs.size f cdv)) := hr.mono (by decide)
    refine ⟨_, PSs.nox (pss_cons (ps_set (i := 4) nd rfl (Or.inl rfl) (pe_op op_catT (pe_tup (pa_cons pe_int pa_nil)) (pe_slice sl_tup (pv 3) (po_some pe_int) po_none)))
 (pss_cons (ps_if (PW.pt (pw_and (pt_cmpR (op_neD hr1.units) (pv 1) (pe_lst pa_nil) (nomark _)) (pw_and (pt_cmpR op_eq (pe_ix ix_tup (pe_ix ix_list (pv 1) (pe_un un_neg pe_int) (fun _ _ => rfl)) pe_int (fun _ _ => rfl)) (pv 2) (nomark _)) (pw_and1 (pt_not (pt_val (pe_callO o_plain hr1 (by rfl) (pa_cons (pe_ix ix_tup (pe_ix ix_list (pv 1) (pe_un un_neg pe_int) (fun _ _ => rfl)) pe_int (fun _ _ => rfl)) pa_nil)))))))) (pss_one (ps_never)) pss_nil)
 (pss_one (ps_expr (pe_bm PySem.F.plainAttrs_list PySem.F.slot_list_append PySem.F.type_list_append append_M (pv 1) (pa_cons (pe_tup (pa_cons (pv 2) (pa_cons (pv 4) pa_nil))) pa_nil)))))), ?_⟩
    refine ⟨(by show 1 ≤ sizeLine; decide), fun p np => ⟨_, rfl, _, rfl, fm, _, rfl, SqT.of (same_new np _ _ hf), (fun z => absurd z.1 (by show ¬ (HT.sIx 2 0 (some 1) = 0); decide)), fun l nl => ?_⟩⟩
    have hp : (upd (upd H p (.tup [V.int 0])) l (.tup [V.int n])) p = some (.tup [.int 0]) := same_new nl _ _ upd_same
    have s1 : Same H (upd (upd H p (.tup [V.int 0])) l (.tup [V.int n])) := (same_new np).trans (same_new nl)
    have hl : (upd (upd H p (.tup [V.int 0])) l (.tup [V.int n])) l = some (.tup [.int n]) := upd_same
    refine ⟨p, l, [.int 0], [.int n], rfl, rfl, SqT.of hp, SqT.of hl, by decide, (by show 2 ≤ sizeLine; decide), (fun e => by cases e), fun _ u nu => ?_⟩
    have s2 : Same H (upd (upd (upd H p (.tup [V.int 0])) l (.tup [V.int n])) u (.tup [.int 0, .int n])) := s1.trans (same_new nu)
    have hu : (upd (upd (upd H p (.tup [V.int 0])) l (.tup [V.int n])) u (.tup [.int 0, .int n])) u = some (.tup [.int 0, .int n]) := upd_same
    refine ⟨_, rfl, (by show 0 ≤ sizeLine; decide), fun c nc => ?_⟩
    have s3 := s2.trans (same_new (o := .lst []) nc)
    have hu3 := same_new (o := .lst []) nc _ _ hu
    refine ⟨.list [], .list [], .lst (SqL.of (s3 _ _ hD)) .nil, .lst (SqL.of upd_same) .nil, by decide +kernel, by decide +kernel, false, rfl, iteF ?_⟩
    have hD3 := s3 _ _ hD
    refine ⟨_, rfl, .inl ⟨rfl, _, SqL.of hD3⟩, _, rfl, _, rfl, (by show 2 ≤ sizeLine; decide), fun t nt => ?_⟩
    have s4 := s3.trans (same_new (o := .tup [.str "a", .ref u]) nt)
    have hu4 := same_new (o := .tup [.str "a", .ref u]) nt _ _ hu3
    have nD : t ≠ D := far nt hD3
    have uD : u ≠ D := far2 hu3 hD3 (by intro e; cases e)
    refine ⟨D, [], _, rfl, rfl, s4 _ _ hD, by decide, ?_⟩
    refine q _ t u (But.at (Same.but s4)) upd_same ?_ ?_
    · rw [upd_ne nD]
      exact upd_same
    · rw [upd_ne uD]
      exact hu4
end
end K8
set_option Elab.async false
set_option linter.all false
set_option maxRecDepth 100000
set_option maxHeartbeats 4000000
namespace K8
open PySem PySem.Spec PyProof.Rows L2 XV
abbrev sNP : Stmt := top 56
abbrev nNP : List Str := ["many", "pieces", "done", "fixed", "word", "form", "root", "passing", "staying"]
theorem scNP : FnScope nNP ["many", "pieces"] (defScope sNP) := ⟨rfl, rfl, rfl, by decide +kernel, rfl, by decide +kernel, by decide +kernel⟩
def dNP (n : Int) : PyData := if n = 0 then .list [.tuple [.str "a", .tuple [.int 1, .int 0]]] else .list [.tuple [.str "a", .tuple [.int 0, .int n]], .tuple [.str "a", .tuple [.int 1, .int 0]]]
theorem dNP_shaped (n : Int) (h0 : 0 ≤ n) (h9 : n < 9) : SeqAt.shaped (dNP n) = true := by
  have h : ∀ k : Fin 9, SeqAt.shaped (dNP ((k.val : Nat) : Int)) = true := by decide +kernel
  have := h ⟨n.toNat, by omega⟩
  rw [show ((n.toNat : Nat) : Int) = n from Int.toNat_of_nonneg h0] at this
  exact this
def spNP (K : PySem.W.Frag) : Sp := fun vs H Q _ => ∃ (pl it fm : Addr) (n : Int), vs = [.int 1, .ref pl] ∧ H pl = some (.lst [.ref it]) ∧ H it = some (.tup [.str "a", .ref fm]) ∧ H fm = some (.tup [.int 1, .int n]) ∧ 0 ≤ n ∧ n < 9 ∧
  ∀ (H' : Hp) (l : Addr), Same H H' → Dp K H' (.ref l) (dNP n) → Q (.ref l) H'
theorem mul_a : Txt.mul "a" 1 = ("a" : Str) := by decide +kernel
theorem mulok_a : MulOk "a" 1 := ⟨by decide, fun _ => by decide +kernel, fun _ => by decide +kernel⟩
theorem same_but {H H1 H2 : Hp} {D : Addr} (n : H D = none) (s : Same H H1) (b : But H1 H2 D) : Same H H2 := fun x o e => b x o (ne_of_none (H := H) e n) (s x o e)
section
variable {P : Program} {w : World} {K : PySem.W.Frag} {mg : Str → Option Value} {base : Heap} {f : Addr} {fd : FuncData}
theorem ok_np (F : FnP K "normal_pieces" sNP f fd) (o_plain : Ok P w K mg base "is_plain" 1 ["form"] (spIsPlain K)) (o_root : Ok P w K mg base "root_of" 1 ["word"] spRoot) (o_times : Ok P w K mg base "form_times" 1 ["form", "times"] spTimes)
    (o_common : Ok P w K mg base "common_end" 1 ["text", "word"] spCommon) (o_turned : Ok P w K mg base "turned" 1 ["word", "letters"] spTurned) (o_fixed : Ok P w K mg base "add_fixed" 2 ["many", "done", "word"] spAddFixed) (o_power : Ok P w K mg base "add_power" 2 ["many", "done", "word", "form"] spAddPower)
    (z_any : mg "any" = none) (z_len : mg "len" = none) : FnOk P w K mg base CX0 3 f fd ["many", "pieces"] (spNP K) := by
  have nd := scNP.nd
  refine F.ok scNP (fun vs H Q E h => ?_) (fun cdv A outer s H vs Q E hr h => ?_)
  · obtain ⟨pl, it, fm, n, rfl, _⟩ := h
    rfl
  · obtain ⟨pl, it, fm, n, rfl, hp, hi, hf, h0, h9, q⟩ := h
    have el : ("a" : Str).length = 1 := by decide +kernel
    refine ⟨_, PSs.nox (pss_cons (ps_set (i := 2) nd rfl (Or.inl rfl) (pe_lst pa_nil))
 (pss_cons (ps_set (i := 3) nd rfl (Or.inl rfl) pe_str)
 (pss_cons (ps_for PassesOwn.never rfl (pi_list (pv 1)) (pg_tup rfl (pgs_cons (pg_name (i := 4) nd rfl (Or.inl rfl)) (pgs_cons (pg_name (i := 5) nd rfl (Or.inl rfl)) pgs_nil))) (pss_cons (ps_if (PW.pt (pw_or (pt_cmpR op_eq (pv 4) pe_str (nomark _)) (pw_or1 (pt_not (pt_val (pe_callB (call_anyT rfl) (by rfl) z_any (by decide +kernel) (pa_cons (pv 5) pa_nil))))))) (pss_one (ps_continue)) pss_nil)
 (pss_cons (ps_if (pt_val (pe_callO o_plain (hr.mono (by decide)) (by rfl) (pa_cons (pv 5) pa_nil))) (pss_cons (ps_aug (i := 3) nd rfl (Or.inl rfl) (pe_op op_mulS (pv 4) (pe_ix ix_tup (pv 5) pe_int (fun _ _ => rfl))) ip_addS)
 (pss_one (ps_continue))) pss_nil)
 (pss_cons (ps_set (i := 6) nd rfl (Or.inl rfl) (pe_callO o_root (hr.mono (by decide)) (by rfl) (pa_cons (pv 4) pa_nil)))
 (pss_cons (ps_set (i := 5) nd rfl (Or.inl rfl) (pe_callO o_times (hr.mono (by decide)) (by rfl) (pa_cons (pv 5) (pa_cons (pe_op op_fdivW (pe_callB call_len (by rfl) z_len boot_len (pa_cons (pv 4) pa_nil)) (pe_callB call_len (by rfl) z_len boot_len (pa_cons (pv 6) pa_nil))) pa_nil))))
 (pss_cons (ps_set (i := 7) nd rfl (Or.inl rfl) (pe_callO o_common (hr.mono (by decide)) (by rfl) (pa_cons (pv 3) (pa_cons (pv 6) pa_nil))))
 (pss_cons (ps_set (i := 8) nd rfl (Or.inl rfl) (pe_slice sl_str (pv 3) po_none (po_some (pe_op op_sub (pe_callB call_len (by rfl) z_len boot_len (pa_cons (pv 3) pa_nil)) (pv 7)))))
 (pss_cons (ps_expr (pe_callO o_fixed (hr.mono (by decide)) (by rfl) (pa_cons (pv 0) (pa_cons (pv 2) (pa_cons (pv 8) pa_nil)))))
 (pss_cons (ps_expr (pe_callO o_power (hr.mono (by decide)) (by rfl) (pa_cons (pv 0) (pa_cons (pv 2) (pa_cons (pe_callO o_turned (hr.mono (by decide)) (by rfl) (pa_cons (pv 6) (pa_cons (pv 7) pa_nil))) (pa_cons (pv 5) pa_nil))))))
 (pss_one (ps_set (i := 3) nd rfl (Or.inl rfl) (pe_op op_add_str (pe_slice sl_str (pv 3) (po_some (pe_callB call_len (by rfl) z_len boot_len (pa_cons (pv 8) pa_nil))) po_none) (pe_op op_mulS (pv 6) (pe_ix ix_tup (pv 5) pe_int (fun _ _ => rfl)))))))))))))))
 (pss_cons (ps_expr (pe_callO o_fixed (hr.mono (by decide)) (by rfl) (pa_cons (pv 0) (pa_cons (pv 2) (pa_cons (pv 3) pa_nil)))))
 (pss_one (ps_ret (pv 2))))))), ?_⟩
    refine ⟨(by show 0 ≤ sizeLine; decide), fun D nD => ?_⟩
    have s1 := same_new (o := .lst []) nD
    refine ⟨_, rfl, pl, rfl, ⟨_, SqL.of (s1 _ _ hp)⟩, for_list (K := K) (a := pl) (xs := [.ref it]) (fun k σ H' => Same H H' ∧ ∃ x4 x5 x6 x7 x8, σ = [some (.int 1), some (.ref pl), some (.ref D), some (.str (if k = 0 then "" else "a")), x4, x5, x6, x7, x8] ∧
      ((H' D = some (.lst []) ∧ (k = 0 ∨ n = 0)) ∨ (k ≠ 0 ∧ n ≠ 0 ∧ ∃ t u, H' D = some (.lst [.ref t]) ∧ H' t = some (.tup [.str "a", .ref u]) ∧ H' u = some (.tup [.int 0, .int n]))))
      ⟨s1, _, _, _, _, _, rfl, .inl ⟨upd_same, .inl rfl⟩⟩ (fun i σ H' _ p => p.1.seq (SqL.of hp)) ?_ ?_⟩
    · rintro k y σ H' hk ⟨sm, x4, x5, x6, x7, x8, rfl, hc⟩
      have hk1 : k = 0 := by
        have := (List.getElem?_eq_some_iff.mp hk).1
        simp at this
        exact this
      subst hk1
      have ey : y = .ref it := (Option.some.inj hk).symm
      subst ey
      have hD : H' D = some (.lst []) := by
        rcases hc with h | ⟨z, _⟩
        · exact h.1
        · exact absurd rfl z
      refine ⟨it, _, rfl, SqT.ext (SqT.of hi) sm, rfl, _, _, rfl, _, _, rfl, rfl, ?_⟩
      refine ⟨_, rfl, rfl, false, congrArg V.bl (by decide +kernel), iteF ⟨_, rfl, fm, _, [.int 1, .int n], rfl, SqT.ext (SqT.of hf) sm, .cons (.int 1) (.cons (.int n) .nil), rfl, ?_, _, rfl, iteF ?_⟩⟩
      · intro d hd
        rcases List.mem_cons.mp hd with e | e
        · rw [e]
          trivial
        · rcases List.mem_cons.mp e with e | e
          · rw [e]
            trivial
          · cases e
      refine ⟨_, rfl, fm, n, rfl, sm _ _ hf, h0, h9, fun H1 s2 => ⟨_, rfl, ?_⟩⟩
      have s3 := sm.trans s2
      have hD1 := s2 _ _ hD
      by_cases c : n = 0
      · rw [decide_eq_true c]
        refine iteT ⟨_, rfl, _, rfl, _, rfl, fm, _, _, _, rfl, rfl, SqT.ext (SqT.of hf) s3, rfl, _, _, rfl, rfl, mulok_a, _, _, rfl, rfl, by decide +kernel, ?_⟩
        refine ⟨s3, _, _, _, _, _, rfl, .inl ⟨hD1, .inr c⟩⟩
      · rw [decide_eq_false c]
        refine iteF ⟨_, rfl, rfl, ?_⟩
        refine ⟨_, rfl, _, rfl, _, 1, rfl, ⟨by decide +kernel, el⟩, _, rfl, _, 1, rfl, ⟨by decide +kernel, el⟩, _, _, rfl, rfl, ⟨by decide, by decide⟩, fm, n, rfl, s3 _ _ hf, h0, h9, fun H2 g s4 hg => ?_⟩
        have s5 := s3.trans s4
        refine ⟨_, rfl, _, rfl, rfl, ?_⟩
        refine ⟨_, rfl, _, rfl, _, 0, rfl, ⟨by decide +kernel, by decide +kernel⟩, _, rfl, _, _, rfl, rfl, _, rfl, _, rfl, by decide +kernel, ?_⟩
        refine ⟨_, rfl, _, rfl, _, rfl, D, "", [], rfl, s4 _ _ hD1, by decide, .inl ⟨by decide +kernel, ?_⟩⟩
        refine ⟨_, rfl, _, rfl, _, rfl, _, rfl, rfl, _, rfl, D, g, n, rfl, s4 _ _ hD1, hg, fun H3 t u b3 h1 h2 h3 => ?_⟩
        refine ⟨_, rfl, _, rfl, _, 0, rfl, ⟨by decide +kernel, by decide +kernel⟩, _, rfl, _, rfl, by decide +kernel, ?_⟩
        have s6 := same_but nD s5 b3
        have hg3 : H3 g = some (.tup [.int 1, .int n]) := b3 _ _ (far2 hg (s4 _ _ hD1) (by intro e; cases e)) hg
        refine ⟨_, rfl, _, rfl, g, _, _, _, rfl, rfl, SqT.of hg3, rfl, _, _, rfl, rfl, mulok_a, _, _, rfl, rfl, by decide +kernel, ?_⟩
        have e3 : (cutS "" (some ((0 : Nat) : Int)) none ++ Txt.mul "a" 1 : Str) = "a" := by decide +kernel
        exact ⟨s6, _, _, _, _, _, congrArg (fun z => [some (V.int 1), some (V.ref pl), some (V.ref D), some (V.str z), some (V.str "a"), some (V.ref g), some (V.str "a"), some (V.int 0), some (V.str "")]) e3, .inr ⟨by decide, c, t, u, h1, h2, h3⟩⟩
    · rintro σ H' ⟨sm, x4, x5, x6, x7, x8, rfl, hc⟩
      rcases hc with ⟨hD, z⟩ | ⟨_, c, t, u, h1, h2, h3⟩
      · have c : n = 0 := by
          rcases z with z | z
          · cases z
          · exact z
        refine ⟨_, rfl, _, rfl, _, rfl, D, "a", [], rfl, hD, by decide, .inr ⟨rfl, fun H1 t u b h1 h2 h3 => ⟨_, rfl, q _ D (same_but nD sm b) ?_⟩⟩⟩
        rw [show dNP n = _ from if_pos c]
        exact .lst (SqL.of h1) (.cons (.tup (SqT.of h2) (.cons (.str "a") (.cons (.tup (SqT.of h3) (.cons (.int 1) (.cons (.int 0) .nil))) .nil))) .nil)
      · refine ⟨_, rfl, _, rfl, _, rfl, D, "a", [.ref t], rfl, h1, (by show 1 ≤ 100; decide), .inr ⟨rfl, fun H1 t' u' b h1' h2' h3' => ⟨_, rfl, q _ D (same_but nD sm b) ?_⟩⟩⟩
        have ht := b _ _ (far2 h2 h1 (by intro e; cases e)) h2
        have hu := b _ _ (far2 h3 h1 (by intro e; cases e)) h3
        rw [show dNP n = _ from if_neg c]
        exact .lst (SqL.of h1') (.cons (.tup (SqT.of ht) (.cons (.str "a") (.cons (.tup (SqT.of hu) (.cons (.int 0) (.cons (.int n) .nil))) .nil))) (.cons (.tup (SqT.of h2') (.cons (.str "a") (.cons (.tup (SqT.of h3') (.cons (.int 1) (.cons (.int 0) .nil))) .nil))) .nil))
end
end K8
set_option Elab.async false
set_option linter.all false
set_option maxRecDepth 100000
set_option maxHeartbeats 4000000
namespace K8
open PySem PySem.Spec PyProof.Rows L2 XV
abbrev sNormal : Stmt := top 52
theorem scNormal : FnScope ["many", "pieces", "item"] ["many", "pieces"] (defScope sNormal) := ⟨rfl, rfl, rfl, by decide +kernel, rfl, by decide +kernel, by decide +kernel⟩
def clsBody (i j : Nat) : Stmt := match top i with
  | .ClassDef _ _ _ b _ _ _ _ _ _ _ => b.getD j (.Pass ⟨0, 0, 0, 0⟩)
  | _ => .Pass ⟨0, 0, 0, 0⟩
section
variable {P : Program} {w : World} {K : PySem.W.Frag} {mg : Str → Option Value} {base : Heap} {f : Addr} {fd : FuncData}
theorem ok_normal (F : FnP K "normal" sNormal f fd) (o_many : Ok P w K mg base "require_many" 4 ["many"] spReqMany) (o_piece : Ok P w K mg base "is_piece" 4 ["many", "item"] spIsPiece) (o_measure : Ok P w K mg base "measure" 2 ["pieces"] spMeasure) (o_req : Ok P w K mg base "require_measure" 1 ["number"] spReqMeasure) (o_np : Ok P w K mg base "normal_pieces" 3 ["many", "pieces"] (spNP K))
    (z_isinstance : mg "isinstance" = none) (z_list : mg "list" = none) (z_len : mg "len" = none) {tM : Tok} (h_MP : mg "MOST_PIECES" = some (.int 5000 tM)) : FnOk P w K mg base CX0 5 f fd ["many", "pieces"] (spNP K) := by
  have nd := scNormal.nd
  refine F.ok scNormal (fun vs H Q E h => ?_) (fun cdv A outer s H vs Q E hr h => ?_)
  · obtain ⟨pl, it, fm, n, rfl, _⟩ := h
    rfl
  · obtain ⟨pl, it, fm, n, rfl, hp, hi, hf, h0, h9, q⟩ := h
    refine ⟨_, PSs.nox (pss_cons (ps_expr (pe_callO o_many (hr.mono (by decide)) (by rfl) (pa_cons (pv 0) pa_nil)))
 (pss_cons (ps_if (PW.pt (pw_or (pt_not (pt_val (pe_callB call_isi (by rfl) z_isinstance (by decide +kernel) (pa_cons (pv 1) (pa_cons (pe_bltn (v := .ty "list") (by rfl) z_list (by decide +kernel) rfl) pa_nil))))) (pw_or1 (pt_cmpR op_gt (pe_callB call_len (by rfl) z_len boot_len (pa_cons (pv 1) pa_nil)) (pe_glob (v := .int 5000) (by rfl) h_MP ⟨_, rfl⟩) (nomark _))))) (pss_one (ps_never)) pss_nil)
 (pss_cons (ps_for PassesOwn.never rfl (pi_list (pv 1)) (pg_name (i := 2) nd rfl (Or.inl rfl)) (pss_one (ps_if (pt_not (pt_val (pe_callO o_piece (hr.mono (by decide)) (by rfl) (pa_cons (pv 0) (pa_cons (pv 2) pa_nil))))) (pss_one (ps_never)) pss_nil)))
 (pss_cons (ps_expr (pe_callO o_req (hr.mono (by decide)) (by rfl) (pa_cons (pe_callO o_measure (hr.mono (by decide)) (by rfl) (pa_cons (pv 1) pa_nil)) pa_nil)))
 (pss_one (ps_ret (pe_callO o_np (hr.mono (by decide)) (by rfl) (pa_cons (pv 0) (pa_cons (pv 1) pa_nil))))))))), ?_⟩
    refine ⟨_, rfl, rfl, _, rfl, _, _, _, _, true, rfl, .ty "list", .base (.lst hp), kit_ty (by decide +kernel), _, rfl, iteF ⟨_, rfl, _, 1, rfl, .inl ⟨_, SqL.of hp, rfl⟩, _, _, rfl, rfl, false, rfl, iteF ?_⟩⟩
    refine ⟨_, rfl, pl, rfl, ⟨_, SqL.of hp⟩, for_list (K := K) (a := pl) (xs := [.ref it]) (fun k σ H' => Same H H' ∧ ∃ x2, σ = [some (.int 1), some (.ref pl), x2]) ⟨Same.refl H, _, rfl⟩ (fun i σ H' _ p => p.1.seq (SqL.of hp)) ?_ ?_⟩
    · rintro k y σ H' hk ⟨sm, x2, rfl⟩
      have hk1 : k = 0 := by
        have := (List.getElem?_eq_some_iff.mp hk).1
        simp at this
        exact this
      subst hk1
      have ey : y = .ref it := (Option.some.inj hk).symm
      subst ey
      exact ⟨_, rfl, _, rfl, it, fm, n, rfl, sm _ _ hi, sm _ _ hf, h0, fun H1 s1 => ⟨_, rfl, iteF ⟨sm.trans s1, _, rfl⟩⟩⟩
    · rintro σ H' ⟨sm, x2, rfl⟩
      refine ⟨_, rfl, pl, it, fm, n, rfl, sm _ _ hp, sm _ _ hi, sm _ _ hf, h0, h9, fun H1 m hm s1 => ⟨m, rfl, by omega, ?_⟩⟩
      have s2 := sm.trans s1
      exact ⟨_, rfl, _, rfl, pl, it, fm, n, rfl, s2 _ _ hp, s2 _ _ hi, s2 _ _ hf, h0, h9, fun H2 l s3 d => q H2 l (s2.trans s3) d⟩
end
abbrev sInit : Stmt := clsBody 60 0
abbrev sEq : Stmt := clsBody 60 3
theorem scInit : FnScope ["self", "many", "pieces"] ["self", "many", "pieces"] (defScope sInit) := ⟨rfl, rfl, rfl, by decide +kernel, rfl, by decide +kernel, by decide +kernel⟩
theorem scEq : FnScope ["self", "other"] ["self", "other"] (defScope sEq) := ⟨rfl, rfl, rfl, by decide +kernel, rfl, by decide +kernel, by decide +kernel⟩
/-- what is known of the class of texts -/
structure TC (K : PySem.W.Frag) (CT : Addr) : Prop where
  cls : Cls K CT
  n1 : NoAttr K CT "_pieces"
  n2 : NoAttr K CT "_many"
  ha : PySem.W.findIn K (.ref CT) "__class__" = some (some (.builtin "object.__class__"))
  hn : PySem.W.specialIn K (.builtin "object.__class__") "__get__" = some (some (.builtin "getset_descriptor.__get__"))
  ht : PySem.W.takesIn K (.builtin "object.__class__") = some true
  hm : PySem.W.mroIn K CT (.type "object") = some true
  one : PySem.W.kitOne K (.ref CT) (.ref CT) = some true
def spInit (K : PySem.W.Frag) (CT : Addr) : Sp := fun vs H Q _ => ∃ (x dx pl it fm : Addr) (n : Int), vs = [.ref x, .int 1, .ref pl] ∧ H x = some (.ins CT dx []) ∧ H pl = some (.lst [.ref it]) ∧ H it = some (.tup [.str "a", .ref fm]) ∧ H fm = some (.tup [.int 1, .int n]) ∧ 0 ≤ n ∧ n < 9 ∧
  ∀ (H' : Hp) (l : Addr), But H H' x → H' x = some (.ins CT dx [("_pieces", .ref l), ("_many", .int 1)]) → Dp K H' (.ref l) (dNP n) → Q .non H'
theorem rd_at {H : Hp} {x a C dx : Addr} {fs : List (Str × V)} {u v : HO} (e : H x = some (.ins C dx fs)) (hv : ∀ C dx fs, v ≠ .ins C dx fs) (h : Rd H a v) : Rd (upd H x u) a v := by
  rcases h with h | ⟨o, h⟩
  · refine .inl ?_
    rw [upd_ne (far2 h e (hv _ _ _))]
    exact h
  · refine .inr ⟨o, ?_⟩
    rw [upd_ne (far2 h e (by intro z; cases z))]
    exact h
theorem sq_at {K : PySem.W.Frag} {H : Hp} {x a C dx : Addr} {fs : List (Str × V)} {u : HO} {xs : List V} (e : H x = some (.ins C dx fs)) (h : SqL K H a xs) : SqL K (upd H x u) a xs := by
  rcases h with h | h
  · exact .inl (rd_at e (fun _ _ _ z => by cases z) h)
  · exact .inr h
theorem st_at {K : PySem.W.Frag} {H : Hp} {x a C dx : Addr} {fs : List (Str × V)} {u : HO} {xs : List V} (e : H x = some (.ins C dx fs)) (h : SqT K H a xs) : SqT K (upd H x u) a xs := by
  rcases h with h | h
  · exact .inl (rd_at e (fun _ _ _ z => by cases z) h)
  · exact .inr h
mutual
theorem dp_at {K : PySem.W.Frag} {H : Hp} {x C dx : Addr} {fs : List (Str × V)} {u : HO} (e : H x = some (.ins C dx fs)) : ∀ (d : PyData) (v : V), Dp K H v d → Dp K (upd H x u) v d
  | .none, _, h => by
    cases h
    exact .non
  | .bool b, _, h => by
    cases h
    exact .bl b
  | .int i, _, h => by
    cases h
    exact .int i
  | .str x, _, h => by
    cases h
    exact .str x
  | .list ds, _, h => by
    cases h with
    | lst hs ha => exact .lst (sq_at e hs) (dps_at e ds _ ha)
  | .tuple ds, _, h => by
    cases h with
    | tup hs ha => exact .tup (st_at e hs) (dps_at e ds _ ha)
  | .dict _, _, h => by cases h
theorem dps_at {K : PySem.W.Frag} {H : Hp} {x C dx : Addr} {fs : List (Str × V)} {u : HO} (e : H x = some (.ins C dx fs)) : ∀ (ds : List PyData) (vs : List V), DpAll K H vs ds → DpAll K (upd H x u) vs ds
  | [], _, h => by
    cases h
    exact .nil
  | d :: ds, _, h => by
    cases h with
    | cons h1 h2 => exact .cons (dp_at e d _ h1) (dps_at e ds _ h2)
end
section
variable {P : Program} {w : World} {K : PySem.W.Frag} {mg : Str → Option Value} {base : Heap} {f : Addr} {fd : FuncData} {CT : Addr}
theorem ok_init (F : FunD K "__init__" "OpenText.__init__" (defArgs sInit) (defBody sInit) (defScope sInit) [] [] f fd) (T : TC K CT) (o_normal : Ok P w K mg base "normal" 5 ["many", "pieces"] (spNP K)) :
    FnOk P w K mg base CX0 6 f fd ["self", "many", "pieces"] (spInit K CT) := by
  refine F.ok scInit (fun vs H Q E h => ?_) (fun cdv A outer s H vs Q E hr h => ?_)
  · obtain ⟨x, dx, pl, it, fm, n, rfl, _⟩ := h
    rfl
  · obtain ⟨x, dx, pl, it, fm, n, rfl, hx, hp, hi, hf, h0, h9, q⟩ := h
    refine ⟨_, PSs.nox (pss_cons (ps_fld (pv 0) (pe_callO o_normal (hr.mono (by decide)) (by rfl) (pa_cons (pv 1) (pa_cons (pv 2) pa_nil))) rfl)
 (pss_one (ps_fld (pv 0) (pv 1) rfl))), ?_⟩
    refine ⟨_, rfl, _, rfl, pl, it, fm, n, rfl, hp, hi, hf, h0, h9, fun H1 l s1 hd => ⟨_, rfl, x, CT, dx, [], rfl, s1 _ _ hx, T.cls, T.n1, by decide, ?_⟩⟩
    have hx1 := s1 _ _ hx
    refine ⟨_, rfl, _, rfl, x, CT, dx, _, rfl, upd_same, T.cls, T.n2, (by show 1 < 1000; decide), ?_⟩
    have d1 := dp_at (u := .ins CT dx [("_pieces", .ref l)]) hx1 _ _ hd
    have d2 := dp_at (u := .ins CT dx [("_pieces", .ref l), ("_many", .int 1)]) (H := upd H1 x (.ins CT dx [("_pieces", .ref l)])) upd_same _ _ d1
    exact q _ l (But.at (But.at (Same.but s1))) upd_same d2
theorem ok_eq (F : FunD K "__eq__" "OpenText.__eq__" (defArgs sEq) (defBody sEq) (defScope sEq) [] [] f fd) (T : TC K CT) (z_isinstance : mg "isinstance" = none) (g : mg "OpenText" = some (.ref CT)) :
    FnOk P w K mg base CX0 3 f fd ["self", "other"] (spEq (RT K CT)) := by
  refine F.ok scEq (fun vs H Q E h => ?_) (fun cdv A outer s H vs Q E hr h => ?_)
  · obtain ⟨a, b, rfl, _⟩ := h
    rfl
  · obtain ⟨a, b, rfl, ⟨rfl, dx, l, d, ha, hd, hs⟩, q⟩ := h
    refine ⟨_, PSs.nox (pss_one (ps_ret (pe_and (pe_callB call_isi (by rfl) z_isinstance (by decide +kernel) (pa_cons (pv 1) (pa_cons (pe_glob (v := .ref CT) (by rfl) g rfl) pa_nil))) (pe_and (pe_cmpR op_eq (pe_fld (pv 0) rfl) (pe_fld (pv 1) rfl) (nomark _)) (pe_one (pe_cmpR (op_eqD hr.units) (pe_fld (pv 0) rfl) (pe_fld (pv 1) rfl) (nomark _))))))), ?_⟩
    refine ⟨_, rfl, _, _, _, _, true, rfl, .own CT, .base (.ins ha T.cls T.ha T.hn T.ht T.hm), T.one, true, rfl, ?_⟩
    refine ⟨_, rfl, a, CT, dx, _, _, rfl, ha, T.cls, T.n2, rfl, _, rfl, a, CT, dx, _, _, rfl, ha, T.cls, T.n2, rfl, rfl, true, rfl, ?_⟩
    refine ⟨_, rfl, a, CT, dx, _, _, rfl, ha, T.cls, T.n1, rfl, _, rfl, a, CT, dx, _, _, rfl, ha, T.cls, T.n1, rfl, d, d, hd, hd, hs, hs, ?_⟩
    rw [SeqAt.eqv_refl _ (SeqAt.canLay_of_shaped hs)]
    exact q _ Ext.rfl'
end
end K8
set_option Elab.async false
set_option linter.all false
set_option maxRecDepth 100000
set_option maxHeartbeats 4000000
namespace K8
open PySem PySem.Spec PyProof.Rows L2 XV
section
variable {P : Program} {w : World} {K : PySem.W.Frag} {mg : Str → Option Value} {base : Heap} {f : Addr} {fd : FuncData} {CT : Addr}
abbrev sValue : Stmt := top 73
theorem scValue : FnScope ["_law_generator_here", "_law_kind"] ["_law_generator_here"] (defScope sValue) := ⟨rfl, rfl, rfl, by decide +kernel, rfl, by decide +kernel, by decide +kernel⟩
theorem mulok_ab : ∀ k : Fin 3, MulOk "ab" ((k.val : Nat) : Int) := by
  have h : ∀ k : Fin 3, (decide (((k.val : Nat) : Int) < -(2 ^ 63 : Int)) || decide (((k.val : Nat) : Int) ≥ 2 ^ 63)) = false ∧ ¬ ((("ab" : Str).length : Int) > (2 ^ 63 - 1) / ((k.val : Nat) : Int) ∧ ¬ ((k.val : Nat) : Int) < 1) ∧ Builtin.Str.tooLong (("ab" : Str).length * ((k.val : Nat) : Int).toNat) = false := by decide +kernel
  intro k
  obtain ⟨h1, h2, h3⟩ := h k
  exact ⟨h1, fun a _ z => h2 ⟨z, a⟩, fun _ _ => h3⟩
theorem str_ab : ∀ k : Fin 3, SeqAt.shaped (.str (Txt.mul "ab" ((k.val : Nat) : Int))) = true := by decide +kernel
theorem main_shaped (n : Int) (h0 : 0 ≤ n) (h9 : n < 9) : SeqAt.shaped (.tuple [.str "main", .tuple [.int n]]) = true := by
  have h : ∀ k : Fin 9, SeqAt.shaped (.tuple [.str "main", .tuple [.int ((k.val : Nat) : Int)]]) = true := by decide +kernel
  have := h ⟨n.toNat, by omega⟩
  rw [show ((n.toNat : Nat) : Int) = n from Int.toNat_of_nonneg h0] at this
  exact this
theorem but_made {H H4 H5 H' : Hp} {g x : Addr} (b : But H H4 g) (s : Same H4 H5) (n : H4 x = none) (c : But H5 H' x) : But H H' g := fun y o ny e => c y o (ne_of_none (H := H4) (b y o ny e) n) (s y o (b y o ny e))
theorem same_two {H : Hp} {x dx : Addr} {o u : HO} (nx : H x = none) (ndx : H dx = none) (ne : dx ≠ x) : Same H (upd (upd H dx o) x u) :=
  (same_new ndx).trans (same_new (by
    rw [upd_ne (Ne.symm ne)]
    exact nx))
theorem ok_value (F : FnP K "_law_value" sValue f fd) (oRand : Ok P w K mg base "_law_random" 2 ["_law_generator_here", "_law_bound"] spRand) {fI : Addr} {fdI : FuncData} (M : Mk K CT fI) (FI : FnOk P w K mg base CX0 6 fI fdI ["self", "many", "pieces"] (spInit K CT)) (bI : Binds K fdI ["self", "many", "pieces"] []) (g : mg "OpenText" = some (.ref CT)) :
    FnOk P w K mg base CX0 12 f fd ["_law_generator_here"] (spValue K CT) := by
  have nd := scValue.nd
  refine F.ok scValue (fun vs H Q E h => ?_) (fun cdv A outer s H vs Q E hr h => ?_)
  · obtain ⟨ga, n, rfl, _⟩ := h
    rfl
  · obtain ⟨ga, n, rfl, dr, hn, q⟩ := h
    have r2 : Room 2 (A.deeper (envOfC "_law_value" (defScope sValue) s.heap.objs.size f cdv)) := hr.mono (by decide)
    refine ⟨_, PSs.nox (pss_cons (ps_set (i := 1) nd rfl (Or.inl rfl) (pe_callO oRand r2 (by rfl) (pa_cons (pv 0) (pa_cons pe_int pa_nil))))
 (pss_cons (ps_if (pt_cmpR op_eq (pv 1) pe_int (nomark _)) (pss_one (ps_ret (pe_callO oRand r2 (by rfl) (pa_cons (pv 0) (pa_cons (pe_op op_powW pe_int pe_int) pa_nil))))) pss_nil)
 (pss_cons (ps_if (pt_cmpR op_eq (pv 1) pe_int (nomark _)) (pss_one (ps_ret (pe_op op_mulS pe_str (pe_callO oRand r2 (by rfl) (pa_cons (pv 0) (pa_cons pe_int pa_nil)))))) pss_nil)
 (pss_cons (ps_if (pt_cmpR op_eq (pv 1) pe_int (nomark _)) (pss_one (ps_ret (pe_lst (pa_cons (pe_callO oRand r2 (by rfl) (pa_cons (pv 0) (pa_cons pe_int pa_nil))) (pa_cons pe_non pa_nil))))) pss_nil)
 (pss_cons (ps_if (pt_cmpR op_eq (pv 1) pe_int (nomark _)) (pss_one (ps_ret (pe_tup (pa_cons pe_str (pa_cons (pe_tup (pa_cons (pe_callO oRand r2 (by rfl) (pa_cons (pv 0) (pa_cons pe_int pa_nil))) pa_nil)) pa_nil))))) pss_nil)
 (pss_one (ps_ret (pe_ifExp (pt_cmpR op_eq (pv 1) pe_int (nomark _)) pe_non
   (pe_make M FI (hr.mono (by decide)) (by rfl) g bI .nil pass0 (pa_cons pe_int (pa_cons (pe_lst (pa_cons (pe_tup (pa_cons pe_str (pa_cons (pe_tup (pa_cons pe_int (pa_cons (pe_callO oRand r2 (by rfl) (pa_cons (pv 0) (pa_cons pe_int pa_nil))) pa_nil))) pa_nil))) pa_nil)) pa_nil))))))))))), ?_⟩
    have dn : n + 20 ≤ 1000000 := by omega
    refine ⟨_, rfl, ga, n, 6, rfl, dr, by omega, by decide, by decide, fun H1 r r0 r1 b1 d1 => ?_⟩
    refine ⟨_, rfl, rfl, _, rfl, ite2 (fun _ => ?_) (fun _ => ?_)⟩
    · refine ⟨_, rfl, _, _, rfl, rfl, ⟨by decide, by decide +kernel⟩, ga, n + 20, _, rfl, d1, dn, (by show (0 : Int) < 10 ^ 30; decide), (by show (10 : Int) ^ 30 < 10 ^ 100; decide), fun H2 v v0 v1 b2 d2 => ?_⟩
      exact q H2 _ (b1.trans b2) (.inl ⟨_, .int v, rfl⟩)
    refine ⟨_, rfl, rfl, _, rfl, ite2 (fun _ => ?_) (fun _ => ?_)⟩
    · refine ⟨_, rfl, ga, n + 20, 3, rfl, d1, dn, by decide, by decide, fun H2 v v0 v1 b2 d2 => ?_⟩
      have ev : (((⟨v.toNat, by omega⟩ : Fin 3).val : Nat) : Int) = v := Int.toNat_of_nonneg v0
      have m1 := mulok_ab ⟨v.toNat, by omega⟩
      have m2 := str_ab ⟨v.toNat, by omega⟩
      rw [ev] at m1 m2
      exact ⟨_, _, rfl, rfl, m1, q H2 _ (b1.trans b2) (.inl ⟨_, .str _, m2⟩)⟩
    refine ⟨_, rfl, rfl, _, rfl, ite2 (fun _ => ?_) (fun _ => ?_)⟩
    · refine ⟨_, rfl, ga, n + 20, 9, rfl, d1, dn, by decide, by decide, fun H2 v v0 v1 b2 d2 => ⟨(by show 2 ≤ sizeLine; decide), fun p np => ?_⟩⟩
      exact q _ _ ((b1.trans b2).trans (Same.but (same_new np))) (.inl ⟨.list [.int v, .none], .lst (SqL.of upd_same) (.cons (.int v) (.cons .non .nil)), rfl⟩)
    refine ⟨_, rfl, rfl, _, rfl, ite2 (fun _ => ?_) (fun _ => ?_)⟩
    · refine ⟨_, rfl, ga, n + 20, 9, rfl, d1, dn, by decide, by decide, fun H2 v v0 v1 b2 d2 => ⟨(by show 1 ≤ sizeLine; decide), fun p np => ⟨(by show 2 ≤ sizeLine; decide), fun t nt => ?_⟩⟩⟩
      have hp := same_new (o := .tup [.str "main", .ref p]) nt p _ upd_same
      exact q _ _ (((b1.trans b2).trans (Same.but (same_new np))).trans (Same.but (same_new nt))) (.inl ⟨.tuple [.str "main", .tuple [.int v]], .tup (SqT.of upd_same) (.cons (.str "main") (.cons (.tup (SqT.of hp) (.cons (.int v) .nil)) .nil)), main_shaped v v0 v1⟩)
    refine ⟨_, rfl, rfl, _, rfl, ite2 (fun _ => ?_) (fun _ => ?_)⟩
    · exact q H1 _ b1 (.inl ⟨_, .non, rfl⟩)
    refine ⟨_, rfl, ga, n + 20, 9, rfl, d1, dn, by decide, by decide, fun H2 v v0 v1 b2 d2 => ⟨(by show 2 ≤ sizeLine; decide), fun fm nf => ⟨(by show 2 ≤ sizeLine; decide), fun it ni => ⟨(by show 1 ≤ sizeLine; decide), fun pl np => fun x dx nx ndx ne => ?_⟩⟩⟩⟩
    have hfm := same_two (o := .own x) (u := .ins CT dx []) nx ndx ne fm _ (same_new np _ _ (same_new ni _ _ upd_same))
    have hit := same_two (o := .own x) (u := .ins CT dx []) nx ndx ne it _ (same_new np _ _ upd_same)
    have hpl := same_two (o := .own x) (u := .ins CT dx []) nx ndx ne pl _ upd_same
    refine ⟨x, dx, pl, it, fm, v, rfl, upd_same, hpl, hit, hfm, v0, v1, fun H' l bx hx hd => ⟨rfl, ?_⟩⟩
    have b4 := (((b1.trans b2).trans (Same.but (same_new nf))).trans (Same.but (same_new ni))).trans (Same.but (same_new (o := .lst [.ref it]) np))
    exact q H' _ (but_made b4 (same_two nx ndx ne) nx bx) (.inr ⟨x, rfl, dx, l, _, hx, hd, dNP_shaped v v0 v1⟩)
end
end K8
set_option Elab.async false
set_option linter.all false
set_option maxRecDepth 100000
set_option maxHeartbeats 2000000
namespace XV
open PySem PySem.Spec PyProof.Rows L2
/-! ### what isinstance says of a class, by its order of classes -/
def mroB (K : PySem.W.Frag) (C : Addr) (m : List Value) : Bool := match K.lookup C with
  | some ⟨t, _, .cls cd, _⟩ => decide (t = .type "type") && decide (cd.mro = m)
  | _ => false
theorem mroB_ok {K : PySem.W.Frag} {C : Addr} {m : List Value} (h : mroB K C m = true) : (∃ cd, PySem.W.clsIn K C = some cd ∧ cd.mro = m) ∧ PySem.W.typeIn K (.ref C) = some (.type "type") := by
  unfold mroB at h
  split at h
  · rename_i t d cd sl ho
    obtain ⟨h1, h2⟩ := He.ba h
    have e1 : t = .type "type" := of_decide_eq_true h1
    have e2 : cd.mro = m := of_decide_eq_true h2
    refine ⟨⟨cd, ?_, e2⟩, ?_⟩
    · unfold PySem.W.clsIn
      rw [ho]
    · show (K.lookup C).map (fun o => o.cls) = _
      rw [ho, e1]
      rfl
  · cases h
theorem sub_mro {K : PySem.W.Frag} {C : Addr} {m : List Value} (h : mroB K C m = true) (hm : m.isEmpty = false) (b : Value) : PySem.W.subIn K (.ref C) b = some (m.contains b) := by
  obtain ⟨⟨cd, h1, h2⟩, _⟩ := mroB_ok h
  show PySem.W.mroIn K C b = _
  unfold PySem.W.mroIn
  rw [h1]
  show (if cd.mro.isEmpty = true then none else some (cd.mro.contains b)) = _
  rw [h2, hm, if_neg Bool.false_ne_true]
theorem kit_mro {K : PySem.W.Frag} {C D : Addr} {m m' : List Value} (h : mroB K C m = true) (hm : m.isEmpty = false) (h' : mroB K D m' = true) (hs : C = D → m.contains (.ref D) = true) : PySem.W.kitOne K (.ref C) (.ref D) = some (m.contains (.ref D)) := by
  unfold PySem.W.kitOne
  by_cases e : C = D
  · rw [hs e, if_pos (beq_iff_eq.mpr (congrArg Value.ref e))]
  · rw [if_neg (fun z => e (Value.ref.inj (beq_iff_eq.mp z)))]
    obtain ⟨⟨cd, h1, _⟩, h2⟩ := mroB_ok h'
    show (if ((PySem.W.clsIn K D).isSome && PySem.W.typeIn K (.ref D) == some (.type "type")) = true then PySem.W.subIn K (.ref C) (.ref D) else none) = _
    rw [h1, h2, if_pos (by rw [Bool.and_eq_true]; exact ⟨rfl, beq_iff_eq.mpr rfl⟩)]
    exact sub_mro h hm _
theorem kit_ve {K : PySem.W.Frag} {C : Addr} {m : List Value} (h : mroB K C m = true) (hm : m.isEmpty = false) : PySem.W.kitOne K (.ref C) (.type "ValueError") = some (m.contains (.type "ValueError")) := by
  unfold PySem.W.kitOne
  rw [if_neg (fun z => by cases (beq_iff_eq.mp z))]
  show (if PySem.W.kitMeta "ValueError" = true then PySem.W.subIn K (.ref C) (.type "ValueError") else none) = _
  rw [if_pos (by decide +kernel)]
  exact sub_mro h hm _
/-! ### a part of the heap, each object once, written out -/
def refsK (o : Obj) : List Addr := match o.data with
  | .dict es _ => es.toList.flatMap fun e => He.refV e.val
  | .func fd => He.refV fd.code ++ He.refV fd.defaults
  | .cls cd => [cd.ns]
  | _ => []
def refsA (g : Addr → Option Obj) (a : Addr) : List Addr := match g a with
  | some o => refsK o
  | none => []
def frcA {α : Type} (l : List Addr) (k : List Addr → α) : α := match l with
  | [] => k []
  | a :: r => HandSHeadRun.frNat a fun a => frcA r fun r => k (a :: r)
theorem frcA_eq {α : Type} : ∀ (l : List Addr) (k : List Addr → α), frcA l k = k l
  | [], _ => rfl
  | a :: r, k => by
    show HandSHeadRun.frNat a (fun a => frcA r fun r => k (a :: r)) = _
    rw [HandSHeadRun.frNat_eq, frcA_eq r]
def asK (g : Addr → Option Obj) : List Addr := frcA (refsA g mainGlobals) fun l1 => frcA (l1.flatMap (refsA g)) fun l2 => frcA (l2.flatMap (refsA g)) fun l3 => frcA (l3.flatMap (refsA g)) fun l4 => mainGlobals :: (l1 ++ (l2 ++ (l3 ++ l4)))
def frcK {α : Type} (l : PySem.W.Frag) (k : PySem.W.Frag → α) : α := match l with
  | [] => k []
  | (a, o) :: r => HandSHeadRun.frNat a fun a => frcK r fun r => k ((a, o) :: r)
theorem frcK_eq {α : Type} : ∀ (l : PySem.W.Frag) (k : PySem.W.Frag → α), frcK l k = k l
  | [], _ => rfl
  | (a, o) :: r, k => by
    show HandSHeadRun.frNat a (fun a => frcK r fun r => k ((a, o) :: r)) = _
    rw [HandSHeadRun.frNat_eq, frcK_eq r]
def hookF (α : Type) (obs : PySem.W.Frag → α) (val : α) : PySem.W.Hook where
  α := α
  obs := fun s => obs (He.frG s.heap.get? (asK s.heap.get?))
  val := fun _ => val
  says := fun _ h => ∃ K : PySem.W.Frag, K.In h ∧ obs K = val
  of := fun _ _ e => ⟨_, He.frG_in, e⟩
  keeps := fun _ _ _ ⟨K, hK, c⟩ k => ⟨K, PySem.W.Frag.In.keeps hK k, c⟩
def obF {α : Type} (obs : PySem.W.Frag → α) (s : PySem.W.SharedT) : α := frcK (He.frG (HandSHeadRun.getT s) (asK (HandSHeadRun.getT s))) obs
theorem obF_eq {α : Type} {obs : PySem.W.Frag → α} {val : α} (s : PySem.W.SharedT) : obF obs s = (hookF α obs val).obs s.abs := by
  unfold obF
  rw [frcK_eq]
  have e : HandSHeadRun.getT s = s.abs.heap.get? := funext (HandSHeadRun.getT_eq s)
  rw [e]
  rfl
theorem map_two {S A B C D : Type} {e : Option S} {f : S → A} {g : S → B} {o : S → C} {o' : S → D} {a : A} {b : B} {c : C} {d : D} (h1 : e.map (fun s => (f s, g s, o s)) = some (a, b, c)) (h2 : e.map (fun s => o' s) = some d) :
    e.map (fun s => (f s, g s, (o s, o' s))) = some (a, b, (c, d)) := by
  cases e with
  | none => cases h1
  | some s =>
    have z1 : (f s, g s, o s) = (a, b, c) := Option.some.inj h1
    have z2 : o' s = d := Option.some.inj h2
    cases z2
    cases z1
    rfl
end XV
set_option Elab.async false
set_option linter.all false
set_option maxRecDepth 100000
set_option maxHeartbeats 0
namespace K8
open PySem PySem.Spec PyProof.Rows L2 XV
/-! ### what the top must say -/
def dF (x : Str) (i : Nat) : He.DefD := ⟨(x, none), x, x, defArgs (top i), defBody (top i), defScope (top i), [], []⟩
def dI (x q : Str) (l : Nat) (fld : Str) : He.DefD := ⟨(x, some "__init__"), "__init__", q, initA fld ⟨l, 17, l, 21⟩ ⟨l, 23, l, 28⟩ ⟨l, 29, l, 33⟩, initB fld ⟨l + 1, 8, l + 1, 12⟩ ⟨l + 1, 8, l + 1, 18⟩ ⟨l + 1, 21, l + 1, 26⟩ ⟨l + 1, 8, l + 1, 26⟩, initS fld, [.non], []⟩
def dTI : He.DefD := ⟨("OpenText", some "__init__"), "__init__", "OpenText.__init__", defArgs sInit, defBody sInit, defScope sInit, [], []⟩
def dTE : He.DefD := ⟨("OpenText", some "__eq__"), "__eq__", "OpenText.__eq__", defArgs sEq, defBody sEq, defScope sEq, [], []⟩
def fn : List He.DefD := [dI "InvalidNumber" "InvalidNumber.__init__" 6 "value", dI "InvalidWord" "InvalidWord.__init__" 10 "value", dI "InvalidForm" "InvalidForm.__init__" 14 "value", dI "InvalidPoint" "InvalidPoint.__init__" 18 "value", dI "InvalidPieces" "InvalidPieces.__init__" 22 "value", dI "InvalidList" "InvalidList.__init__" 26 "value", dI "InvalidLines" "InvalidLines.__init__" 30 "value", dI "InvalidPlace" "InvalidPlace.__init__" 34 "value", dI "InvalidAmount" "InvalidAmount.__init__" 38 "value", dI "InvalidStep" "InvalidStep.__init__" 42 "value", dI "InvalidWay" "InvalidWay.__init__" 46 "value", dI "InvalidDeed" "InvalidDeed.__init__" 50 "value", dI "InvalidFlag" "InvalidFlag.__init__" 54 "value", dI "InvalidText" "InvalidText.__init__" 58 "value", dI "InvalidGrid" "InvalidGrid.__init__" 62 "value", dI "InvalidSet" "InvalidSet.__init__" 66 "value", dI "InvalidTable" "InvalidTable.__init__" 70 "value", dI "InvalidAutomaton" "InvalidAutomaton.__init__" 74 "value", dI "InvalidMaker" "InvalidMaker.__init__" 78 "value", dI "InvalidProgram" "InvalidProgram.__init__" 82 "value", dI "InvalidWorkshop" "InvalidWorkshop.__init__" 86 "value", dI "InvalidPiece" "InvalidPiece.__init__" 90 "value", dI "Unlike" "Unlike.__init__" 94 "value", dI "TooLong" "TooLong.__init__" 98 "value", dI "TooMany" "TooMany.__init__" 102 "value", dI "UnknownPart" "UnknownPart.__init__" 106 "value", dI "OpenInOpen" "OpenInOpen.__init__" 110 "place", dF "is_whole" 33, dF "is_count" 34, dF "is_count_below" 35, dF "require_many" 36, dF "is_string_of_letters" 37, dF "has_form" 39, dF "is_plain" 40, dF "form_times" 41, dF "plain_form" 43, dF "root_of" 45, dF "common_end" 46, dF "turned" 47, dF "normal" 52, dF "is_piece" 53, dF "measure" 54, dF "require_measure" 55, dF "normal_pieces" 56, dF "add_fixed" 57, dF "add_power" 58, dF "_law_hash" 62, dF "_law_generator" 63, dF "_law_random" 64, dF "_law_made" 65, dF "_law_first" 66, dF "_law_second" 67, dF "_law_third" 68, dF "_law_fourth" 69, dF "_law_kinds" 70, dF "_law_empty" 71, dF "_law_named" 72, dF "_law_value" 73, dF "law" 74, dTI, dTE]
def fa : List He.Fa := [.glo "is_whole", .glo "is_count", .glo "is_count_below", .glo "require_many", .glo "is_string_of_letters", .glo "has_form", .glo "is_plain", .glo "form_times", .glo "plain_form", .glo "root_of", .glo "common_end", .glo "turned", .glo "normal", .glo "is_piece", .glo "measure", .glo "require_measure", .glo "normal_pieces", .glo "add_fixed", .glo "add_power", .glo "_law_hash", .glo "_law_generator", .glo "_law_random", .glo "_law_made", .glo "_law_first", .glo "_law_second", .glo "_law_third", .glo "_law_fourth", .glo "_law_kinds", .glo "_law_empty", .glo "_law_named", .glo "_law_value", .glo "law", .glo "OpenText", .free "isinstance", .free "int", .free "bool", .free "str", .free "tuple", .free "list", .free "len", .free "all", .free "any", .free "sum", .free "range", .free "max", .free "ValueError", .int "MOST_UNKNOWNS" 3, .int "LONGEST_PIECE" 2000, .int "MOST_PIECES" 5000, .int "MOST_MEASURE" 2000, .cls "OpenText", .mkr "OpenText", .noat "OpenText" "_pieces", .noat "OpenText" "_many", .meth "OpenText" "__eq__"]
abbrev TA (K : PySem.W.Frag) : Addr := He.ga K "OpenText"
def bxX (K : PySem.W.Frag) : Bool := (List.range 27).all fun i => xclsB K (nm i) (fl i)
def bxE (K : PySem.W.Frag) : Bool := ecls0B K "NothingToUndo" && (ecls0B K "NothingToRedo" && ecls0B K "LoopError")
def mroI (K : PySem.W.Frag) (i : Nat) : List Value := .ref (CA K i) :: .ref (CA K 29) :: He.veBase
def bxK (K : PySem.W.Frag) : Bool := Nat.blt (CA K 29) (CA K 0) && (((List.range 28).all fun i => Nat.blt (CA K i) (CA K (i + 1))) && (((List.range 29).all fun i => mroB K (CA K i) (mroI K i)) && mroB K (CA K 29) (.ref (CA K 29) :: He.veBase)))
def bxT (K : PySem.W.Frag) : Bool := He.eqO (PySem.W.findIn K (.ref (TA K)) "__class__") (some (some (.builtin "object.__class__"))) && (He.eqO (PySem.W.specialIn K (.builtin "object.__class__") "__get__") (some (some (.builtin "getset_descriptor.__get__"))) &&
  (decide (PySem.W.takesIn K (.builtin "object.__class__") = some true) && (decide (PySem.W.mroIn K (TA K) (.type "object") = some true) && decide (PySem.W.kitOne K (.ref (TA K)) (.ref (TA K)) = some true))))
def bx (K : PySem.W.Frag) : Bool := bxX K && (bxE K && (bxK K && bxT K))
end K8
set_option Elab.async false
set_option linter.all false
set_option maxRecDepth 100000
set_option maxHeartbeats 0
namespace K8
open PySem PySem.Spec PyProof.Rows L2 XV
section
variable {P : Program} {w : World} {K : PySem.W.Frag} {mg : Str → Option Value} {base h : Heap}
theorem cl_of (X : K.In h) (G : h.Ns mainGlobals mg) (c : He.SaysD fa fn K) (b : bx K = true) : Cl P w K mg base := by
  obtain ⟨b1, b⟩ := He.ba b
  obtain ⟨b2, b⟩ := He.ba b
  obtain ⟨b3, b6⟩ := He.ba b
  obtain ⟨k1, b3⟩ := He.ba b3
  obtain ⟨k2, b3⟩ := He.ba b3
  obtain ⟨k3, k4⟩ := He.ba b3
  have up : ∀ j, j < 29 → ∀ i, i < j → CA K i < CA K j := by
    intro j
    induction j with
    | zero => intro _ i h; exact absurd h (by omega)
    | succ j ih =>
      intro hj i hi
      have s : CA K j < CA K (j + 1) := Nat.le_of_ble_eq_true (List.all_eq_true.mp k2 j (List.mem_range.mpr (by omega)))
      by_cases q : i = j
      · rw [q]; exact s
      · exact Nat.lt_trans (ih (by omega) i (by omega)) s
  have l0 : CA K 29 < CA K 0 := Nat.le_of_ble_eq_true k1
  have lL : ∀ i, i < 29 → CA K 29 < CA K i := fun i hi => by
    by_cases q : i = 0
    · rw [q]; exact l0
    · exact Nat.lt_trans l0 (up i hi 0 (by omega))
  have hm : ∀ i, i < 29 → mroB K (CA K i) (mroI K i) = true := fun i hi => List.all_eq_true.mp k3 i (List.mem_range.mpr hi)
  have ct : ∀ i x, (mroI K i).contains (.ref x) = (decide (CA K i = x) || decide (CA K 29 = x)) := fun i x => by
    have e : ∀ y : Addr, (Value.ref x == Value.ref y) = decide (y = x) := fun y => by
      by_cases q : y = x
      · rw [q, decide_eq_true rfl]; exact beq_iff_eq.mpr rfl
      · rw [decide_eq_false q]; exact beq_eq_false_iff_ne.mpr (fun z => q (Value.ref.inj z).symm)
    have e2 : ∀ n : String, (Value.ref x == Value.type n) = false := fun n => beq_eq_false_iff_ne.mpr (fun z => by cases z)
    unfold mroI He.veBase
    simp only [List.contains_cons, List.contains_nil, e, e2, Bool.or_false]
  have hx : ∀ i, i < 27 → xclsB K (nm i) (fl i) = true := fun i hi => List.all_eq_true.mp b1 i (List.mem_range.mpr hi)
  obtain ⟨u, b2⟩ := He.ba b2
  obtain ⟨r, l⟩ := He.ba b2
  have h0 : ∀ i, 27 ≤ i → i < 30 → ecls0B K (nm i) = true := fun i h1 h2 => by
    have : i = 27 ∨ i = 28 ∨ i = 29 := by omega
    rcases this with rfl | rfl | rfl
    · exact u
    · exact r
    · exact l
  refine ⟨?_, ?_, ?_, ?_, ?_, ?_, ?_, ?_⟩
  · intro i hi
    have x0 : ∃ fI fd, XCls P w K mg base (nm 0) (fl 0) (CA K 0) fI fd := by
      obtain ⟨fd, F⟩ := c.def_ 0 (d := dI "InvalidNumber" "InvalidNumber.__init__" 6 "value") rfl
      exact ⟨_, fd, xcls_V (nm := "InvalidNumber") X G (hx 0 (by decide)) F⟩
    have x1 : ∃ fI fd, XCls P w K mg base (nm 1) (fl 1) (CA K 1) fI fd := by
      obtain ⟨fd, F⟩ := c.def_ 1 (d := dI "InvalidWord" "InvalidWord.__init__" 10 "value") rfl
      exact ⟨_, fd, xcls_V (nm := "InvalidWord") X G (hx 1 (by decide)) F⟩
    have x2 : ∃ fI fd, XCls P w K mg base (nm 2) (fl 2) (CA K 2) fI fd := by
      obtain ⟨fd, F⟩ := c.def_ 2 (d := dI "InvalidForm" "InvalidForm.__init__" 14 "value") rfl
      exact ⟨_, fd, xcls_V (nm := "InvalidForm") X G (hx 2 (by decide)) F⟩
    have x3 : ∃ fI fd, XCls P w K mg base (nm 3) (fl 3) (CA K 3) fI fd := by
      obtain ⟨fd, F⟩ := c.def_ 3 (d := dI "InvalidPoint" "InvalidPoint.__init__" 18 "value") rfl
      exact ⟨_, fd, xcls_V (nm := "InvalidPoint") X G (hx 3 (by decide)) F⟩
    have x4 : ∃ fI fd, XCls P w K mg base (nm 4) (fl 4) (CA K 4) fI fd := by
      obtain ⟨fd, F⟩ := c.def_ 4 (d := dI "InvalidPieces" "InvalidPieces.__init__" 22 "value") rfl
      exact ⟨_, fd, xcls_V (nm := "InvalidPieces") X G (hx 4 (by decide)) F⟩
    have x5 : ∃ fI fd, XCls P w K mg base (nm 5) (fl 5) (CA K 5) fI fd := by
      obtain ⟨fd, F⟩ := c.def_ 5 (d := dI "InvalidList" "InvalidList.__init__" 26 "value") rfl
      exact ⟨_, fd, xcls_V (nm := "InvalidList") X G (hx 5 (by decide)) F⟩
    have x6 : ∃ fI fd, XCls P w K mg base (nm 6) (fl 6) (CA K 6) fI fd := by
      obtain ⟨fd, F⟩ := c.def_ 6 (d := dI "InvalidLines" "InvalidLines.__init__" 30 "value") rfl
      exact ⟨_, fd, xcls_V (nm := "InvalidLines") X G (hx 6 (by decide)) F⟩
    have x7 : ∃ fI fd, XCls P w K mg base (nm 7) (fl 7) (CA K 7) fI fd := by
      obtain ⟨fd, F⟩ := c.def_ 7 (d := dI "InvalidPlace" "InvalidPlace.__init__" 34 "value") rfl
      exact ⟨_, fd, xcls_V (nm := "InvalidPlace") X G (hx 7 (by decide)) F⟩
    have x8 : ∃ fI fd, XCls P w K mg base (nm 8) (fl 8) (CA K 8) fI fd := by
      obtain ⟨fd, F⟩ := c.def_ 8 (d := dI "InvalidAmount" "InvalidAmount.__init__" 38 "value") rfl
      exact ⟨_, fd, xcls_V (nm := "InvalidAmount") X G (hx 8 (by decide)) F⟩
    have x9 : ∃ fI fd, XCls P w K mg base (nm 9) (fl 9) (CA K 9) fI fd := by
      obtain ⟨fd, F⟩ := c.def_ 9 (d := dI "InvalidStep" "InvalidStep.__init__" 42 "value") rfl
      exact ⟨_, fd, xcls_V (nm := "InvalidStep") X G (hx 9 (by decide)) F⟩
    have x10 : ∃ fI fd, XCls P w K mg base (nm 10) (fl 10) (CA K 10) fI fd := by
      obtain ⟨fd, F⟩ := c.def_ 10 (d := dI "InvalidWay" "InvalidWay.__init__" 46 "value") rfl
      exact ⟨_, fd, xcls_V (nm := "InvalidWay") X G (hx 10 (by decide)) F⟩
    have x11 : ∃ fI fd, XCls P w K mg base (nm 11) (fl 11) (CA K 11) fI fd := by
      obtain ⟨fd, F⟩ := c.def_ 11 (d := dI "InvalidDeed" "InvalidDeed.__init__" 50 "value") rfl
      exact ⟨_, fd, xcls_V (nm := "InvalidDeed") X G (hx 11 (by decide)) F⟩
    have x12 : ∃ fI fd, XCls P w K mg base (nm 12) (fl 12) (CA K 12) fI fd := by
      obtain ⟨fd, F⟩ := c.def_ 12 (d := dI "InvalidFlag" "InvalidFlag.__init__" 54 "value") rfl
      exact ⟨_, fd, xcls_V (nm := "InvalidFlag") X G (hx 12 (by decide)) F⟩
    have x13 : ∃ fI fd, XCls P w K mg base (nm 13) (fl 13) (CA K 13) fI fd := by
      obtain ⟨fd, F⟩ := c.def_ 13 (d := dI "InvalidText" "InvalidText.__init__" 58 "value") rfl
      exact ⟨_, fd, xcls_V (nm := "InvalidText") X G (hx 13 (by decide)) F⟩
    have x14 : ∃ fI fd, XCls P w K mg base (nm 14) (fl 14) (CA K 14) fI fd := by
      obtain ⟨fd, F⟩ := c.def_ 14 (d := dI "InvalidGrid" "InvalidGrid.__init__" 62 "value") rfl
      exact ⟨_, fd, xcls_V (nm := "InvalidGrid") X G (hx 14 (by decide)) F⟩
    have x15 : ∃ fI fd, XCls P w K mg base (nm 15) (fl 15) (CA K 15) fI fd := by
      obtain ⟨fd, F⟩ := c.def_ 15 (d := dI "InvalidSet" "InvalidSet.__init__" 66 "value") rfl
      exact ⟨_, fd, xcls_V (nm := "InvalidSet") X G (hx 15 (by decide)) F⟩
    have x16 : ∃ fI fd, XCls P w K mg base (nm 16) (fl 16) (CA K 16) fI fd := by
      obtain ⟨fd, F⟩ := c.def_ 16 (d := dI "InvalidTable" "InvalidTable.__init__" 70 "value") rfl
      exact ⟨_, fd, xcls_V (nm := "InvalidTable") X G (hx 16 (by decide)) F⟩
    have x17 : ∃ fI fd, XCls P w K mg base (nm 17) (fl 17) (CA K 17) fI fd := by
      obtain ⟨fd, F⟩ := c.def_ 17 (d := dI "InvalidAutomaton" "InvalidAutomaton.__init__" 74 "value") rfl
      exact ⟨_, fd, xcls_V (nm := "InvalidAutomaton") X G (hx 17 (by decide)) F⟩
    have x18 : ∃ fI fd, XCls P w K mg base (nm 18) (fl 18) (CA K 18) fI fd := by
      obtain ⟨fd, F⟩ := c.def_ 18 (d := dI "InvalidMaker" "InvalidMaker.__init__" 78 "value") rfl
      exact ⟨_, fd, xcls_V (nm := "InvalidMaker") X G (hx 18 (by decide)) F⟩
    have x19 : ∃ fI fd, XCls P w K mg base (nm 19) (fl 19) (CA K 19) fI fd := by
      obtain ⟨fd, F⟩ := c.def_ 19 (d := dI "InvalidProgram" "InvalidProgram.__init__" 82 "value") rfl
      exact ⟨_, fd, xcls_V (nm := "InvalidProgram") X G (hx 19 (by decide)) F⟩
    have x20 : ∃ fI fd, XCls P w K mg base (nm 20) (fl 20) (CA K 20) fI fd := by
      obtain ⟨fd, F⟩ := c.def_ 20 (d := dI "InvalidWorkshop" "InvalidWorkshop.__init__" 86 "value") rfl
      exact ⟨_, fd, xcls_V (nm := "InvalidWorkshop") X G (hx 20 (by decide)) F⟩
    have x21 : ∃ fI fd, XCls P w K mg base (nm 21) (fl 21) (CA K 21) fI fd := by
      obtain ⟨fd, F⟩ := c.def_ 21 (d := dI "InvalidPiece" "InvalidPiece.__init__" 90 "value") rfl
      exact ⟨_, fd, xcls_V (nm := "InvalidPiece") X G (hx 21 (by decide)) F⟩
    have x22 : ∃ fI fd, XCls P w K mg base (nm 22) (fl 22) (CA K 22) fI fd := by
      obtain ⟨fd, F⟩ := c.def_ 22 (d := dI "Unlike" "Unlike.__init__" 94 "value") rfl
      exact ⟨_, fd, xcls_V (nm := "Unlike") X G (hx 22 (by decide)) F⟩
    have x23 : ∃ fI fd, XCls P w K mg base (nm 23) (fl 23) (CA K 23) fI fd := by
      obtain ⟨fd, F⟩ := c.def_ 23 (d := dI "TooLong" "TooLong.__init__" 98 "value") rfl
      exact ⟨_, fd, xcls_V (nm := "TooLong") X G (hx 23 (by decide)) F⟩
    have x24 : ∃ fI fd, XCls P w K mg base (nm 24) (fl 24) (CA K 24) fI fd := by
      obtain ⟨fd, F⟩ := c.def_ 24 (d := dI "TooMany" "TooMany.__init__" 102 "value") rfl
      exact ⟨_, fd, xcls_V (nm := "TooMany") X G (hx 24 (by decide)) F⟩
    have x25 : ∃ fI fd, XCls P w K mg base (nm 25) (fl 25) (CA K 25) fI fd := by
      obtain ⟨fd, F⟩ := c.def_ 25 (d := dI "UnknownPart" "UnknownPart.__init__" 106 "value") rfl
      exact ⟨_, fd, xcls_V (nm := "UnknownPart") X G (hx 25 (by decide)) F⟩
    have x26 : ∃ fI fd, XCls P w K mg base (nm 26) (fl 26) (CA K 26) fI fd := by
      obtain ⟨fd, F⟩ := c.def_ 26 (d := dI "OpenInOpen" "OpenInOpen.__init__" 110 "place") rfl
      exact ⟨_, fd, xcls_P (nm := "OpenInOpen") X G (hx 26 (by decide)) F⟩
    match i, hi with
    | 0, _ => exact x0
    | 1, _ => exact x1
    | 2, _ => exact x2
    | 3, _ => exact x3
    | 4, _ => exact x4
    | 5, _ => exact x5
    | 6, _ => exact x6
    | 7, _ => exact x7
    | 8, _ => exact x8
    | 9, _ => exact x9
    | 10, _ => exact x10
    | 11, _ => exact x11
    | 12, _ => exact x12
    | 13, _ => exact x13
    | 14, _ => exact x14
    | 15, _ => exact x15
    | 16, _ => exact x16
    | 17, _ => exact x17
    | 18, _ => exact x18
    | 19, _ => exact x19
    | 20, _ => exact x20
    | 21, _ => exact x21
    | 22, _ => exact x22
    | 23, _ => exact x23
    | 24, _ => exact x24
    | 25, _ => exact x25
    | 26, _ => exact x26
    | _ + 27, hi => exact absurd hi (by omega)
  · intro i hi
    by_cases q : i < 27
    · exact PySem.W.mg_of X G (He.eqO_ok (He.ba (hx i q)).1)
    · exact PySem.W.mg_of X G (He.eqO_ok (He.ba (h0 i (by omega) hi)).1)
  · intro i hi
    by_cases q : i < 27
    · exact (xcls_E (hx i q)).1
    · exact excB_ok (He.ba (He.ba (He.ba (h0 i (by omega) hi)).2).2).2
  · intro i hi
    exact (xcls_E (hx i hi)).2
  · intro i hi j hj
    rw [kit_mro (hm i hi) rfl (hm j hj) (fun e => by rw [ct, decide_eq_true e]; rfl), ct]
    have nL : ¬ CA K 29 = CA K j := fun z => absurd z (Nat.ne_of_lt (lL j hj))
    rw [decide_eq_false nL, Bool.or_false]
    by_cases q : i = j
    · rw [q, decide_eq_true rfl, decide_eq_true rfl]
    · have n : ¬ CA K i = CA K j := fun z => by
        rcases Nat.lt_or_gt_of_ne q with l | l
        · exact absurd z (Nat.ne_of_lt (up j hj i l))
        · exact absurd z.symm (Nat.ne_of_lt (up i hi j l))
      rw [decide_eq_false q, decide_eq_false n]
  · intro i hi
    rw [kit_mro (hm i hi) rfl k4 (fun e => by rw [ct, decide_eq_true e]; rfl), ct, decide_eq_true (rfl : CA K 29 = CA K 29), Bool.or_true]
  · intro i hi
    by_cases q : i < 29
    · rw [kit_ve (hm i q) rfl]
      rfl
    · have e : i = 29 := by omega
      subst e
      rw [kit_ve k4 rfl]
      rfl
  · intro i h1 h2
    have q := He.ba (He.ba (h0 i h1 h2)).2
    exact ⟨q.1, (He.ba q.2).1⟩
theorem tc_of (c : He.SaysD fa fn K) (b : bx K = true) : TC K (TA K) := by
  have b6 := (He.ba (He.ba (He.ba b).2).2).2
  obtain ⟨t1, t⟩ := He.ba b6
  obtain ⟨t2, t⟩ := He.ba t
  obtain ⟨t3, t⟩ := He.ba t
  obtain ⟨t4, t5⟩ := He.ba t
  exact ⟨He.cls_ok (c.fact 50 (f := .cls "OpenText") rfl), He.noat_ok (c.fact 52 (f := .noat "OpenText" "_pieces") rfl), He.noat_ok (c.fact 53 (f := .noat "OpenText" "_many") rfl), He.eqO_ok t1, He.eqO_ok t2, of_decide_eq_true t3, of_decide_eq_true t4, of_decide_eq_true t5⟩
theorem facts {f : Addr} (X : K.In h) (G : h.Ns mainGlobals mg) (hfa : mg ("law" : Str) = some (.ref f)) (c : He.SaysD fa fn K) (b : bx K = true) :
    ∃ fd : FuncData, (∀ (s : Shared) (v : Value), BindsTo s fd ⟨[v], []⟩ [("_law_script", v)]) ∧ ∀ base : Heap, K.In base → base.Ns mainGlobals mg → FnOk P w K mg base CX0 13 f fd ["_law_script"] (spLaw K) := by
  obtain ⟨fd_is_whole, F_is_whole⟩ := c.def_ 27 (d := dF "is_whole" 33) rfl
  obtain ⟨fd_is_count, F_is_count⟩ := c.def_ 28 (d := dF "is_count" 34) rfl
  obtain ⟨fd_is_count_below, F_is_count_below⟩ := c.def_ 29 (d := dF "is_count_below" 35) rfl
  obtain ⟨fd_require_many, F_require_many⟩ := c.def_ 30 (d := dF "require_many" 36) rfl
  obtain ⟨fd_is_string_of_letters, F_is_string_of_letters⟩ := c.def_ 31 (d := dF "is_string_of_letters" 37) rfl
  obtain ⟨fd_has_form, F_has_form⟩ := c.def_ 32 (d := dF "has_form" 39) rfl
  obtain ⟨fd_is_plain, F_is_plain⟩ := c.def_ 33 (d := dF "is_plain" 40) rfl
  obtain ⟨fd_form_times, F_form_times⟩ := c.def_ 34 (d := dF "form_times" 41) rfl
  obtain ⟨fd_plain_form, F_plain_form⟩ := c.def_ 35 (d := dF "plain_form" 43) rfl
  obtain ⟨fd_root_of, F_root_of⟩ := c.def_ 36 (d := dF "root_of" 45) rfl
  obtain ⟨fd_common_end, F_common_end⟩ := c.def_ 37 (d := dF "common_end" 46) rfl
  obtain ⟨fd_turned, F_turned⟩ := c.def_ 38 (d := dF "turned" 47) rfl
  obtain ⟨fd_normal, F_normal⟩ := c.def_ 39 (d := dF "normal" 52) rfl
  obtain ⟨fd_is_piece, F_is_piece⟩ := c.def_ 40 (d := dF "is_piece" 53) rfl
  obtain ⟨fd_measure, F_measure⟩ := c.def_ 41 (d := dF "measure" 54) rfl
  obtain ⟨fd_require_measure, F_require_measure⟩ := c.def_ 42 (d := dF "require_measure" 55) rfl
  obtain ⟨fd_normal_pieces, F_normal_pieces⟩ := c.def_ 43 (d := dF "normal_pieces" 56) rfl
  obtain ⟨fd_add_fixed, F_add_fixed⟩ := c.def_ 44 (d := dF "add_fixed" 57) rfl
  obtain ⟨fd_add_power, F_add_power⟩ := c.def_ 45 (d := dF "add_power" 58) rfl
  obtain ⟨fd__law_hash, F__law_hash⟩ := c.def_ 46 (d := dF "_law_hash" 62) rfl
  obtain ⟨fd__law_generator, F__law_generator⟩ := c.def_ 47 (d := dF "_law_generator" 63) rfl
  obtain ⟨fd__law_random, F__law_random⟩ := c.def_ 48 (d := dF "_law_random" 64) rfl
  obtain ⟨fd__law_made, F__law_made⟩ := c.def_ 49 (d := dF "_law_made" 65) rfl
  obtain ⟨fd__law_first, F__law_first⟩ := c.def_ 50 (d := dF "_law_first" 66) rfl
  obtain ⟨fd__law_second, F__law_second⟩ := c.def_ 51 (d := dF "_law_second" 67) rfl
  obtain ⟨fd__law_third, F__law_third⟩ := c.def_ 52 (d := dF "_law_third" 68) rfl
  obtain ⟨fd__law_fourth, F__law_fourth⟩ := c.def_ 53 (d := dF "_law_fourth" 69) rfl
  obtain ⟨fd__law_kinds, F__law_kinds⟩ := c.def_ 54 (d := dF "_law_kinds" 70) rfl
  obtain ⟨fd__law_empty, F__law_empty⟩ := c.def_ 55 (d := dF "_law_empty" 71) rfl
  obtain ⟨fd__law_named, F__law_named⟩ := c.def_ 56 (d := dF "_law_named" 72) rfl
  obtain ⟨fd__law_value, F__law_value⟩ := c.def_ 57 (d := dF "_law_value" 73) rfl
  obtain ⟨fd_law, F_law⟩ := c.def_ 58 (d := dF "law" 74) rfl
  obtain ⟨fd_I, F_I⟩ := c.def_ 59 (d := dTI) rfl
  obtain ⟨fd_E, F_E⟩ := c.def_ 60 (d := dTE) rfl
  have g_is_whole : mg "is_whole" = some (.ref (He.ga K "is_whole")) := He.glo_ok X G (c.fact 0 (f := .glo "is_whole") rfl)
  have g_is_count : mg "is_count" = some (.ref (He.ga K "is_count")) := He.glo_ok X G (c.fact 1 (f := .glo "is_count") rfl)
  have g_is_count_below : mg "is_count_below" = some (.ref (He.ga K "is_count_below")) := He.glo_ok X G (c.fact 2 (f := .glo "is_count_below") rfl)
  have g_require_many : mg "require_many" = some (.ref (He.ga K "require_many")) := He.glo_ok X G (c.fact 3 (f := .glo "require_many") rfl)
  have g_is_string_of_letters : mg "is_string_of_letters" = some (.ref (He.ga K "is_string_of_letters")) := He.glo_ok X G (c.fact 4 (f := .glo "is_string_of_letters") rfl)
  have g_has_form : mg "has_form" = some (.ref (He.ga K "has_form")) := He.glo_ok X G (c.fact 5 (f := .glo "has_form") rfl)
  have g_is_plain : mg "is_plain" = some (.ref (He.ga K "is_plain")) := He.glo_ok X G (c.fact 6 (f := .glo "is_plain") rfl)
  have g_form_times : mg "form_times" = some (.ref (He.ga K "form_times")) := He.glo_ok X G (c.fact 7 (f := .glo "form_times") rfl)
  have g_plain_form : mg "plain_form" = some (.ref (He.ga K "plain_form")) := He.glo_ok X G (c.fact 8 (f := .glo "plain_form") rfl)
  have g_root_of : mg "root_of" = some (.ref (He.ga K "root_of")) := He.glo_ok X G (c.fact 9 (f := .glo "root_of") rfl)
  have g_common_end : mg "common_end" = some (.ref (He.ga K "common_end")) := He.glo_ok X G (c.fact 10 (f := .glo "common_end") rfl)
  have g_turned : mg "turned" = some (.ref (He.ga K "turned")) := He.glo_ok X G (c.fact 11 (f := .glo "turned") rfl)
  have g_normal : mg "normal" = some (.ref (He.ga K "normal")) := He.glo_ok X G (c.fact 12 (f := .glo "normal") rfl)
  have g_is_piece : mg "is_piece" = some (.ref (He.ga K "is_piece")) := He.glo_ok X G (c.fact 13 (f := .glo "is_piece") rfl)
  have g_measure : mg "measure" = some (.ref (He.ga K "measure")) := He.glo_ok X G (c.fact 14 (f := .glo "measure") rfl)
  have g_require_measure : mg "require_measure" = some (.ref (He.ga K "require_measure")) := He.glo_ok X G (c.fact 15 (f := .glo "require_measure") rfl)
  have g_normal_pieces : mg "normal_pieces" = some (.ref (He.ga K "normal_pieces")) := He.glo_ok X G (c.fact 16 (f := .glo "normal_pieces") rfl)
  have g_add_fixed : mg "add_fixed" = some (.ref (He.ga K "add_fixed")) := He.glo_ok X G (c.fact 17 (f := .glo "add_fixed") rfl)
  have g_add_power : mg "add_power" = some (.ref (He.ga K "add_power")) := He.glo_ok X G (c.fact 18 (f := .glo "add_power") rfl)
  have g__law_hash : mg "_law_hash" = some (.ref (He.ga K "_law_hash")) := He.glo_ok X G (c.fact 19 (f := .glo "_law_hash") rfl)
  have g__law_generator : mg "_law_generator" = some (.ref (He.ga K "_law_generator")) := He.glo_ok X G (c.fact 20 (f := .glo "_law_generator") rfl)
  have g__law_random : mg "_law_random" = some (.ref (He.ga K "_law_random")) := He.glo_ok X G (c.fact 21 (f := .glo "_law_random") rfl)
  have g__law_made : mg "_law_made" = some (.ref (He.ga K "_law_made")) := He.glo_ok X G (c.fact 22 (f := .glo "_law_made") rfl)
  have g__law_first : mg "_law_first" = some (.ref (He.ga K "_law_first")) := He.glo_ok X G (c.fact 23 (f := .glo "_law_first") rfl)
  have g__law_second : mg "_law_second" = some (.ref (He.ga K "_law_second")) := He.glo_ok X G (c.fact 24 (f := .glo "_law_second") rfl)
  have g__law_third : mg "_law_third" = some (.ref (He.ga K "_law_third")) := He.glo_ok X G (c.fact 25 (f := .glo "_law_third") rfl)
  have g__law_fourth : mg "_law_fourth" = some (.ref (He.ga K "_law_fourth")) := He.glo_ok X G (c.fact 26 (f := .glo "_law_fourth") rfl)
  have g__law_kinds : mg "_law_kinds" = some (.ref (He.ga K "_law_kinds")) := He.glo_ok X G (c.fact 27 (f := .glo "_law_kinds") rfl)
  have g__law_empty : mg "_law_empty" = some (.ref (He.ga K "_law_empty")) := He.glo_ok X G (c.fact 28 (f := .glo "_law_empty") rfl)
  have g__law_named : mg "_law_named" = some (.ref (He.ga K "_law_named")) := He.glo_ok X G (c.fact 29 (f := .glo "_law_named") rfl)
  have g__law_value : mg "_law_value" = some (.ref (He.ga K "_law_value")) := He.glo_ok X G (c.fact 30 (f := .glo "_law_value") rfl)
  have g_law : mg "law" = some (.ref (He.ga K "law")) := He.glo_ok X G (c.fact 31 (f := .glo "law") rfl)
  have gT : mg "OpenText" = some (.ref (TA K)) := He.glo_ok X G (c.fact 32 (f := .glo "OpenText") rfl)
  have z_isinstance : mg "isinstance" = none := He.free_ok X G (c.fact 33 (f := .free "isinstance") rfl)
  have z_int : mg "int" = none := He.free_ok X G (c.fact 34 (f := .free "int") rfl)
  have z_bool : mg "bool" = none := He.free_ok X G (c.fact 35 (f := .free "bool") rfl)
  have z_str : mg "str" = none := He.free_ok X G (c.fact 36 (f := .free "str") rfl)
  have z_tuple : mg "tuple" = none := He.free_ok X G (c.fact 37 (f := .free "tuple") rfl)
  have z_list : mg "list" = none := He.free_ok X G (c.fact 38 (f := .free "list") rfl)
  have z_len : mg "len" = none := He.free_ok X G (c.fact 39 (f := .free "len") rfl)
  have z_all : mg "all" = none := He.free_ok X G (c.fact 40 (f := .free "all") rfl)
  have z_any : mg "any" = none := He.free_ok X G (c.fact 41 (f := .free "any") rfl)
  have z_sum : mg "sum" = none := He.free_ok X G (c.fact 42 (f := .free "sum") rfl)
  have z_range : mg "range" = none := He.free_ok X G (c.fact 43 (f := .free "range") rfl)
  have z_max : mg "max" = none := He.free_ok X G (c.fact 44 (f := .free "max") rfl)
  have z_ValueError : mg "ValueError" = none := He.free_ok X G (c.fact 45 (f := .free "ValueError") rfl)
  obtain ⟨t_MOST_UNKNOWNS, h_MOST_UNKNOWNS⟩ := He.int_ok X G (c.fact 46 (f := .int "MOST_UNKNOWNS" 3) rfl)
  obtain ⟨t_LONGEST_PIECE, h_LONGEST_PIECE⟩ := He.int_ok X G (c.fact 47 (f := .int "LONGEST_PIECE" 2000) rfl)
  obtain ⟨t_MOST_PIECES, h_MOST_PIECES⟩ := He.int_ok X G (c.fact 48 (f := .int "MOST_PIECES" 5000) rfl)
  obtain ⟨t_MOST_MEASURE, h_MOST_MEASURE⟩ := He.int_ok X G (c.fact 49 (f := .int "MOST_MEASURE" 2000) rfl)
  have M : Mk K (TA K) (He.ma K (TA K) "__init__") := He.mkr_ok (c.fact 51 (f := .mkr "OpenText") rfl)
  obtain ⟨m1, m2, m3⟩ := He.meth_ok (c.fact 54 (f := .meth "OpenText" "__eq__") rfl)
  have T : TC K (TA K) := tc_of c b
  have eL := hfa.symm.trans g_law
  cases eL
  have bL := FunD.bindsA (ps := ["_law_script"]) F_law fun _ _ _ _ _ _ us hl => match us, hl with | [_], _ => rfl
  refine ⟨fd_law, fun s v => bL s [v] rfl, fun base Xb _ => ?_⟩
  have Z : Cl P w K mg base := cl_of X G c b
  have o__law_hash := Ok.mk' (P := P) (w := w) (base := base) F__law_hash g__law_hash (fun _ _ _ _ _ _ us hl => match us, hl with | [_, _], _ => rfl) (ok_hash F__law_hash z_int)
  have o__law_random := Ok.mk' (P := P) (w := w) (base := base) F__law_random g__law_random (fun _ _ _ _ _ _ us hl => match us, hl with | [_, _], _ => rfl) (ok_rand F__law_random o__law_hash z_int z_range)
  have o__law_generator := Ok.mk' (P := P) (w := w) (base := base) F__law_generator g__law_generator (fun _ _ _ _ _ _ us hl => match us, hl with | [_, _], _ => rfl) (ok_gen F__law_generator z_int z_len z_sum z_max)
  have o__law_first := Ok.mk' (P := P) (w := w) (base := base) F__law_first g__law_first (fun _ _ _ _ _ _ us hl => match us, hl with | [_, _], _ => rfl) (ok_law_first F__law_first Z)
  have o__law_second := Ok.mk' (P := P) (w := w) (base := base) F__law_second g__law_second (fun _ _ _ _ _ _ us hl => match us, hl with | [_, _], _ => rfl) (ok_law_second F__law_second Z)
  have o__law_third := Ok.mk' (P := P) (w := w) (base := base) F__law_third g__law_third (fun _ _ _ _ _ _ us hl => match us, hl with | [_, _], _ => rfl) (ok_law_third F__law_third Z)
  have o__law_fourth := Ok.mk' (P := P) (w := w) (base := base) F__law_fourth g__law_fourth (fun _ _ _ _ _ _ us hl => match us, hl with | [_, _], _ => rfl) (ok_law_fourth F__law_fourth Z)
  have o__law_made := Ok.mk' (P := P) (w := w) (base := base) F__law_made g__law_made (fun _ _ _ _ _ _ us hl => match us, hl with | [_, _], _ => rfl) (ok_law_made F__law_made o__law_first o__law_second o__law_third o__law_fourth)
  have o__law_kinds := Ok.mk' (P := P) (w := w) (base := base) F__law_kinds g__law_kinds (fun _ _ _ _ _ _ us hl => match us, hl with | [_], _ => rfl) (ok_law_kinds F__law_kinds Z z_isinstance)
  have o__law_empty := Ok.mk' (P := P) (w := w) (base := base) F__law_empty g__law_empty (fun _ _ _ _ _ _ us hl => match us, hl with | [], _ => rfl) (ok_law_empty F__law_empty Z)
  have o__law_named := Ok.mk' (P := P) (w := w) (base := base) F__law_named g__law_named (fun _ _ _ _ _ _ us hl => match us, hl with | [_], _ => rfl) (ok_law_named F__law_named Z)
  have o_is_whole := Ok.mk' (P := P) (w := w) (base := base) F_is_whole g_is_whole (fun _ _ _ _ _ _ us hl => match us, hl with | [_], _ => rfl) (ok_whole F_is_whole z_isinstance z_int z_bool)
  have o_is_count := Ok.mk' (P := P) (w := w) (base := base) F_is_count g_is_count (fun _ _ _ _ _ _ us hl => match us, hl with | [_], _ => rfl) (ok_count F_is_count o_is_whole)
  have o_is_count_below := Ok.mk' (P := P) (w := w) (base := base) F_is_count_below g_is_count_below (fun _ _ _ _ _ _ us hl => match us, hl with | [_, _], _ => rfl) (ok_below F_is_count_below o_is_count)
  have o_require_many := Ok.mk' (P := P) (w := w) (base := base) F_require_many g_require_many (fun _ _ _ _ _ _ us hl => match us, hl with | [_], _ => rfl) (ok_reqMany F_require_many o_is_count_below h_MOST_UNKNOWNS)
  have o_is_string_of_letters := Ok.mk' (P := P) (w := w) (base := base) F_is_string_of_letters g_is_string_of_letters (fun _ _ _ _ _ _ us hl => match us, hl with | [_], _ => rfl) (ok_letters F_is_string_of_letters z_isinstance z_str)
  have o_has_form := Ok.mk' (P := P) (w := w) (base := base) F_has_form g_has_form (fun _ _ _ _ _ _ us hl => match us, hl with | [_, _], _ => rfl) (ok_hasForm F_has_form o_is_count z_isinstance z_tuple z_len z_all)
  have o_is_plain := Ok.mk' (P := P) (w := w) (base := base) F_is_plain g_is_plain (fun _ _ _ _ _ _ us hl => match us, hl with | [_], _ => rfl) (ok_isPlain F_is_plain z_any)
  have o_form_times := Ok.mk' (P := P) (w := w) (base := base) F_form_times g_form_times (fun _ _ _ _ _ _ us hl => match us, hl with | [_, _], _ => rfl) (ok_times F_form_times z_tuple)
  have o_plain_form := Ok.mk' (P := P) (w := w) (base := base) F_plain_form g_plain_form (fun _ _ _ _ _ _ us hl => match us, hl with | [_, _], _ => rfl) (ok_plainForm F_plain_form z_tuple)
  have o_root_of := Ok.mk' (P := P) (w := w) (base := base) F_root_of g_root_of (fun _ _ _ _ _ _ us hl => match us, hl with | [_], _ => rfl) (ok_root F_root_of )
  have o_common_end := Ok.mk' (P := P) (w := w) (base := base) F_common_end g_common_end (fun _ _ _ _ _ _ us hl => match us, hl with | [_, _], _ => rfl) (ok_common F_common_end z_len)
  have o_turned := Ok.mk' (P := P) (w := w) (base := base) F_turned g_turned (fun _ _ _ _ _ _ us hl => match us, hl with | [_, _], _ => rfl) (ok_turned F_turned z_len)
  have o_require_measure := Ok.mk' (P := P) (w := w) (base := base) F_require_measure g_require_measure (fun _ _ _ _ _ _ us hl => match us, hl with | [_], _ => rfl) (ok_reqMeasure F_require_measure h_MOST_MEASURE)
  have o_add_fixed := Ok.mk' (P := P) (w := w) (base := base) F_add_fixed g_add_fixed (fun _ _ _ _ _ _ us hl => match us, hl with | [_, _, _], _ => rfl) (ok_addFixed F_add_fixed o_plain_form)
  have o_is_piece := Ok.mk' (P := P) (w := w) (base := base) F_is_piece g_is_piece (fun _ _ _ _ _ _ us hl => match us, hl with | [_, _], _ => rfl) (ok_isPiece F_is_piece o_is_string_of_letters o_has_form z_isinstance z_tuple z_len h_LONGEST_PIECE)
  have o_measure := Ok.mk' (P := P) (w := w) (base := base) F_measure g_measure (fun _ _ _ _ _ _ us hl => match us, hl with | [_], _ => rfl) (ok_measure F_measure o_is_plain z_sum z_len)
  have o_add_power := Ok.mk' (P := P) (w := w) (base := base) F_add_power g_add_power (fun _ _ _ _ _ _ us hl => match us, hl with | [_, _, _, _], _ => rfl) (ok_addPower F_add_power o_is_plain)
  have o_normal_pieces := Ok.mk' (P := P) (w := w) (base := base) F_normal_pieces g_normal_pieces (fun _ _ _ _ _ _ us hl => match us, hl with | [_, _], _ => rfl) (ok_np F_normal_pieces o_is_plain o_root_of o_form_times o_common_end o_turned o_add_fixed o_add_power z_any z_len)
  have o_normal := Ok.mk' (P := P) (w := w) (base := base) F_normal g_normal (fun _ _ _ _ _ _ us hl => match us, hl with | [_, _], _ => rfl) (ok_normal F_normal o_require_many o_is_piece o_measure o_require_measure o_normal_pieces z_isinstance z_list z_len h_MOST_PIECES)
  have FI := ok_init (P := P) (w := w) (base := base) F_I T o_normal
  have bI : Binds K fd_I ["self", "many", "pieces"] [] := FunD.bindsN F_I fun _ _ _ _ _ _ us hl => match us, hl with | [_, _, _], _ => rfl
  have FE := ok_eq (P := P) (w := w) (base := base) F_E T z_isinstance gT
  have bE : Binds K fd_E ["self", "other"] [] := FunD.bindsN F_E fun _ _ _ _ _ _ us hl => match us, hl with | [_, _], _ => rfl
  have EQ : EqOk P w K mg base (TA K) := ⟨_, fd_E, _, FE, m1, m2, bE⟩
  have o__law_value := Ok.mk' (P := P) (w := w) (base := base) F__law_value g__law_value (fun _ _ _ _ _ _ us hl => match us, hl with | [_], _ => rfl) (ok_value F__law_value o__law_random M FI bI gT)
  exact ok_law F_law Z EQ z_isinstance z_range z_ValueError o__law_generator o__law_value o__law_made o__law_kinds o__law_empty o__law_named
end
end K8
set_option Elab.async false
set_option linter.all false
set_option maxRecDepth 100000
set_option maxHeartbeats 0
namespace K8
open PySem PySem.Spec PyProof.Rows L2 XV
abbrev R : PySem.W.OpenRow := PySem.W.OpenLaw.row PySem.Challenge.rw_openloops_k08_errors_by_their_classes
abbrev qv : Program := PySem.W.view R.prog [74]
def names : List PySem.Str := (["LoopError", "InvalidNumber", "InvalidWord", "InvalidForm", "InvalidPoint", "InvalidPieces", "InvalidList", "InvalidLines", "InvalidPlace", "InvalidAmount", "InvalidStep", "InvalidWay", "InvalidDeed", "InvalidFlag", "InvalidText", "InvalidGrid", "InvalidSet", "InvalidTable", "InvalidAutomaton", "InvalidMaker", "InvalidProgram", "InvalidWorkshop", "InvalidPiece", "Unlike", "TooLong", "TooMany", "UnknownPart", "OpenInOpen", "NothingToUndo", "NothingToRedo"] : List PySem.Str) ++ (["MOST_UNKNOWNS", "is_whole", "is_count", "is_count_below", "require_many", "is_string_of_letters", "has_form", "is_plain", "form_times", "sum_of_forms", "plain_form", "root_of", "common_end", "turned", "LONGEST_PIECE", "MOST_PIECES", "MOST_MEASURE", "normal", "is_piece", "measure", "require_measure", "normal_pieces", "add_fixed", "add_power", "OpenText", "_law_hash", "_law_generator", "_law_random", "_law_made", "_law_first"] : List PySem.Str) ++ (["_law_second", "_law_third", "_law_fourth", "_law_kinds", "_law_empty", "_law_named", "_law_value"] : List PySem.Str)
noncomputable abbrev endR (w : World) (os : OsState) : Option PySem.W.SharedT := HandSHeadRun.endF (HandSHeadRun.stepQ (HandSHeadRun.denQ HandSHeadRun.tabQ) R.prog w) 12000 R.prog w os
end K8
set_option Elab.async false
set_option linter.all false
set_option maxRecDepth 100000
set_option maxHeartbeats 0
namespace K8
open PySem PySem.Spec PyProof.Rows L2 XV
def obsK (K : PySem.W.Frag) : He.AlD × Bool := (He.obsD fa fn K, bx K)
abbrev hk : PySem.W.Hook := hookF (He.AlD × Bool) obsK (He.valD fn, true)
def ob (s : PySem.W.SharedT) : He.AlD × Bool := obF obsK s
theorem ob_eq (s : PySem.W.SharedT) : ob s = hk.obs s.abs := obF_eq (val := (He.valD fn, true)) s
theorem run (w : World) : HandSHeadRun.RunEq R qv hk ob 12000 names w := by
  intro os
  kernel_rfl
end K8
set_option Elab.async false
set_option linter.all false
set_option maxRecDepth 100000
set_option maxHeartbeats 0
open PySem PySem.W PySem.Calls PyProof.Rows
theorem PySem.Challenge.cw_openloops_k08_errors_by_their_classes_holds : PySem.Challenge.rw_openloops_k08_errors_by_their_classes.Holds := by
  w_on; o_law
  refine HandSHeadRun.head_any (r := OpenLaw.row PySem.Challenge.rw_openloops_k08_errors_by_their_classes) (q := view (OpenLaw.row PySem.Challenge.rw_openloops_k08_errors_by_their_classes).prog [74]) (H := K8.hk) (ob := K8.ob) (M := 12000) (loose := K8.names)
    (d := HandSHeadRun.topDef (OpenLaw.row PySem.Challenge.rw_openloops_k08_errors_by_their_classes).prog 74) (kwd := []) K8.ob_eq
    (by kernel_rfl) (fun s => by kernel_rfl) K8.run (by kernel_rfl) (by kernel_rfl) (by kernel_rfl) (by rfl) (by first | assumption | decide +kernel) (by decide +kernel) ⟨rfl, rfl, rfl, rfl, rfl, by decide +kernel⟩ ?hw ?hc
  case hw => w_witness2
  case hc =>
    refine L2.walk_ofE (l := PySem.Challenge.rw_openloops_k08_errors_by_their_classes) (n := 63) (k := 13) (x := "_law_script") (CX := L2.CX0) rfl (by decide) (by kernel_rfl) ⟨rfl, by decide, by decide⟩ ?F (fun _ _ _ _ z => z)
    intro w mg fa h Y G hmg0
    obtain ⟨K, KX, cb⟩ := Y
    have c : He.SaysD K8.fa K8.fn K := congrArg Prod.fst cb
    have b : K8.bx K = true := congrArg Prod.snd cb
    have hmg : mg ("law" : PySem.Str) = some (.ref fa) := by
      have e : (HandSHeadRun.topDef (OpenLaw.row PySem.Challenge.rw_openloops_k08_errors_by_their_classes).prog 74).name = ("law" : PySem.Str) := by kernel_rfl
      rw [← e]
      exact hmg0
    obtain ⟨fd, hb, hF⟩ := K8.facts (P := (PySem.Challenge.rw_openloops_k08_errors_by_their_classes).prog) (w := w) KX G hmg c b
    exact ⟨K, fd, K8.spLaw K, KX, hb, fun H a ns hl _ hS => ⟨a, ns, rfl, hS, hl, fun _ => rfl⟩, hF⟩
