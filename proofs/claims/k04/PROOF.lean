import PyProof.Rows.All
import Wide.All
import OpenK.AllK
import Wide.FinOn
import HandS.ForMost
import HandS.Exc
import HandS.ExcInit
import HandS.ExcIs
import HandS.ExcField
import HandS.ExcOwn
import HandS.Defaults
import HandS.HeadHook2
import HandS.ExcValue
import HandS.Wide
import HandS.WideBits
import HandS.Style
import HandS.IsInst
import PySem.Challenge.RW_openloops_k04_whole_words_and_letters
import PyProof.StrLawsIn
import PyProof.StrBlock2
import PyProof.Rows.StrNews2
import KE.DataAny
import HandS.StrMore
import HandS.Zip
import KE.GoesZip
import KE.GoesMore
import KE.GoesEnum
import HandS.Comp
import HandS.Ends
import HandS.HeadEnd
import HandS.TryMany
import HandS.Deep
import PyProof.ReprRoads
import HandS.Gcd
import HandS.SlotsOwn
import HandS.Codes
import KE.KMathGC
import PyProof.NeKinds
import PyProof.EqKinds
import HandS.OwnEq
import HandS.TupAny
import PyProof.Rows.StrCountLaw
import HandS.Walk
import PyProof.ReprLen
import HandS.WordsExc
import HandS.Evl
import PyProof.P3Eq
import HandS.Head0
import HandS.Head1
import HandS.Head2
import HandS.HeadHook1
set_option Elab.async false
set_option linter.all false
set_option maxRecDepth 100000
set_option maxHeartbeats 2000000
/-! Own error classes whose instances are held as values: C(..) with any keywords, e.f, isinstance(e, C). -/
namespace XV
open PySem PySem.Spec PyProof.Rows L2 PySem.HandSPX

section
variable {prog : Program} {w : World} {A : Around} {E : Value → Shared → Prop} {R : Result → Shared → Prop}
variable {h : Heap} {g : Array GenState} {d : Drawn} {t : Nat} {os : OsState}
variable {nm q : Str} {C N : Addr} {bs bm bmB : List Value} {hdct : Bool} {sn : List Str} {sub : List Value} {ab : Bool} {col : Option Bool} {dd : Option Addr}
variable {k0 k1 k2 k3 k5 : Option Value} {B newId initId : String}

/-- the check ahead of __new__, whatever keywords there are -/
theorem chkNew {M : Model} (F : ExcBaseFacts B newId initId bmB) (hT : ∀ X : String, bm.contains (.type X) = bmB.contains (.type X))
    {rest : List Value} {kw : List (Str × Value)} {Q : Unit → Shared → Prop}
    (hC : h.get? C = some (excClassObj nm q C N bs bm hdct sn sub ab col dd k0 k1 k2 k3 k5 newId)) (hq : Q () ⟨h, g, d, t, os⟩) :
    wpAny M A (checkBuiltinCall newId ⟨.ref C :: rest, kw⟩) Q E ⟨h, g, d, t, os⟩ := by
  have cB : (Value.ref C :: bm).contains (.type B) = true := by
    rw [List.contains_cons, hT, F.hasB]
    exact Bool.or_true _
  have star := F.noStar
  simp only [checkBuiltinCall, F.newKind, F.newSplit, F.newRow]
  repeat (first
    | refine wpAny_loadPart_at hC ?_
    | (refine wpAny_isSubtype_exc hC ?_; rw [cB])
    | refine wpAny_staticBase_exc hC ?_
    | refine wpAny_madeBy_exc hC ?_
    | simp only [bne_self_eq_false, Bool.false_eq_true, if_false]
    | wp_step)
  exact hq

theorem runNew (F : ExcBaseFacts B newId initId bmB) (hT : ∀ X : String, bm.contains (.type X) = bmB.contains (.type X))
    {rest : List Value} {kw : List (Str × Value)}
    (hC : h.get? C = some (excClassObj nm q C N bs bm hdct sn sub ab col dd k0 k1 k2 k3 k5 newId))
    (hq : R (.ok (.ret (.ref (h.objs.size + 1)))) ⟨(h.push (PySem.W.kdv_tup rest)).push (excO C h.objs.size), g, d, t, os⟩) (hz : rest.length ≤ sizeLine) :
    codeAny (model prog w) A (.builtin newId ⟨.ref C :: rest, kw⟩) R ⟨h, g, d, t, os⟩ := by
  have ends := F.ends
  have cB : (Value.ref C :: bm).contains (.type B) = true := by
    rw [List.contains_cons, hT, F.hasB]
    exact Bool.or_true _
  have cA : (Value.ref C :: bm).contains (.type "AttributeError") = false := by
    rw [List.contains_cons, hT, F.noAttr] <;> rfl
  have cN : (Value.ref C :: bm).contains (.type "NameError") = false := by
    rw [List.contains_cons, hT, F.noName] <;> rfl
  refine codeAny_builtinAt F.entry ?_
  unfold Builtin.«BaseException.__new__»
  refine PySem.wpAt_bind ?_
  show PySem.wpAt _ _ _ (stack >>= _) _ _ _
  refine PySem.wpAt_bind (PySem.wpAt_stack fun p below => PySem.wpAt_of_wpAny ?_)
  wp_walk
  refine PySem.wpAt_of_wpAny ?_
  rw [F.owner]
  repeat (first
    | with_reducible refine wpAny_madeHere_exc F.canon hC ?_
    | with_reducible refine wpAny_loadPart_at hC ?_
    | (with_reducible refine wpAny_isSubtype_exc hC ?_; first | rw [cB] | rw [cA] | rw [cN])
    | wp_step)
  show R _ _
  rw [Heap.size_push]
  exact hq

theorem typeCall (F : ExcBaseFacts B newId initId bmB) (hT : ∀ X : String, bm.contains (.type X) = bmB.contains (.type X))
    {rest : List Value} {kw : List (Str × Value)} {fI : Addr} {Q : Fin → Shared → Prop}
    (hC : h.get? C = some (excClassObj nm q C N bs bm hdct sn sub ab col dd k0 k1 k2 k3 k5 newId))
    (hi : W.Looks (model prog w) h (typeLookup (.ref C) "__init__") (some (.ref fI)))
    (hb : ∀ self, W.Looks (model prog w) h (bindSpecial (.ref fI) self) (.ref fI, [self])) (hz : rest.length ≤ sizeLine)
    (hq : codeAny (model prog w) A (.call (.ref fI) ⟨.ref (h.objs.size + 1) :: rest, kw⟩)
      (fun r s' => match r with
        | .ok (.ret v) => v = .none ∧ Q (.done (.ret (.ref (h.objs.size + 1)))) s'
        | .ok _ => False
        | .error e => E e s')
      ⟨(h.push (W.kdv_tup rest)).push (excO C h.objs.size), g, d, t, os⟩) :
    wpAny (model prog w) A (Builtin.«type.__call__» ⟨.ref C :: rest, kw⟩) Q E ⟨h, g, d, t, os⟩ := by
  repeat (first
    | with_reducible refine wpAny_loadPart_at hC ?_
    | with_reducible refine wpAny_madeBy_exc hC ?_
    | wp_step)
  refine codeAny_call_builtin_code (Code.quiet_builtin _ F.quiet) (chkNew F hT hC ?_)
  refine runNew F hT hC ?_ hz
  show wpAny _ _ _ _ _ _
  have k : ∀ b o, h.get? b = some o → ((h.push (W.kdv_tup rest)).push (excO C h.objs.size)).get? b = some o :=
    fun b o e => Heap.get?_push_of_some _ (Heap.get?_push_of_some _ e)
  have hC1 := k _ _ hC
  have got : ((h.push (W.kdv_tup rest)).push (excO C h.objs.size)).get? (h.objs.size + 1) = some (excO C h.objs.size) := by heap_get
  have cC : (Value.ref C :: bm).contains (.ref C) = true := by simp
  have i1 := hi.keeps k
  have b1 := (hb (.ref (h.objs.size + 1))).keeps k
  unfold isInstance
  repeat (first
    | with_reducible refine wpAny_loadPart_at got ?_
    | (with_reducible refine wpAny_isSubtype_exc hC1 ?_; rw [cC])
    | wp_step)
  show wpAny _ _ (typeLookup (.ref C) _) _ _ _
  refine i1.at ?_
  refine wpAny_holding (wpAny_bind (b1.at ?_))
  refine wpAny_bind (wpAny_call (codeAny_mono hq fun r s' z => ?_))
  rcases r with e | (v | _ | _ | _) <;> first | exact z | exact z.elim | skip
  obtain ⟨rfl, z⟩ := z
  first
    | exact wpAny_pure (wpAny_pure z)
    | (wp_walk; exact z)

theorem chkCall {M : Model} {rest : List Value} {kw : List (Str × Value)} {Q : Unit → Shared → Prop}
    (hC : h.get? C = some (excClassObj nm q C N bs bm hdct sn sub ab col dd k0 k1 k2 k3 k5 newId)) (hq : Q () ⟨h, g, d, t, os⟩) :
    wpAny M A (checkBuiltinCall "type.__call__" ⟨.ref C :: rest, kw⟩) Q E ⟨h, g, d, t, os⟩ := by
  have f3 := tc_sub
  have ty : (⟨h, g, d, t, os⟩ : Shared).TypeIs (.ref C) "type" := ⟨_, hC, rfl⟩
  have args : argsOk "type.__call__" ⟨.ref C :: rest, kw⟩ := PySem.W.tc_args _ _ _
  unfold argsOk at args
  simp only [checkBuiltinCall, tc_kind, tc_split]
  repeat (any_goals (first
    | assumption
    | with_reducible refine wpAny_loadPart_at hC ?_
    | with_reducible refine wpAny_onRaise ?_
    | with_reducible refine wpAny_map ?_
    | rw [args]
    | wp_step))

/-- C(.., k = v, ..): an exception is made, then its class's own __init__ is called upon it -/
theorem callOwn (F : ExcBaseFacts B newId initId bmB) (hT : ∀ X : String, bm.contains (.type X) = bmB.contains (.type X))
    {rest : List Value} {kw : List (Str × Value)} {fI : Addr}
    (hC : h.get? C = some (excClassObj nm q C N bs bm hdct sn sub ab col dd k0 k1 k2 k3 k5 newId))
    (hi : W.Looks (model prog w) h (typeLookup (.ref C) "__init__") (some (.ref fI)))
    (hb : ∀ self, W.Looks (model prog w) h (bindSpecial (.ref fI) self) (.ref fI, [self])) (hz : rest.length ≤ sizeLine)
    (hq : codeAny (model prog w) (A.under (.builtin "type.__call__" ⟨.ref C :: rest, kw⟩)) (.call (.ref fI) ⟨.ref (h.objs.size + 1) :: rest, kw⟩)
      (W.InitBack (h.objs.size + 1) R) ⟨(h.push (W.kdv_tup rest)).push (excO C h.objs.size), g, d, t, os⟩) :
    codeAny (model prog w) A (.call (.ref C) ⟨rest, kw⟩) R ⟨h, g, d, t, os⟩ := by
  have f1 := tc_lookup
  have f2 := tc_bind (.ref C)
  have ty : (⟨h, g, d, t, os⟩ : Shared).TypeIs (.ref C) "type" := ⟨_, hC, rfl⟩
  refine codeAny_of_tree ?_
  show wpAny _ _ (callAny (.ref C) _) _ _ _
  repeat (any_goals (first
    | assumption
    | with_reducible refine wpAny_loadPart_at hC ?_
    | wp_step))
  refine ⟨rfl, ?_⟩
  refine codeAny_call_builtin_at (Code.quiet_builtin _ (by decide +kernel)) entry_typeCall (chkCall hC (typeCall F hT hC hi hb hz ?_))
  refine codeAny_mono hq fun r s' z => ?_
  rcases r with e | (v | _ | _ | _) <;> exact z
end
end XV
set_option Elab.async false
set_option linter.all false
set_option maxRecDepth 100000
set_option maxHeartbeats 2000000
namespace XV
open PySem PySem.Spec PyProof.Rows L2

theorem upd_mid {H : Hp} {a d : Addr} {o p q : HO} : upd (upd (upd H a o) d p) a q = upd (upd H d p) a q := by
  funext b
  by_cases e : b = a
  · subst e
    rw [upd_same, upd_same]
  · rw [upd_ne e, upd_ne e]
    by_cases f : b = d
    · subst f
      rw [upd_same, upd_same]
    · rw [upd_ne f, upd_ne f, upd_ne e]

/-- what __init__ of an error with the one field fld does -/
def spI (C : Addr) (fld : Str) : Sp := fun vs H Q _ => ∃ (a : Addr) (v : V), vs = [.ref a, v] ∧ H a = some (exo a C none) ∧
  ∀ d, H d = none → d ≠ a → Q .non (upd (upd H d (exd d [(fld, v)])) a (exo a C (some d)))

/-- what is known of such a class and its __init__ -/
structure XCls (P : Program) (w : World) (K : PySem.W.Frag) (mg : Str → Option Value) (base : Heap) (nm fld : Str) (C fI : Addr) (fd : FuncData) : Prop where
  g : mg nm = some (.ref C)
  ox : OexC K C
  iC : PySem.W.findIn K (.ref C) "__init__" = some (some (.ref fI))
  tI : PySem.W.typeIn K (.ref fI) = some (.type "function")
  no : PySem.W.findIn K (.ref C) fld = some none
  ini : FnOk P w K mg base CX0 1 fI fd ["self", fld] (spI C fld)
  b1 : ∀ (s : Shared) (x u : Value), K.In s.heap → BindsTo s fd ⟨[x, u], []⟩ [("self", x), (fld, u)]
  b0 : ∀ (s : Shared) (x : Value), K.In s.heap → BindsTo s fd ⟨[x], []⟩ [("self", x), (fld, .none)]
  bk : ∀ (s : Shared) (x u : Value), K.In s.heap → BindsTo s fd ⟨[x], [(fld, u)]⟩ [("self", x), (fld, u)]

/-- C(v): a new exception at a, its dict at d -/
structure rMk (C : Addr) (fld : Str) (v : V) (H : Hp) (Q : VK) : Prop where
  go : ∀ a d, H a = none → H d = none → d ≠ a → Q (.ref a) (upd (upd H d (exd d [(fld, v)])) a (exo a C (some d)))

section
variable {X : Cx} {pins : List (Addr × Obj)} {σ : L2.St} {H : Hp} {s : Shared} {Q : VK} {nm fld : Str} {C fI : Addr} {fd : FuncData} {v : V} {u : Value}
theorem mk_run (T : XCls X.prog X.w X.K X.mg X.base nm fld C fI fd) (hr : Room 2 X.A) (I : Inv X pins σ H s) {us : List Value} {kw : List (Str × Value)} (hu : us.length ≤ 1)
    (hb : ∀ (s' : Shared) (x : Value), X.K.In s'.heap → BindsTo s' fd ⟨x :: us, kw⟩ [("self", x), (fld, u)]) (rv : RelV v u) (q : rMk C fld v H Q) :
    wpAny (model X.prog X.w) X.A (call (.ref C) us kw) (EP X pins σ Q) X.xe s := by
  obtain ⟨n0, q0, N, bs, bm, sn, sub, ab, col, dd, k0, k1, k2, k3, k5, hC, hbm⟩ := T.ox.cls
  obtain ⟨hp, g, dr, tk, os⟩ := s
  have le1 : hp.objs.size ≤ hp.objs.size + 1 := Nat.le_succ _
  have fr : H (hp.objs.size + 1) = none := I.hok.fresh le1
  have kk : ∀ b o, hp.get? b = some o → ((hp.push (PySem.W.kdv_tup us)).push (PySem.HandSPX.excO C hp.objs.size)).get? b = some o :=
    fun b o e => Heap.get?_push_of_some _ (Heap.get?_push_of_some _ e)
  have got : ((hp.push (PySem.W.kdv_tup us)).push (PySem.HandSPX.excO C hp.objs.size)).get? (hp.objs.size + 1) = some (PySem.HandSPX.excO C hp.objs.size) := by heap_get
  have I2 := I.laid (t' := tk) (a := hp.objs.size + 1) (o := exo (hp.objs.size + 1) C none) (h' := (hp.push (PySem.W.kdv_tup us)).push (PySem.HandSPX.excO C hp.objs.size)) kk le1 (exo_ok got)
  have hz : us.length ≤ sizeLine := by
    rw [sizeLine_eq]
    omega
  have sp : spI C fld [.ref (hp.objs.size + 1), v] (upd H (hp.objs.size + 1) (exo (hp.objs.size + 1) C none)) (fun z H2 => z = .non ∧ Q (.ref (hp.objs.size + 1)) H2) E0 := by
    refine ⟨_, v, rfl, upd_same, fun d nd ne => ⟨rfl, ?_⟩⟩
    rw [upd_mid]
    rw [upd_ne ne] at nd
    exact q.go _ d fr nd ne
  refine wpAny_call (callOwn PySem.F.excBase_ValueError (fun Y => PySem.HandSPX.refsVE_contains Y bm hbm) (I.kIn _ _ hC) (PySem.W.looks_findIn I.kIn T.iC)
    (fun self => PySem.W.bind_fn I.kIn self T.tI) hz
    (codeAny_mono (T.ini.run _ X.stack _ _ ⟨Value.ref (hp.objs.size + 1) :: us, kw⟩ [Value.ref (hp.objs.size + 1), u] [.ref (hp.objs.size + 1), v] _ E0
      (hr.make C us kw) (I2.env0.make C us kw) (hb _ _ I2.kIn) (.cons rfl (.cons rv .nil)) sp) fun r s' z => ?_))
  cases r with
  | error e => exact False.elim z
  | ok fl =>
    cases fl with
    | ret r0 =>
      obtain ⟨z0, H', J, rz, ez, qz⟩ := I2.after z
      subst ez
      exact ⟨rz, ⟨V.ref (hp.objs.size + 1), H', J, rfl, qz⟩⟩
    | next => exact False.elim z
    | brk => exact False.elim z
    | cont => exact False.elim z
end

/-- of a list with one value -/
def oneOf (q : V → Hp → Prop) : List V → Hp → Prop
  | [v], H => q v H
  | _, _ => False
theorem oneOf.elim {q : V → Hp → Prop} : ∀ {vs : List V} {H : Hp}, oneOf q vs H → ∃ v, vs = [v] ∧ q v H
  | [v], _, h => ⟨v, rfl, h⟩
  | [], _, h => h.elim
  | _ :: _ :: _, _, h => h.elim
section
variable {X : Cx} {nm fld : Str} {C fI : Addr} {fd : FuncData} {e : Expr} {te : TE} {p pos kpos : Pos}
/-- C(e) -/
theorem pe_mk1 (T : XCls X.prog X.w X.K X.mg X.base nm fld C fI fd) (hr : Room 2 X.A) (hg : Gl X nm) (he : PE X e te) (hdb : (nm == ("__debug__" : Str)) = false := by decide)
    (hs : starEach (e :: []) X.env = (false, eval e X.env) :: starEach [] X.env := by rfl) (hpl : (backTo pos (starEach [] X.env)).any (·.1) = false := by rfl) :
    PE X (.Call (.Name nm p) [e] [] pos) (fun σ H Q => te σ H fun v H1 => rMk C fld v H1 Q) := by
  refine ⟨fun pins s σ H Q I h => ?_⟩
  refine wpAny_Call_Name_kw (ld_glob I hg T.g ?_ hdb)
  have ha : PA X [e] (tCons te tNil) := pa_cons he pa_nil hs
  refine PySem.W.callWith_K (h₀ := X.base) I.ok.mod.kin T.ox.kC (thn (ha.run pos pins s σ H (oneOf fun v H1 => rMk C fld v H1 Q) I h) fun us s1 z => ?_) hs hpl
  obtain ⟨vs, H1, I1, r, q⟩ := z
  obtain ⟨v, ev, q⟩ := oneOf.elim q
  subst ev
  cases r with
  | cons rv rn =>
    cases rn
    exact ⟨I1.kIn, mk_run T hr I1 (by simp) (fun s' x X' => T.b1 s' x _ X') rv q⟩
/-- C() -/
theorem pe_mk0 (T : XCls X.prog X.w X.K X.mg X.base nm fld C fI fd) (hr : Room 2 X.A) (hg : Gl X nm) (hdb : (nm == ("__debug__" : Str)) = false := by decide) :
    PE X (.Call (.Name nm p) [] [] pos) (fun σ H Q => rMk C fld .non H Q) := by
  refine ⟨fun pins s σ H Q I h => ?_⟩
  refine wpAny_Call_Name_kw (ld_glob I hg T.g ?_ hdb)
  exact PySem.W.callWith_K0 I.kIn T.ox.kC (mk_run (us := []) T hr I (by simp) (fun s' x X' => T.b0 s' x X') (v := .non) rfl h)
/-- C(fld = e) -/
theorem pe_mkK (T : XCls X.prog X.w X.K X.mg X.base nm fld C fI fd) (hr : Room 2 X.A) (hg : Gl X nm) (he : PE X e te) (hdb : (nm == ("__debug__" : Str)) = false := by decide)
    (hall : (backToKw pos (keywordEach [⟨some fld, e, kpos⟩] X.env)).all (·.1.isSome) = true := by rfl) (hks : (backToKw pos (keywordEach [⟨some fld, e, kpos⟩] X.env)).filterMap (·.1) = [fld] := by rfl)
    (hpl : ((backTo pos (starEach [] X.env)).any (·.1) || (backToKw pos (keywordEach [⟨some fld, e, kpos⟩] X.env)).any (·.1.isNone)) = false := by rfl) :
    PE X (.Call (.Name nm p) [] [⟨some fld, e, kpos⟩] pos) (fun σ H Q => te σ H fun v H1 => rMk C fld v H1 Q) := by
  refine ⟨fun pins s σ H Q I h => ?_⟩
  refine wpAny_Call_Name_kw (ld_glob I hg T.g ?_ hdb)
  have hk : PK X [⟨some fld, e, kpos⟩] (tCons te tNil) := pk_cons he pk_nil
  refine PySem.W.callWith_KW0 (h₀ := X.base) I.ok.mod.kin T.ox.kC hall (thn (hk.run pos pins s σ H (oneOf fun v H1 => rMk C fld v H1 Q) I h) fun us s1 z => ?_) hpl
  obtain ⟨vs, H1, I1, r, q⟩ := z
  obtain ⟨v, ev, q⟩ := oneOf.elim q
  subst ev
  cases r with
  | cons rv rn =>
    cases rn
    refine ⟨I1.kIn, ?_⟩
    rw [hks]
    exact mk_run (us := []) T hr I1 (by simp) (fun s' x X' => T.bk s' x _ X') rv q
end
end XV
set_option Elab.async false
set_option linter.all false
set_option maxRecDepth 100000
set_option maxHeartbeats 4000000
namespace XV
open PySem PySem.Spec PyProof.Rows L2

/-! ### e.f -/
/-- x is an error of the class at C with the fields fs -/
def Err (H : Hp) (x : V) (C : Addr) (fs : List (Str × V)) : Prop := ∃ a d, x = .ref a ∧ H a = some (exo a C (some d)) ∧ H d = some (exd d fs)
/-- the facts that a read of the field n wants -/
structure XF (K : PySem.W.Frag) (C : Addr) (n : Str) : Prop where
  xf : XfC K C
  no : PySem.W.findIn K (.ref C) n = some none
section
variable {X : Cx}
theorem pe_xget {e : Expr} {te : TE} {pos : Pos} {n : Str} (he : PE X e te) (hb : attributeBase e n X.env (eval e X.env) = eval e X.env := by rfl) :
    PE X (.Attribute e n pos) (fun σ H Q => te σ H fun x H1 => ∃ C fs v, Err H1 x C fs ∧ XF X.K C n ∧ fs.lookup n = some v ∧ Q v H1) := by
  refine ⟨fun pins s σ H Q I h => ?_⟩
  refine attr_of hb (thn (he.run pins s σ H _ I h) fun u s1 hh => ?_)
  obtain ⟨x, H1, I1, rx, C, fs, v, ⟨a, d, ex, ea, ed⟩, T, l, q⟩ := hh
  subst ex
  obtain rfl : u = Value.ref a := rx
  obtain ⟨t1, ho⟩ := exo_at I1.hok ea
  obtain ⟨mA, hns, hrel⟩ := exd_at I1.hok ed
  obtain ⟨od, hod, hl⟩ := lookIn_ns hns
  obtain ⟨w1, hw, rw1⟩ := RelO.some_of (v := v) (o := mA n) (by rw [← l]; exact hrel n)
  have J : PySem.W.InstAt s1.heap a _ C (some od) := ⟨ho, rfl, rfl, hod⟩
  exact HandSPX.exc_get I1.kIn J T.xf.ga T.xf.gg T.xf.exC (PySem.W.findObj_own T.xf.hdC T.no rfl (by rw [hl, hw])) (handed_of rw1) ⟨v, H1, I1.tok _, rw1, q⟩
end
end XV

/-! ### isinstance of an error, with its dict or without -/
namespace XV
open PySem PySem.W PySem.Calls PyProof.Rows L2
theorem find_cls {K : Frag} {D : Addr} {od : Option Obj} (E : ExcC K D) : findObj K D od "__class__" = some (.bind (.builtin "getset_descriptor.__get__") (.builtin "object.__class__")) := by
  have hc : (clsIn K D).isSome = true := by
    obtain ⟨cd, hc, _⟩ := any_some E.hd
    rw [hc]
    rfl
  cases od with
  | none => exact findObj_dataN hc E.ha E.hn E.ht
  | some o => exact findObj_data hc E.ha E.hn E.ht
theorem getCls {prog : Program} {w : World} {A : Around} {E : Value → Shared → Prop} {s : Shared} {K : Frag} {x D : Addr} {ox : Obj} {od : Option Obj} {Q : Option Value → Shared → Prop}
    (C : ExcC K D) (X : K.In s.heap) (I : InstAt s.heap x ox D od) (q : Q (some (.ref D)) { s with toks := s.toks + 1 }) : wpAny (model prog w) A (getAttr? (.ref x) "__class__") Q E s := by
  have fnd := find_cls (od := od) C
  obtain ⟨hp, g, d, t, os⟩ := s
  have tyx := I.type (M := model prog w)
  have look1 := looks_findIn (M := model prog w) X C.hg
  have look2 := looks_findIn (M := model prog w) X C.hk
  have look3 := looks_find (M := model prog w) X I fnd
  have isB : Looks (model prog w) hp (isInstance (.ref x) (.type "BaseException")) true := tyx.andThen (looks_subIn X C.hs)
  have n0 : (false && onTheHeap (Value.builtin "BaseException.__getattribute__")) = false := rfl
  have n2 : (Value.builtin "BaseException.__getattribute__" == Value.builtin "object.__getattribute__") = false := by decide +kernel
  have n1 : (onTheHeap (Value.ref D) && Value.builtin "BaseException.__getattribute__" == Value.builtin "object.__getattribute__") = false := by
    rw [n2]
    rfl
  unfold getAttr? getAttrBy? getAttrBy
  refine wpAny_bind (wpAny_mkText (wpAny_bind (wpAny_attempt (wpAny_holding (wpAny_bind (tyx.at (wpAny_bind (look1.at ?_))))))))
  show wpAny _ _ (if (onTheHeap (Value.ref D) && Value.builtin "BaseException.__getattribute__" == Value.builtin "object.__getattribute__") = true then _ else _) _ _ _
  rw [n1, if_neg Bool.false_ne_true]
  unfold getAttrByItsOwn hookBefore
  refine wpAny_bind ?_
  rw [if_pos (show onTheHeap (Value.ref D) = true from rfl)]
  refine look2.at ?_
  refine wpAny_bind (wpAny_attempt (wpAny_holding ?_))
  unfold callGetattribute
  rw [n0, if_neg Bool.false_ne_true]
  unfold boundAndCalled
  rw [PySem.F.excAttr_ValueError.ga.bind (.ref x)]
  refine wpAny_bind (wpAny_pure ?_)
  show wpAny _ _ (call (.builtin "BaseException.__getattribute__") [.ref x, .str "__class__" t]) _ _ _
  refine wpAny_call (codeAny_call_builtin PySem.F.excAttr_ValueError.ga.plain PySem.F.entry_bexc_ga ?_)
  refine @check_slot (model prog w) _ _ ⟨hp, g, d, t + 1, os⟩ "BaseException.__getattribute__" "BaseException" "__getattribute__" (.ref x) [.str "__class__" t] [] _ (by decide +kernel) (by decide +kernel) isB (PySem.F.args_bexc_ga (.ref x) (.str "__class__" t)) ?_
  unfold Builtin.«object.__getattribute__»
  refine wpAny_bind (wpAny_of_eq (a := ((Value.ref x : Value), [Value.str "__class__" t])) (by first | rfl | (simp only [slotArgs]; rfl)) ?_)
  refine wpAny_bind (wpAny_pure (wpAny_bind (tyx.at (wpAny_bind (look3.at ?_)))))
  show wpAny _ _ (holding [Value.builtin "object.__class__"] (call (.builtin "getset_descriptor.__get__") [.builtin "object.__class__", .ref x, .ref D]) >>= ret) _ _ _
  refine wpAny_bind (wpAny_holding (wpAny_call (class_get (s := ⟨hp, g, d, t + 1, os⟩) (ox := ox) (od := od) X I C.hm ?_)))
  refine wpAny_pure ?_
  show wpAny _ _ (handedOut (.ref D)) _ _ _
  rw [handedOut_of (v := .ref D) rfl]
  first
    | exact wpAny_pure (wpAny_pure q)
    | exact wpAny_pure q
    | exact wpAny_pure (wpAny_bind (wpAny_pure (wpAny_pure q)))
theorem kitErr {K : Frag} {x D : Addr} {ox : Obj} {od : Option Obj} (C : ExcC K D) : KitX K (.ref x) (.ref D) (fun h => InstAt h x ox D od) where
  ty := fun _ _ _ I => I.type
  it := fun _ _ X _ => by
    obtain ⟨cdD, hcD, _⟩ := any_some C.hd
    unfold clsIn at hcD
    split at hcD
    · rename_i c' d' cd' sl' ho
      intro A' Q' E' s' k q
      unfold isType loadHead
      exact wpAny_bind (wpAny_loadPart (k _ _ (X _ _ ho)) (wpAny_pure q))
    · cases hcD
  ne := fun h tp dd its n sl X htp => by
    obtain ⟨cdD, hcD, _⟩ := any_some C.hd
    refine Bool.eq_false_iff.mpr fun q => ?_
    have e : D = tp := Value.ref.inj (beq_iff_eq.mp q)
    subst e
    unfold clsIn at hcD
    split at hcD
    · rename_i c' d' cd' sl' ho
      have z := (X _ _ ho).symm.trans htp
      cases z
    · cases hcD
  ca := fun X I k => getCls C X I k
end XV

namespace XV
open PySem PySem.Spec PyProof.Rows L2
/-- x is an error of the class at C, whatever else is known of it -/
def IsE (H : Hp) (x : V) (C : Addr) : Prop := ∃ a, x = .ref a ∧ (H a = some (exo a C none) ∨ ∃ d fs, H a = some (exo a C (some d)) ∧ H d = some (exd d fs))
theorem Err.isE {H : Hp} {x : V} {C : Addr} {fs : List (Str × V)} (h : Err H x C fs) : IsE H x C := by
  obtain ⟨a, d, e, e1, e2⟩ := h
  exact ⟨a, e, .inr ⟨d, fs, e1, e2⟩⟩
def rIsX (K : PySem.W.Frag) : List V → Hp → VK → Prop := fun xs H Q => ∃ (x c : V) (D : Addr) (cv : Value) (b : Bool), xs = [x, c] ∧ IsE H x D ∧ ExcC K D ∧ (∀ u, RelV c u → u = cv) ∧ PySem.W.kitOne K (.ref D) cv = some b ∧ Q (.bl b) H
theorem call_isX {X : Cx} : CallR X (.builtin "isinstance") (rIsX X.K) := by
  intro pins s σ H xs us Q I r h
  obtain ⟨x, c, D, cv, b, rfl, ⟨a, ex, hx⟩, C, hcv, e, q⟩ := h
  subst ex
  cases r with
  | cons rx rr =>
    cases rr with
    | cons rt rr =>
      cases rr
      cases rx
      have ec := hcv _ rt
      subst ec
      rcases hx with hx | ⟨d, fs, hx, hd⟩
      · obtain ⟨t1, ho⟩ := exo_at I.hok hx
        have J : PySem.W.InstAt s.heap a _ D none := ⟨ho, rfl, rfl, trivial⟩
        exact PySem.W.kia_one (kitErr C) I.kIn J e (fun z => nomatch z) fun tk => ⟨.bl b, H, I.kept (t' := tk) fun _ _ z => z, rfl, q⟩
      · obtain ⟨t1, ho⟩ := exo_at I.hok hx
        obtain ⟨mA, hns, _⟩ := exd_at I.hok hd
        obtain ⟨od, hod, _⟩ := lookIn_ns hns
        have J : PySem.W.InstAt s.heap a _ D (some od) := ⟨ho, rfl, rfl, hod⟩
        exact PySem.W.kia_one (kitErr C) I.kIn J e (fun z => nomatch z) fun tk => ⟨.bl b, H, I.kept (t' := tk) fun _ _ z => z, rfl, q⟩
end XV
set_option Elab.async false
set_option linter.all false
set_option maxRecDepth 100000
set_option maxHeartbeats 4000000
namespace XV
open PySem PySem.Spec PyProof.Rows L2

/-! ### an error class without an __init__ of its own: C() -/
theorem pe_mkE {X : Cx} {nm : Str} {C : Addr} {bmB : List Value} {B newId initId : String} {p pos : Pos} (F : ExcBaseFacts B newId initId bmB) (q : PySem.W.excIn X.K C bmB newId = true) (gC : X.mg nm = some (.ref C))
    (kC : PySem.W.keepIn X.K (.ref C) = true) (hg : Gl X nm) (hdb : (nm == ("__debug__" : Str)) = false := by decide) :
    PE X (.Call (.Name nm p) [] [] pos) (fun σ H Q => ∀ a, H a = none → Q (.ref a) (upd H a (exo a C none))) := by
  refine ⟨fun pins s σ H Q I h => ?_⟩
  refine wpAny_Call_Name_kw (ld_glob I hg gC ?_ hdb)
  refine PySem.W.callWith_K0 I.kIn kC ?_
  obtain ⟨bm, N, n0, qn, bs, hdct, sn, sub, ab, col, dd, k0, k1, k2, k3, k5, mN, hC, hN, hni, T⟩ := exc_obj I.kIn q
  obtain ⟨hp, g, d, t, os⟩ := s
  refine wpAny_call_exc_subT F T hC hN hni (fun h' e hm => ?_) (by show 0 ≤ sizeLine; exact Nat.zero_le _)
  obtain ⟨t1, he, _, _⟩ := hm.there
  have hn : H e = none := I.hok.gone hm.new
  exact ⟨.ref e, _, I.laidN (t' := t) (a := e) (o := exo e C none) hm.keeps hm.new hn (exo_ok he), rfl, h e hn⟩

/-! ### facts by Bools -/
def clsB (K : PySem.W.Frag) (C : Addr) : Bool := match K.lookup C with
  | some ⟨.type "type", _, .cls cd, sl⟩ => (match cd.mro, sl.toList with
    | .ref C' :: bm, [_, _, _, _, some (.builtin n), _] => (C' == C && n == "ValueError.__new__") && (cd.hasDict && (!cd.hasDel && PySem.HandSPX.refsVE bm))
    | _, _ => false)
  | _ => false
theorem clsB_ok {K : PySem.W.Frag} {C : Addr} (h : clsB K C = true) :
    ∃ nm q N bs bm sn sub ab col dd k0 k1 k2 k3 k5, K.lookup C = some (excClassObj nm q C N bs bm true sn sub ab col dd k0 k1 k2 k3 k5 "ValueError.__new__") ∧ PySem.HandSPX.refsVE bm = true := by
  unfold clsB at h
  split at h
  · rename_i dd cd sl ho
    split at h
    · rename_i C' bm k0 k1 k2 k3 n k5 hm hs
      obtain ⟨h1, h2⟩ := He.ba h
      obtain ⟨h3, h4⟩ := He.ba h1
      obtain ⟨h5, h6⟩ := He.ba h2
      obtain ⟨h7, h8⟩ := He.ba h6
      obtain ⟨n1, bs, mro, ns, qn, hd, sn, sub, ab, col, del⟩ := cd
      dsimp only at hm h5 h7
      have e1 : C' = C := eq_of_beq h3
      have e2 : n = "ValueError.__new__" := eq_of_beq h4
      have e3 : del = false := by
        cases del with
        | false => rfl
        | true => cases h7
      subst e1 e2 e3 hm h5
      have e4 : sl = #[k0, k1, k2, k3, some (.builtin "ValueError.__new__"), k5] := by
        obtain ⟨l⟩ := sl
        simp only at hs
        rw [hs]
      subst e4
      exact ⟨n1, qn, ns, bs, bm, sn, sub, ab, col, dd, k0, k1, k2, k3, k5, ho, h8⟩
    · cases h
  · cases h
def oexB (K : PySem.W.Frag) (C : Addr) : Bool := clsB K C && (He.eqO (PySem.W.findIn K (.ref C) "__setattr__") (some (some (.builtin "object.__setattr__"))) &&
  (decide (PySem.W.subIn K (.ref C) (.type "BaseException") = some true) && (decide (PySem.W.typeIn K (.ref C) = some (.type "type")) && PySem.W.keepIn K (.ref C))))
theorem oexB_ok {K : PySem.W.Frag} {C : Addr} (h : oexB K C = true) : OexC K C := by
  obtain ⟨h1, h⟩ := He.ba h
  obtain ⟨h2, h⟩ := He.ba h
  obtain ⟨h3, h⟩ := He.ba h
  obtain ⟨h4, h5⟩ := He.ba h
  exact ⟨clsB_ok h1, He.eqO_ok h2, of_decide_eq_true h3, of_decide_eq_true h4, h5⟩
def excB (K : PySem.W.Frag) (D : Addr) : Bool := xfB K D && (He.eqO (PySem.W.findIn K (.ref D) "__class__") (some (some (.builtin "object.__class__"))) &&
  (He.eqO (PySem.W.specialIn K (.builtin "object.__class__") "__get__") (some (some (.builtin "getset_descriptor.__get__"))) &&
  (decide (PySem.W.takesIn K (.builtin "object.__class__") = some true) && decide (PySem.W.mroIn K D (.type "object") = some true))))
theorem excB_ok {K : PySem.W.Frag} {D : Addr} (h : excB K D = true) : ExcC K D := by
  obtain ⟨h1, h⟩ := He.ba h
  obtain ⟨h2, h⟩ := He.ba h
  obtain ⟨h3, h⟩ := He.ba h
  obtain ⟨h4, h5⟩ := He.ba h
  have x := xfB_ok h1
  exact ⟨x.ga, x.gg, x.exC, x.hdC, He.eqO_ok h2, He.eqO_ok h3, of_decide_eq_true h4, of_decide_eq_true h5⟩
/-- an error class nm whose own __init__ sets the field fld -/
def xclsB (K : PySem.W.Frag) (nm fld : Str) : Bool := He.eqO (PySem.W.nsIn K mainGlobals nm) (some (some (.ref (He.ga K nm)))) && (oexB K (He.ga K nm) &&
  (He.eqO (PySem.W.findIn K (.ref (He.ga K nm)) "__init__") (some (some (.ref (He.fAd K (nm, some "__init__"))))) &&
  (decide (PySem.W.typeIn K (.ref (He.fAd K (nm, some "__init__"))) = some (.type "function")) && (He.eqO (PySem.W.findIn K (.ref (He.ga K nm)) fld) (some none) && excB K (He.ga K nm)))))
/-- one without -/
def ecls0B (K : PySem.W.Frag) (nm : Str) : Bool := He.eqO (PySem.W.nsIn K mainGlobals nm) (some (some (.ref (He.ga K nm)))) && (PySem.W.excIn K (He.ga K nm) He.veBase "ValueError.__new__" && (PySem.W.keepIn K (.ref (He.ga K nm)) && excB K (He.ga K nm)))

/-! ### __init__(self, fld=None): self.fld = fld -/
def initA (fld : Str) (p1 p2 p3 : Pos) : Arguments :=
  { posonlyargs := [], args := [{ arg := "self", annotation := none, pos := p1 }, { arg := fld, annotation := none, pos := p2 }], vararg := none, kwonlyargs := [], kw_defaults := [], kwarg := none, defaults := [.Constant .none 0 p3] }
def initB (fld : Str) (q1 q2 q3 q4 : Pos) : List Stmt := [.Assign [.Attribute (.Name "self" q1) fld q2] (.Name fld q3) q4]
def initS (fld : Str) : Scope := { kind := .function, names := [(PySem.Str.ofString "self", .local), (fld, .local)], isGenerator := false, isCoroutine := false, more := [] }

section
variable {P : Program} {w : World} {K : PySem.W.Frag} {mg : Str → Option Value} {base h : Heap} {nm qual fld : Str} {p1 p2 p3 q1 q2 q3 q4 : Pos} {C fI : Addr} {fd : FuncData}
theorem ok_initV (F : FunD K "__init__" qual (initA "value" p1 p2 p3) (initB "value" q1 q2 q3 q4) (initS "value") [.non] [] fI fd) (O : OexC K C) (no : PySem.W.findIn K (.ref C) "value" = some none) :
    FnOk P w K mg base CX0 1 fI fd ["self", "value"] (spI C "value") := by
  refine F.ok (N := ["self", "value"]) ⟨rfl, rfl, rfl, by decide +kernel, rfl, by decide +kernel, by decide +kernel⟩ (fun vs H Q E h => ?_) (fun cdv A outer s H vs Q E hr h => ?_)
  · obtain ⟨a, v, rfl, _⟩ := h
    rfl
  · obtain ⟨a, v, rfl, ha, q⟩ := h
    exact ⟨_, pss_one (ps_ost (pv 0) (pv 1)), ⟨_, rfl, _, rfl, a, C, rfl, O, no, .inl ⟨ha, fun d n ne => q d n ne⟩⟩⟩
theorem ok_initP (F : FunD K "__init__" qual (initA "place" p1 p2 p3) (initB "place" q1 q2 q3 q4) (initS "place") [.non] [] fI fd) (O : OexC K C) (no : PySem.W.findIn K (.ref C) "place" = some none) :
    FnOk P w K mg base CX0 1 fI fd ["self", "place"] (spI C "place") := by
  refine F.ok (N := ["self", "place"]) ⟨rfl, rfl, rfl, by decide +kernel, rfl, by decide +kernel, by decide +kernel⟩ (fun vs H Q E h => ?_) (fun cdv A outer s H vs Q E hr h => ?_)
  · obtain ⟨a, v, rfl, _⟩ := h
    rfl
  · obtain ⟨a, v, rfl, ha, q⟩ := h
    exact ⟨_, pss_one (ps_ost (pv 0) (pv 1)), ⟨_, rfl, _, rfl, a, C, rfl, O, no, .inl ⟨ha, fun d n ne => q d n ne⟩⟩⟩
theorem bind_ini {args : Args} {binds : List Value → List (Str × Value)} (F : FunD K "__init__" qual (initA fld p1 p2 p3) (initB fld q1 q2 q3 q4) (initS fld) [.non] [] fI fd)
    (hb : ∀ (T : Addr) (kV doc pm : Value) (an : Option Addr) (cdv ct : Value), ∃ k, bindArgs (PySem.W.fnOf "__init__" qual (initA fld p1 p2 p3) (initB fld q1 q2 q3 q4) (initS fld) (.ref T) kV doc pm an cdv ct) args = seqItems? (.ref T) >>= k ∧ k (some #[Value.none]) = pure (binds [.none]))
    (s : Shared) (X : K.In s.heap) : BindsTo s fd args (binds [.none]) := by
  obtain ⟨oc, od, dV, kV, doc, pm, an, cdv, ct, osl, rfl, lk, hcd, hD, hK⟩ := F.ex
  rcases hD with ⟨e, _⟩ | ⟨_, T, o, its, m, rfl, lT, oT, rT⟩
  · cases e
  · cases rT with
    | cons r0 r1 =>
      cases r1
      cases r0
      obtain ⟨k, e1, e2⟩ := hb T kV doc pm an cdv ct
      refine BindsTo.of_looks fun M => ?_
      rw [e1]
      exact looks_items X lT oT (.of_pure e2)
theorem xcls_V (X : K.In h) (G : h.Ns mainGlobals mg) (c : xclsB K nm "value" = true) (F : FunD K "__init__" qual (initA "value" p1 p2 p3) (initB "value" q1 q2 q3 q4) (initS "value") [.non] [] (He.fAd K (nm, some "__init__")) fd) :
    XCls P w K mg base nm "value" (He.ga K nm) (He.fAd K (nm, some "__init__")) fd := by
  obtain ⟨c1, c⟩ := He.ba c
  obtain ⟨c2, c⟩ := He.ba c
  obtain ⟨c3, c⟩ := He.ba c
  obtain ⟨c4, c⟩ := He.ba c
  obtain ⟨c5, c6⟩ := He.ba c
  have O := oexB_ok c2
  have no := He.eqO_ok c5
  exact ⟨PySem.W.mg_of X G (He.eqO_ok c1), O, He.eqO_ok c3, of_decide_eq_true c4, no, ok_initV F O no,
    fun s x u Y => bind_ini (binds := fun _ => [("self", x), ("value", u)]) F (fun _ _ _ _ _ _ _ => ⟨_, rfl, rfl⟩) s Y,
    fun s x Y => bind_ini (binds := fun _ => [("self", x), ("value", .none)]) F (fun _ _ _ _ _ _ _ => ⟨_, rfl, rfl⟩) s Y,
    fun s x u Y => bind_ini (binds := fun _ => [("self", x), ("value", u)]) F (fun _ _ _ _ _ _ _ => ⟨_, rfl, rfl⟩) s Y⟩
theorem xcls_P (X : K.In h) (G : h.Ns mainGlobals mg) (c : xclsB K nm "place" = true) (F : FunD K "__init__" qual (initA "place" p1 p2 p3) (initB "place" q1 q2 q3 q4) (initS "place") [.non] [] (He.fAd K (nm, some "__init__")) fd) :
    XCls P w K mg base nm "place" (He.ga K nm) (He.fAd K (nm, some "__init__")) fd := by
  obtain ⟨c1, c⟩ := He.ba c
  obtain ⟨c2, c⟩ := He.ba c
  obtain ⟨c3, c⟩ := He.ba c
  obtain ⟨c4, c⟩ := He.ba c
  obtain ⟨c5, c6⟩ := He.ba c
  have O := oexB_ok c2
  have no := He.eqO_ok c5
  exact ⟨PySem.W.mg_of X G (He.eqO_ok c1), O, He.eqO_ok c3, of_decide_eq_true c4, no, ok_initP F O no,
    fun s x u Y => bind_ini (binds := fun _ => [("self", x), ("place", u)]) F (fun _ _ _ _ _ _ _ => ⟨_, rfl, rfl⟩) s Y,
    fun s x Y => bind_ini (binds := fun _ => [("self", x), ("place", .none)]) F (fun _ _ _ _ _ _ _ => ⟨_, rfl, rfl⟩) s Y,
    fun s x u Y => bind_ini (binds := fun _ => [("self", x), ("place", u)]) F (fun _ _ _ _ _ _ _ => ⟨_, rfl, rfl⟩) s Y⟩
theorem xcls_E (c : xclsB K nm fld = true) : ExcC K (He.ga K nm) ∧ XF K (He.ga K nm) fld := by
  obtain ⟨c1, c⟩ := He.ba c
  obtain ⟨c2, c⟩ := He.ba c
  obtain ⟨c3, c⟩ := He.ba c
  obtain ⟨c4, c⟩ := He.ba c
  obtain ⟨c5, c6⟩ := He.ba c
  exact ⟨excB_ok c6, ⟨xfB_ok (He.ba c6).1, He.eqO_ok c5⟩⟩
end
/-! ### a Hook with one Bool more -/
def hookB (n : Nat) (fa : List He.Fa) (fn : List He.DefD) (bx : PySem.W.Frag → Bool) : PySem.W.Hook where
  α := He.AlD × Bool
  obs := fun s => (He.obsDG n fa fn s.heap.get?, bx (He.frG s.heap.get? (He.asD s.heap.get? n)))
  val := fun _ => (He.valD fn, true)
  says := fun _ h => ∃ K : PySem.W.Frag, K.In h ∧ He.SaysD fa fn K ∧ bx K = true
  of := fun _ _ e => ⟨_, He.frG_in, congrArg Prod.fst e, congrArg Prod.snd e⟩
  keeps := fun _ _ _ ⟨K, hK, c⟩ k => ⟨K, PySem.W.Frag.In.keeps hK k, c⟩
def obsB (n : Nat) (fa : List He.Fa) (fn : List He.DefD) (bx : PySem.W.Frag → Bool) (g : Addr → Option Obj) : He.AlD × Bool := (He.obsDG n fa fn g, bx (He.frG g (He.asD g n)))
theorem obsB_eq {n : Nat} {fa : List He.Fa} {fn : List He.DefD} {bx : PySem.W.Frag → Bool} {g : Addr → Option Obj} {s : Shared} (h : ∀ a, g a = s.heap.get? a) : obsB n fa fn bx g = (hookB n fa fn bx).obs s := by
  have e : g = s.heap.get? := funext h
  rw [e] <;> rfl
end XV
set_option Elab.async false
set_option linter.all false
set_option maxRecDepth 100000
set_option maxHeartbeats 4000000
/-! Words of our own for calls of the text's defs, and the drawing of numbers. -/
namespace XV
open PySem PySem.Spec PyProof.Rows L2

/-- the module's name x is a def that keeps sp -/
structure Ok (P : Program) (w : World) (K : PySem.W.Frag) (mg : Str → Option Value) (base : Heap) (x : Str) (k : Nat) (ps : List Str) (sp : Sp) : Prop where
  ex : ∃ f fd, FnOk P w K mg base CX0 k f fd ps sp ∧ mg x = some (.ref f) ∧ PySem.W.keepIn K (.ref f) = true ∧ Binds K fd ps []
section
variable {X : Cx} {k : Nat} {ps : List Str} {sp : Sp} {x : Str} {e : Expr} {es : List Expr} {t : TA} {p pos : Pos}
theorem pe_callO (o : Ok X.prog X.w X.K X.mg X.base x k ps sp) (hr : Room k X.A) (hg : Gl X x) (ha : PA X (e :: es) t) (hdb : (x == ("__debug__" : Str)) = false := by decide)
    (he : starEach (e :: es) X.env = (false, eval e X.env) :: starEach es X.env := by rfl) (hpl : (backTo pos (starEach es X.env)).any (·.1) = false := by rfl) :
    PE X (.Call (.Name x p) (e :: es) [] pos) (tCall sp [] E0 t) := by
  obtain ⟨f, fd, F, hm, hk, b⟩ := o.ex
  exact pe_call F hr hg hm hk b .nil pass0 ha hdb he hpl
theorem pe_callO0 (o : Ok X.prog X.w X.K X.mg X.base x k ps sp) (hr : Room k X.A) (hg : Gl X x) (hdb : (x == ("__debug__" : Str)) = false := by decide) :
    PE X (.Call (.Name x p) [] [] pos) (tCall sp [] E0 tNil) := by
  obtain ⟨f, fd, F, hm, hk, b⟩ := o.ex
  exact pe_call0 F hr hg hm hk b .nil pass0 hdb
end
theorem Ok.mk' {P : Program} {w : World} {K : PySem.W.Frag} {mg : Str → Option Value} {base : Heap} {x : Str} {k : Nat} {ps : List Str} {sp : Sp} {body : List Stmt} {params : Arguments} {scope : Scope} {f : Addr} {fd : FuncData}
    (F : FunD K x x params body scope [] [] f fd) (g : mg x = some (.ref f)) (b : ∀ (kV doc pm : Value) (an : Option Addr) (cdv ct : Value) (us : List Value), us.length = ps.length → bindArgs (PySem.W.fnOf x x params body scope .none kV doc pm an cdv ct) ⟨us, []⟩ = pure (ps.zip us))
    (ok : FnOk P w K mg base CX0 k f fd ps sp) : Ok P w K mg base x k ps sp := ⟨f, fd, ok, g, F.kp, F.bindsN b⟩

/-- i ** j, the answer of at most 2 ^ 27 bits -/
def CPowW (i j : Int) : Prop := 0 ≤ j ∧ (Builtin.Int.intBits i : Int) * j ≤ 2 ^ 27
theorem op_powW {X : Cx} : OpR X (binaryOp .Pow) (rI CPowW fun i j => .int (i ^ j.toNat)) := opI fun _ _ _ _ _ _ _ hc q => pow_int hc.1 hc.2 q

/-! ### the list of three numbers from which is drawn -/
/-- at g: a list [a, b, c], a below 10 ** 600, b below 2 ** 31, c at most n -/
def Dr (H : Hp) (g : Addr) (n : Nat) : Prop := ∃ a b c : Int, H g = some (.lst [.int a, .int b, .int c]) ∧ 0 ≤ a ∧ a < 10 ^ 600 ∧ 0 ≤ b ∧ b < 2147483647 ∧ 0 ≤ c ∧ c ≤ n
theorem Dr.mono {H : Hp} {g : Addr} {n m : Nat} (h : Dr H g n) (l : n ≤ m) : Dr H g m := by
  obtain ⟨a, b, c, e, h1, h2, h3, h4, h5, h6⟩ := h
  exact ⟨a, b, c, e, h1, h2, h3, h4, h5, by omega⟩
/-- all but g as it was -/
def But (H H' : Hp) (g : Addr) : Prop := ∀ b o, b ≠ g → H b = some o → H' b = some o
theorem But.refl (H : Hp) (g : Addr) : But H H g := fun _ _ _ e => e
theorem But.trans {H H1 H2 : Hp} {g : Addr} (a : But H H1 g) (b : But H1 H2 g) : But H H2 g := fun c o n e => b c o n (a c o n e)
theorem But.upd {H : Hp} {g : Addr} {o : HO} : But H (upd H g o) g := fun b u n e => by
  rw [upd_ne n]
  exact e
theorem Same.but {H H' : Hp} {g : Addr} (a : Same H H') : But H H' g := fun b o _ e => a b o e
theorem same_new {H : Hp} {p : Addr} {o : HO} (h : H p = none) : Same H (L2.upd H p o) := fun b x e => by
  rw [upd_ne (ne_of_none e h)]
  exact e
def spHash : Sp := fun vs H Q _ => ∃ s i : Int, vs = [.int s, .int i] ∧ 0 ≤ s ∧ s < 2147483647 ∧ 0 ≤ i ∧ i < 2 ^ 60 ∧ ∀ r : Int, 0 ≤ r → r < 2147483647 → Q (.int r) H
def spRand : Sp := fun vs H Q _ => ∃ (g : Addr) (n : Nat) (m : Int), vs = [.ref g, .int m] ∧ Dr H g n ∧ n ≤ 1000000 ∧ 0 < m ∧ m < 10 ^ 100 ∧
  ∀ (H' : Hp) (r : Int), 0 ≤ r → r < m → But H H' g → Dr H' g (n + 20) → Q (.int r) H'
end XV
set_option Elab.async false
set_option linter.all false
set_option maxRecDepth 100000
set_option maxHeartbeats 4000000
namespace K4
open PySem PySem.Spec PyProof.Rows L2 XV
def top (i : Nat) : Stmt := PySem.Challenge.pw_openloops_k04_whole_words_and_letters.main.body.getD i (.Pass ⟨0, 0, 0, 0⟩)
abbrev sHash : Stmt := top 53
abbrev sGen : Stmt := top 54
abbrev sRand : Stmt := top 55
abbrev FnP (K : PySem.W.Frag) (x : Str) (st : Stmt) (f : Addr) (fd : FuncData) : Prop := FunD K x x (defArgs st) (defBody st) (defScope st) [] [] f fd
theorem scHash : FnScope ["_law_seed", "_law_index", "_law_mixed"] ["_law_seed", "_law_index"] (defScope sHash) := ⟨rfl, rfl, rfl, by decide +kernel, rfl, by decide +kernel, by decide +kernel⟩
theorem scGen : FnScope ["_law_script", "_law_index", "_law_seed"] ["_law_script", "_law_index"] (defScope sGen) := ⟨rfl, rfl, rfl, by decide +kernel, rfl, by decide +kernel, by decide +kernel⟩
theorem scRand : FnScope ["_law_generator_here", "_law_bound", "_law_drawn", "_law_turn"] ["_law_generator_here", "_law_bound"] (defScope sRand) := ⟨rfl, rfl, rfl, by decide +kernel, rfl, by decide +kernel, by decide +kernel⟩
theorem mod_in (x : Int) {m : Int} (h : 0 < m) : 0 ≤ x % m ∧ x % m < m := ⟨Int.emod_nonneg x (by omega), Int.emod_lt_of_pos x h⟩
section
variable {P : Program} {w : World} {K : PySem.W.Frag} {mg : Str → Option Value} {base : Heap} {f : Addr} {fd : FuncData}
theorem ok_hash (F : FnP K "_law_hash" sHash f fd) (z_int : mg "int" = none) : FnOk P w K mg base CX0 1 f fd ["_law_seed", "_law_index"] spHash := by
  have nd := scHash.nd
  refine F.ok scHash (fun vs H Q E h => ?_) (fun cdv A outer s H vs Q E hr h => ?_)
  · obtain ⟨s, i, rfl, _⟩ := h
    rfl
  · obtain ⟨s, i, rfl, s0, s1, i0, i1, q⟩ := h
    refine ⟨_, PSs.nox (pss_cons (ps_set (i := 2) nd rfl (Or.inl rfl) (pe_op op_mod (pe_callTy call_int1 (by rfl) z_int (by decide +kernel) (pa_cons (pe_op op_add (pe_op op_add (pe_op op_add (pe_op op_mul (pv 0) pe_int) (pe_op op_mul (pe_op op_mul pe_int (pv 1)) (pv 1))) (pe_op op_mul pe_int (pv 1))) pe_int) pa_nil)) pe_int))
 (pss_cons (ps_set (i := 2) nd rfl (Or.inl rfl) (pe_op op_mod (pe_callTy call_int1 (by rfl) z_int (by decide +kernel) (pa_cons (pe_op op_add (pe_op op_add (pe_op op_mul (pv 2) (pv 2)) (pe_op op_mul pe_int (pv 1))) pe_int) pa_nil)) pe_int))
 (pss_one (ps_ret (pe_op op_mod (pe_callTy call_int1 (by rfl) z_int (by decide +kernel) (pa_cons (pe_op op_mul (pv 2) pe_int) pa_nil)) pe_int))))), ?_⟩
    have c1 : CMul s 1299709 := .inl ⟨by omega, by omega⟩
    have c2 : CMul 104729 i := .inl ⟨by decide, by decide⟩
    have c3 : CMul (104729 * i) i := .inr ⟨by omega, by omega⟩
    have c4 : CMul 31 i := .inl ⟨by decide, by decide⟩
    refine ⟨_, rfl, _, _, rfl, rfl, c1, _, rfl, _, _, rfl, rfl, c2, _, rfl, _, _, rfl, rfl, c3, _, _, rfl, rfl, _, rfl, _, _, rfl, rfl, c4, _, _, rfl, rfl, _, _, rfl, rfl, .inl ⟨_, rfl, _, _, rfl, rfl, (by show (0 : Int) < 2147483629; decide), ?_⟩⟩
    obtain ⟨m0, m1⟩ := mod_in (s * 1299709 + 104729 * i * i + 31 * i + 7) (m := 2147483629) (by decide)
    have c5 : CMul ((s * 1299709 + 104729 * i * i + 31 * i + 7) % 2147483629) ((s * 1299709 + 104729 * i * i + 31 * i + 7) % 2147483629) := .inl ⟨by omega, by omega⟩
    refine ⟨_, rfl, _, rfl, _, _, rfl, rfl, c5, _, rfl, _, _, rfl, rfl, .inl ⟨by decide, by decide⟩, _, _, rfl, rfl, _, _, rfl, rfl, .inl ⟨_, rfl, _, _, rfl, rfl, (by show (0 : Int) < 2147483587; decide), ?_⟩⟩
    refine ⟨_, rfl, _, _, rfl, rfl, .inr ⟨by decide, by decide⟩, .inl ⟨_, rfl, _, _, rfl, rfl, (by show (0 : Int) < 2147483647; decide), ?_⟩⟩
    obtain ⟨n0, n1⟩ := mod_in ((((s * 1299709 + 104729 * i * i + 31 * i + 7) % 2147483629 * ((s * 1299709 + 104729 * i * i + 31 * i + 7) % 2147483629) + 48271 * i + 15485863) % 2147483587) * 69621) (m := 2147483647) (by decide)
    exact q _ n0 n1

theorem bits_small {m : Int} (h0 : 0 < m) (h1 : m < 10 ^ 100) : Builtin.Int.intBits m ≤ 340 := by
  refine intBits_le (k := 340) ?_
  have e : (10 : Int) ^ 100 < 2 ^ 340 := by decide
  have e2 : m < 2 ^ 340 := Int.lt_trans h1 e
  have e3 : ((m.natAbs : Nat) : Int) = m := Int.natAbs_of_nonneg (by omega)
  have e4 : ((m.natAbs : Nat) : Int) < ((2 ^ 340 : Nat) : Int) := by
    rw [e3]
    exact e2
  exact Int.ofNat_lt.mp e4
theorem ok_rand (F : FnP K "_law_random" sRand f fd) (oHash : Ok P w K mg base "_law_hash" 1 ["_law_seed", "_law_index"] spHash) (z_int : mg "int" = none) (z_range : mg "range" = none) :
    FnOk P w K mg base CX0 2 f fd ["_law_generator_here", "_law_bound"] spRand := by
  have nd := scRand.nd
  refine F.ok scRand (fun vs H Q E h => ?_) (fun cdv A outer s H vs Q E hr h => ?_)
  · obtain ⟨g, n, m, rfl, _⟩ := h
    rfl
  · obtain ⟨g, n, m, rfl, ⟨a, b, c, hg, a0, a1, b0, b1, c0, c1⟩, hn, m0, m1, q⟩ := h
    refine ⟨_, PSs.nox (pss_cons (ps_if (pt_cmpR op_gt (pe_ix ix_list (pv 0) pe_int (fun _ _ => rfl)) pe_int (nomark _))
        (pss_cons (ps_set (i := 2) nd rfl (Or.inl rfl) (pe_op op_mod (pe_callTy call_int1 (by rfl) z_int (by decide +kernel) (pa_cons (pe_ix ix_list (pv 0) pe_int (fun _ _ => rfl)) pa_nil)) (pv 1)))
          (pss_cons (ps_asg (pe_op op_fdivW (pe_ix ix_list (pv 0) pe_int (fun _ _ => rfl)) (pv 1)) (pg_sub (pv 0) pe_int set_list))
            (pss_one (ps_ret (pv 2))))) pss_nil)
      (pss_cons (ps_set (i := 2) nd rfl (Or.inl rfl) pe_int)
      (pss_cons (ps_for PassesOwn.never rfl (pi_range1 (by rfl) z_range (pa_cons (pe_op op_add pe_int (pe_op op_fdiv (pe_bits (pv 1)) pe_int)) pa_nil)) (pg_name (i := 3) nd rfl (Or.inl rfl))
        (pss_cons (ps_asg (pe_op op_add (pe_ix ix_list (pv 0) pe_int (fun _ _ => rfl)) pe_int) (pg_sub (pv 0) pe_int set_list))
          (pss_one (ps_set (i := 2) nd rfl (Or.inl rfl) (pe_op op_add (pe_op op_mul (pv 2) pe_int)
            (pe_callO oHash (hr.mono (by decide)) (by rfl) (pa_cons (pe_ix ix_list (pv 0) pe_int (fun _ _ => rfl)) (pa_cons (pe_ix ix_list (pv 0) pe_int (fun _ _ => rfl)) pa_nil))))))))
      (pss_one (ps_ret (pe_op op_mod (pe_callTy call_int1 (by rfl) z_int (by decide +kernel) (pa_cons (pv 2) pa_nil)) (pv 1))))))), ?_⟩
    refine ⟨.ref g, rfl, g, _, 0, _, rfl, rfl, SqL.of hg, rfl, _, _, rfl, rfl, _, rfl, ite2 (fun e => ?_) (fun e => ?_)⟩
    · have ap : 0 < a := of_decide_eq_true e
      refine ⟨.ref g, rfl, g, _, 0, _, rfl, rfl, SqL.of hg, rfl, .inl ⟨_, rfl, _, rfl, _, _, rfl, rfl, m0, ?_⟩⟩
      have e1 : (10 : Int) ^ 100 < 2 ^ 340 := by decide
      have mb : m.natAbs < 2 ^ 340 := by
        have e3 : ((m.natAbs : Nat) : Int) = m := Int.natAbs_of_nonneg (by omega)
        have e4 : ((m.natAbs : Nat) : Int) < ((2 ^ 340 : Nat) : Int) := by
          rw [e3]
          exact Int.lt_trans m1 e1
        exact Int.ofNat_lt.mp e4
      refine ⟨.ref g, rfl, g, _, 0, _, rfl, rfl, SqL.of hg, rfl, _, rfl, _, _, rfl, rfl, wide_div m0 mb (by decide) (by decide), .ref g, rfl, g, _, 0, 0, rfl, rfl, hg, rfl, _, rfl, ?_⟩
      obtain ⟨r0, r1⟩ := mod_in a m0
      refine q _ _ r0 r1 But.upd ⟨a / m, b, c, upd_same, Int.ediv_nonneg a0 (by omega), ?_, b0, b1, c0, by omega⟩
      exact Int.lt_of_le_of_lt (Int.ediv_le_self m a0) a1
    · have hb := bits_small m0 m1
      refine ⟨_, rfl, m, rfl, _, _, rfl, rfl, ⟨by decide, by decide⟩, _, _, rfl, rfl, _, rfl, by omega, by omega, ?_⟩
      refine for_range (lo := 0) (n := (1 + ((Builtin.Int.intBits m : Nat) : Int) / 30).toNat)
        (fun i σ H' => ∃ (d : Int) (y : Option V), σ = [some (.ref g), some (.int m), some (.int d), y] ∧ But H H' g ∧ H' g = some (.lst [.int a, .int b, .int (c + i)]))
        ⟨0, none, rfl, But.refl H g, by rw [hg]; simp⟩ ?_ ?_
      · rintro i σ H' hi ⟨d, y, rfl, bt, eg⟩
        refine ⟨.ref g, rfl, g, _, 2, _, rfl, rfl, SqL.of eg, rfl, _, _, rfl, rfl, .ref g, rfl, g, _, 2, 2, rfl, rfl, eg, rfl, ?_⟩
        have e2 : (upd H' g (.lst ([V.int a, .int b, .int (c + i)].set 2 (.int (c + i + 1))))) g = some (.lst [.int a, .int b, .int (c + i + 1)]) := upd_same
        refine ⟨_, rfl, _, _, rfl, rfl, .inr ⟨by decide, by decide⟩, .ref g, rfl, g, _, 1, _, rfl, rfl, SqL.of e2, rfl, .ref g, rfl, g, _, 2, _, rfl, rfl, SqL.of e2, rfl, ?_⟩
        refine ⟨b, c + i + 1, rfl, b0, b1, by omega, ?_, fun r r0 r1 => ?_⟩
        · have : i < 13 := by omega
          omega
        · refine ⟨_, _, rfl, rfl, _, _, rfl, bt.trans But.upd, ?_⟩
          have ec : c + ((i : Nat) : Int) + 1 = c + ((i + 1 : Nat) : Int) := by omega
          rw [e2, ec]
      · rintro σ H' ⟨d, y, rfl, bt, eg⟩
        refine ⟨_, rfl, .inl ⟨_, rfl, _, rfl, _, _, rfl, rfl, m0, ?_⟩⟩
        obtain ⟨r0, r1⟩ := mod_in d m0
        refine q _ _ r0 r1 bt ⟨a, b, _, eg, a0, a1, b0, b1, by omega, ?_⟩
        have : (1 + ((Builtin.Int.intBits m : Nat) : Int) / 30).toNat ≤ 13 := by omega
        omega

theorem cut_first (ns : List Int) : cutV (ns.map V.int) none (some 1) = (ns.take 1).map V.int := by
  unfold cutV
  rw [HT.sIx_none, show HT.sIx (ns.map V.int).length (ns.map V.int).length (some 1) = min 1 (ns.map V.int).length from HT.sIx_nat _ _ 1]
  cases ns with
  | nil => rfl
  | cons x r =>
    rw [List.map_cons, List.length_cons, show min 1 ((r.map V.int).length + 1) = 1 by omega]
    rfl
def spGen (K : PySem.W.Frag) : Sp := fun vs H Q _ => ∃ (a : Addr) (ns : List Int) (k : Nat), vs = [.ref a, .int k] ∧ SqL K H a (ns.map V.int) ∧ k < 100 ∧
  ∀ (H' : Hp) (g : Addr), Same H H' → H g = none → Dr H' g (1000 * k) → Q (.ref g) H'
theorem ok_gen (F : FnP K "_law_generator" sGen f fd) (z_int : mg "int" = none) (z_len : mg "len" = none) (z_sum : mg "sum" = none) (z_max : mg "max" = none) :
    FnOk P w K mg base CX0 1 f fd ["_law_script", "_law_index"] (spGen K) := by
  have nd := scGen.nd
  refine F.ok scGen (fun vs H Q E h => ?_) (fun cdv A outer s H vs Q E hr h => ?_)
  · obtain ⟨a, ns, k, rfl, _⟩ := h
    rfl
  · obtain ⟨a, ns, k, rfl, hS, hk, q⟩ := h
    refine ⟨_, PSs.nox (pss_cons (ps_set (i := 2) nd rfl (Or.inl rfl) (pe_ifExp (pt_cmpR op_lt (pv 1) (pe_callB call_len (by rfl) z_len boot_len (pa_cons (pv 0) pa_nil)) (nomark _)) (pe_ix ix_list (pv 0) (pv 1) (fun _ _ => rfl)) (pe_op op_mod (pe_callB (cr_sum rfl) (by rfl) z_sum (by decide +kernel) (pa_cons (pe_slice sl_list (pv 0) po_none (po_some pe_int)) pa_nil)) pe_int)))
 (pss_one (ps_ret (pe_lst (pa_cons (pe_op op_mod (pe_callTy call_int1 (by rfl) z_int (by decide +kernel) (pa_cons (pe_callB (call_max2 rfl) (by rfl) z_max (by decide +kernel) (pa_cons (pe_op op_sub (pv 2) (pe_op op_pow pe_int pe_int)) (pa_cons pe_int pa_nil))) pa_nil)) (pe_op op_powW (pe_op op_pow pe_int pe_int) pe_int)) (pa_cons (pe_op op_mod (pe_callTy call_int1 (by rfl) z_int (by decide +kernel) (pa_cons (pv 2) pa_nil)) pe_int) (pa_cons (pe_op op_mul pe_int (pv 1)) pa_nil))))))), ?_⟩
    have last : ∀ (H' : Hp) (sd : Int), Same H H' → (∀ g, H' g = none → H g = none) → tRet (tLst (tCons (tOp (rI (fun _ j => 0 < j) fun i j => .int (i % j)) (tCB (fun xs H Q => (∃ i, xs = [.int i] ∧ Q (.int i) H) ∨ ∃ k, xs = [.bl k] ∧ Q (.int (if k then 1 else 0)) H) (tCons (tCB (fun xs H Q => ∃ i j, xs = [.int i, .int j] ∧ Q (.int (if j > i then j else i)) H) (tCons (tOp (rI0 fun i j => .int (i - j)) (tVar 2) (tOp (rI CPow fun i j => .int (i ^ j.toNat)) (tC (.int 10)) (tC (.int 18)))) (tCons (tC (.int 0)) tNil))) tNil)) (tOp (rI CPowW fun i j => .int (i ^ j.toNat)) (tOp (rI CPow fun i j => .int (i ^ j.toNat)) (tC (.int 10)) (tC (.int 60))) (tC (.int 10)))) (tCons (tOp (rI (fun _ j => 0 < j) fun i j => .int (i % j)) (tCB (fun xs H Q => (∃ i, xs = [.int i] ∧ Q (.int i) H) ∨ ∃ k, xs = [.bl k] ∧ Q (.int (if k then 1 else 0)) H) (tCons (tVar 2) tNil)) (tC (.int 2147483647))) (tCons (tOp (rI CMul fun i j => .int (i * j)) (tC (.int 1000)) (tVar 1)) tNil)))) { nx := fun _ H' => Q .non H', rt := Q } [some (.ref a), some (.int k), some (.int sd)] H' := by
      intro H' sd sm fr
      refine ⟨_, rfl, _, _, rfl, rfl, ⟨by decide, by decide, by decide⟩, _, _, rfl, rfl, _, _, rfl, .inl ⟨_, rfl, _, _, rfl, rfl, ⟨by decide, by decide, by decide⟩, _, _, rfl, rfl, ⟨by decide, by decide +kernel⟩, _, _, rfl, rfl, (by show (0 : Int) < ((10 : Int) ^ (60 : Int).toNat) ^ (10 : Int).toNat; decide +kernel), ?_⟩⟩
      refine ⟨_, rfl, .inl ⟨_, rfl, _, _, rfl, rfl, (by show (0 : Int) < 2147483647; decide), _, rfl, _, _, rfl, rfl, .inl ⟨by decide, by decide⟩, by show 3 ≤ sizeLine; decide, fun p np => ?_⟩⟩
      obtain ⟨m0, m1⟩ := mod_in sd (m := 2147483647) (by decide)
      have e600 : ((10 : Int) ^ (60 : Int).toNat) ^ (10 : Int).toNat = 10 ^ 600 := by decide +kernel
      have p600 : (0 : Int) < 10 ^ 600 := by decide +kernel
      refine q _ p (sm.trans (same_new np)) (fr p np) ⟨_, _, _, upd_same, ?_, ?_, m0, m1, by omega, by omega⟩
      · rw [e600]
        exact (mod_in _ p600).1
      · rw [e600]
        exact (mod_in _ p600).2
    refine ⟨_, rfl, .ref a, rfl, _, (ns.map V.int).length, rfl, Or.inl ⟨_, hS, rfl⟩, _, _, rfl, rfl, _, rfl, ite2 (fun e => ?_) (fun e => ?_)⟩
    · have lt : (k : Int) < ((ns.map V.int).length : Nat) := of_decide_eq_true e
      have lt2 : k < ns.length := by
        rw [List.length_map] at lt
        omega
      have g : (ns.map V.int)[k]? = some (.int ns[k]) := by
        rw [List.getElem?_map, List.getElem?_eq_getElem lt2]
        rfl
      exact ⟨.ref a, rfl, _, rfl, a, _, _, _, rfl, rfl, hS, atI_nat g, last H _ (Same.refl H) fun _ z => z⟩
    · refine ⟨.ref a, rfl, _, rfl, a, _, rfl, hS, fun p np => ?_⟩
      rw [cut_first]
      refine ⟨p, ns.take 1, rfl, SqL.of upd_same, _, _, rfl, rfl, (by show (0 : Int) < 1000003; decide), ?_⟩
      refine last _ _ (same_new np) fun g ng => ?_
      by_cases eg : g = p
      · rw [eg]
        exact np
      · rw [upd_ne eg] at ng
        exact ng
end
end K4
set_option Elab.async false
set_option linter.all false
set_option maxRecDepth 100000
set_option maxHeartbeats 4000000
/-! What pieces write, and that the normal ones write the same: of lists, no program. -/
namespace NP
section
variable {α : Type}
/-- w, n times -/
def pw (w : List α) (n : Nat) : List α := (List.replicate n w).flatten
theorem pw_zero (w : List α) : pw w 0 = [] := rfl
theorem pw_succ (w : List α) (n : Nat) : pw w (n + 1) = w ++ pw w n := by
  unfold pw
  rw [List.replicate_succ, List.flatten_cons]
theorem pw_one (w : List α) : pw w 1 = w := by rw [pw_succ, pw_zero, List.append_nil]
theorem pw_nil (n : Nat) : pw ([] : List α) n = [] := by
  induction n with
  | zero => rfl
  | succ n ih => rw [pw_succ, ih]; rfl
theorem pw_len (w : List α) (n : Nat) : (pw w n).length = n * w.length := by
  induction n with
  | zero => simp [pw_zero]
  | succ n ih => rw [pw_succ, List.length_append, ih, Nat.succ_mul, Nat.add_comm]
theorem pw_add (w : List α) (m n : Nat) : pw w (m + n) = pw w m ++ pw w n := by
  induction m with
  | zero => rw [Nat.zero_add, pw_zero, List.nil_append]
  | succ m ih => rw [Nat.succ_add, pw_succ, pw_succ, ih, List.append_assoc]
theorem pw_mul (w : List α) (m n : Nat) : pw (pw w m) n = pw w (m * n) := by
  induction n with
  | zero => rfl
  | succ n ih => rw [pw_succ, ih, ← pw_add, Nat.mul_succ, Nat.add_comm]
theorem pw_snoc (w : List α) (n : Nat) : pw w (n + 1) = pw w n ++ w := by rw [pw_add, pw_one]
/-- a letter moved over a power -/
theorem pw_swap (a b : List α) (v : Nat) : pw (a ++ b) v ++ a = a ++ pw (b ++ a) v := by
  induction v with
  | zero => simp [pw_zero]
  | succ v ih => rw [pw_succ, List.append_assoc, ih, pw_succ]; simp [List.append_assoc]
theorem pw_rev (w : List α) (n : Nat) : (pw w n).reverse = pw w.reverse n := by
  induction n with
  | zero => rfl
  | succ n ih => rw [pw_snoc, List.reverse_append, ih, pw_succ]
theorem pw_get (w : List α) : ∀ (n i : Nat), i < n * w.length → (pw w n)[i]? = w[i % w.length]? := by
  intro n
  induction n with
  | zero => intro i h; simp at h
  | succ n ih =>
    intro i h
    rw [pw_succ]
    by_cases c : i < w.length
    · rw [List.getElem?_append_left c, Nat.mod_eq_of_lt c]
    · rw [List.getElem?_append_right (by omega), ih _ (by rw [Nat.succ_mul] at h; omega)]
      congr 1
      rw [Nat.mod_eq_sub_mod (by omega : w.length ≤ i)]
/-! ### the root of a word -/
/-- w stands in w ++ w at p -/
def At (w : List α) (p : Nat) : Prop := ((w ++ w).drop p).take w.length = w
/-- turning w by p changes nothing -/
def Turn (w : List α) (p : Nat) : Prop := ∀ i, i < w.length → w[(i + p) % w.length]? = w[i]?
theorem turn_of_at {w : List α} {p : Nat} (hp : p ≤ w.length) (h : At w p) : Turn w p := by
  intro i hi
  have e := congrArg (fun l => l[i]?) h
  simp only [List.getElem?_take, List.getElem?_drop, hi, if_true] at e
  rw [← e]
  by_cases c : p + i < w.length
  · rw [List.getElem?_append_left c, Nat.add_comm i p, Nat.mod_eq_of_lt c]
  · rw [List.getElem?_append_right (by omega), Nat.add_comm i p, Nat.mod_eq_sub_mod (by omega), Nat.mod_eq_of_lt (by omega)]
theorem at_of_turn {w : List α} {p : Nat} (hp : p ≤ w.length) (h : Turn w p) : At w p := by
  unfold At
  apply List.ext_getElem?
  intro i
  by_cases hi : i < w.length
  · simp only [List.getElem?_take, List.getElem?_drop, hi, if_true]
    rw [← h i hi]
    by_cases c : p + i < w.length
    · rw [List.getElem?_append_left c, Nat.add_comm i p, Nat.mod_eq_of_lt c]
    · rw [List.getElem?_append_right (by omega), Nat.add_comm i p, Nat.mod_eq_sub_mod (by omega), Nat.mod_eq_of_lt (by omega)]
  · rw [List.getElem?_eq_none (by rw [List.length_take]; omega), List.getElem?_eq_none (by omega)]
theorem turn_all (w : List α) : Turn w w.length := by
  intro i hi
  rw [Nat.add_mod_right, Nat.mod_eq_of_lt hi]
theorem turn_add {w : List α} {p q : Nat} (h1 : Turn w p) (h2 : Turn w q) : Turn w (p + q) := by
  intro i hi
  have pos : 0 < w.length := by omega
  have z := h2 ((i + p) % w.length) (Nat.mod_lt _ pos)
  rw [Nat.mod_add_mod, Nat.add_assoc] at z
  rw [z]
  exact h1 i hi
theorem turn_mul {w : List α} {p : Nat} (h : Turn w p) : ∀ k, Turn w (k * p)
  | 0 => by
    intro i hi
    rw [Nat.zero_mul, Nat.add_zero, Nat.mod_eq_of_lt hi]
  | k + 1 => by
    rw [Nat.succ_mul]
    exact turn_add (turn_mul h k) h
theorem turn_rest {w : List α} {p r k : Nat} (h : Turn w p) (e : w.length = k * p + r) : Turn w r := by
  intro i hi
  have pos : 0 < w.length := by omega
  rw [← turn_mul h k _ (Nat.mod_lt (i + r) pos), Nat.mod_add_mod]
  rw [show i + r + k * p = i + w.length by omega]
  exact turn_all w i hi
/-- the least place p at which w stands in w ++ w: w is a power of its first p letters -/
theorem root_power {w : List α} {p : Nat} (h0 : 1 ≤ p) (hp : p ≤ w.length) (h : At w p) (least : ∀ q, 1 ≤ q → q < p → ¬ At w q) : w.length = (w.length / p) * p ∧ w = pw (w.take p) (w.length / p) := by
  have t := turn_of_at hp h
  have e : w.length = (w.length / p) * p + w.length % p := by
    have := Nat.div_add_mod w.length p
    rw [Nat.mul_comm] at this
    omega
  have r0 : w.length % p = 0 := by
    by_cases c : w.length % p = 0
    · exact c
    · have lt := Nat.mod_lt w.length (by omega : p > 0)
      exact absurd (at_of_turn (by omega) (turn_rest t e)) (least _ (by omega) lt)
  have e1 : w.length = (w.length / p) * p := by omega
  refine ⟨e1, ?_⟩
  have lt : (w.take p).length = p := by rw [List.length_take]; omega
  apply List.ext_getElem?
  intro i
  by_cases hi : i < w.length
  · rw [pw_get _ _ _ (by rw [lt]; omega), lt, List.getElem?_take, if_pos (Nat.mod_lt _ (by omega))]
    have m := Nat.mod_lt i (by omega : p > 0)
    have z := turn_mul t (i / p) (i % p) (by omega)
    have d := Nat.div_add_mod i p
    rw [Nat.mul_comm] at d
    rw [show i % p + i / p * p = i by omega, Nat.mod_eq_of_lt hi] at z
    exact z
  · rw [List.getElem?_eq_none (by omega), List.getElem?_eq_none (by rw [pw_len, lt]; omega)]
/-! ### the common end -/
/-- the last letters of u, so many as same, go on as w again and again, read from behind -/
theorem common_tail {u w : List α} {same : Nat} (hw : 0 < w.length) (hs : same ≤ u.length) (h : ∀ i, i < same → u[u.length - 1 - i]? = w[w.length - 1 - i % w.length]?) : u.drop (u.length - same) = w.drop (w.length - same % w.length) ++ pw w (same / w.length) := by
  have hm := Nat.mod_lt same hw
  have hd := Nat.div_add_mod same w.length
  rw [Nat.mul_comm] at hd
  have l1 : (u.drop (u.length - same)).length = same := by rw [List.length_drop]; omega
  have l2 : (w.drop (w.length - same % w.length)).length = same % w.length := by rw [List.length_drop]; omega
  apply List.ext_getElem?
  intro j
  by_cases hj : j < same
  · rw [List.getElem?_drop]
    have e := h (same - 1 - j) (by omega)
    rw [show u.length - 1 - (same - 1 - j) = u.length - same + j by omega] at e
    rw [e]
    by_cases c : j < same % w.length
    · rw [List.getElem?_append_left (by omega), List.getElem?_drop]
      congr 1
      have x : (same - 1 - j) % w.length = same % w.length - 1 - j := by
        rw [show same - 1 - j = (same % w.length - 1 - j) + same / w.length * w.length by omega, Nat.add_mul_mod_self_right, Nat.mod_eq_of_lt (by omega)]
      omega
    · rw [List.getElem?_append_right (by omega), l2, pw_get _ _ _ (by omega)]
      congr 1
      have y : same - 1 - j < same / w.length * w.length := by omega
      have x : (same - 1 - j) % w.length = w.length - 1 - (j - same % w.length) % w.length := by
        have dj := Nat.div_add_mod (j - same % w.length) w.length
        have mj := Nat.mod_lt (j - same % w.length) hw
        rw [Nat.mul_comm] at dj
        have q : (j - same % w.length) / w.length < same / w.length := Nat.div_lt_of_lt_mul (by rw [Nat.mul_comm]; omega)
        have f : same / w.length * w.length = (same / w.length - 1 - (j - same % w.length) / w.length) * w.length + ((j - same % w.length) / w.length) * w.length + w.length := by
          rw [← Nat.add_mul]
          have : same / w.length = (same / w.length - 1 - (j - same % w.length) / w.length + (j - same % w.length) / w.length) + 1 := by omega
          rw [← Nat.succ_mul]
          congr 1
        rw [show same - 1 - j = (w.length - 1 - (j - same % w.length) % w.length) + (same / w.length - 1 - (j - same % w.length) / w.length) * w.length by omega, Nat.add_mul_mod_self_right, Nat.mod_eq_of_lt (by omega)]
      have mj := Nat.mod_lt (j - same % w.length) hw
      omega
  · rw [List.getElem?_eq_none (by omega), List.getElem?_eq_none (by rw [List.length_append, l2, pw_len]; omega)]
/-- w turned by so many letters -/
def turnW (w : List α) (e : Nat) : List α := w.drop (w.length - e) ++ w.take (w.length - e)
/-- such an end is moved behind the power -/
theorem move_end {u w : List α} {same : Nat} (hw : 0 < w.length) (hs : same ≤ u.length) (h : ∀ i, i < same → u[u.length - 1 - i]? = w[w.length - 1 - i % w.length]?) (v : Nat) :
    u ++ pw w v = u.take (u.length - same) ++ (pw (turnW w (same % w.length)) v ++ u.drop (u.length - same)) := by
  have e := common_tail hw hs h
  have e2 : u = u.take (u.length - same) ++ u.drop (u.length - same) := (List.take_append_drop _ _).symm
  have sw := pw_swap (w.drop (w.length - same % w.length)) (w.take (w.length - same % w.length)) v
  rw [List.take_append_drop] at sw
  have k : u.drop (u.length - same) ++ pw w v = pw (turnW w (same % w.length)) v ++ u.drop (u.length - same) := by
    rw [e, List.append_assoc, ← pw_add, Nat.add_comm, pw_add, ← List.append_assoc, ← List.append_assoc]
    unfold turnW
    rw [sw]
  calc u ++ pw w v = u.take (u.length - same) ++ (u.drop (u.length - same) ++ pw w v) := by rw [← List.append_assoc, ← e2]
    _ = _ := by rw [k]
/-! ### what runs write, letter by letter -/
def wr (rs : List (List α × Nat)) : List α := rs.flatMap fun r => pw r.1 r.2
theorem wr_cons (r : List α × Nat) (rs : List (List α × Nat)) : wr (r :: rs) = pw r.1 r.2 ++ wr rs := List.flatMap_cons
theorem wr_append (rs ss : List (List α × Nat)) : wr (rs ++ ss) = wr rs ++ wr ss := List.flatMap_append
def lettersR (rs : List (List α × Nat)) : Nat := (rs.map fun r => r.1.length * r.2).sum
theorem wr_len (rs : List (List α × Nat)) : (wr rs).length = lettersR rs := by
  induction rs with
  | nil => rfl
  | cons r rs ih =>
    rw [wr_cons, List.length_append, ih, pw_len, Nat.mul_comm]
    rfl
/-- the letter at a place, run by run -/
def letterR : List (List α × Nat) → Nat → Option α
  | [], _ => none
  | r :: rs, i => if i < r.1.length * r.2 then r.1[i % r.1.length]? else letterR rs (i - r.1.length * r.2)
theorem letterR_eq : ∀ (rs : List (List α × Nat)) (i : Nat), letterR rs i = (wr rs)[i]?
  | [], i => rfl
  | r :: rs, i => by
    rw [wr_cons]
    unfold letterR
    by_cases c : i < r.1.length * r.2
    · rw [if_pos c, List.getElem?_append_left (by rw [pw_len, Nat.mul_comm]; exact c), pw_get _ _ _ (by rw [Nat.mul_comm]; exact c)]
    · rw [if_neg c, List.getElem?_append_right (by rw [pw_len, Nat.mul_comm]; omega), letterR_eq rs, pw_len, Nat.mul_comm r.2]
end
end NP
set_option Elab.async false
set_option linter.all false
set_option maxRecDepth 100000
set_option maxHeartbeats 4000000
namespace NP
open PySem PySem.StrLaws Builtin Builtin.Str
/-- the letters of a text -/
abbrev cs (z : Str) : List Nat := z.cps.toList
theorem cs_len (z : Str) : z.length = (cs z).length := by simp [cs, Str.length]
theorem cs_ext {x y : Str} (h : cs x = cs y) : x = y := Str.ext' (Array.toList_inj.mp h)
theorem cs_app (x y : Str) : cs (x ++ y) = cs x ++ cs y := by
  show (x ++ y).cps.toList = _
  rw [Str.cps_append, Array.toList_append]
theorem fold_rep (l : Array Nat) (n : Nat) (z : Array Nat) : ((List.replicate n l).foldl (· ++ ·) z).toList = z.toList ++ pw l.toList n := by
  induction n generalizing z with
  | zero => simp [pw_zero]
  | succ n ih => rw [List.replicate_succ, List.foldl_cons, ih, Array.toList_append, pw_succ, List.append_assoc]
theorem cs_mul (z : Str) {i : Int} (h : 0 ≤ i) : cs (Txt.mul z i) = pw (cs z) i.toNat := by
  unfold Txt.mul
  by_cases c : i < 1
  · rw [if_pos c, show i.toNat = 0 by omega, pw_zero]
    rfl
  · rw [if_neg c]
    by_cases d : (i == 1 || z.length == 0) = true
    · rw [if_pos d]
      rcases (Bool.or_eq_true _ _).mp d with e | e
      · have : i = 1 := beq_iff_eq.mp e
        subst this
        exact (pw_one _).symm
      · have e2 : (cs z).length = 0 := by rw [← cs_len]; exact beq_iff_eq.mp e
        rw [List.length_eq_zero_iff.mp e2, pw_nil]
    · rw [if_neg d]
      show ((List.replicate i.toNat z.cps).foldl (· ++ ·) #[]).toList = _
      rw [fold_rep]
      rfl
/-! ### the first place -/
theorem occ_full (s sub : Str) (hi : Nat) : ∀ (l : List Nat) (st : Array Nat × Nat), st.fst.size = 1 → (forIn l st (occBody s sub hi 1)).run.fst = st.fst
  | [], st, _ => rfl
  | a :: l, st, h => by
    rw [List.forIn_cons]
    unfold occBody
    have c : ¬ (((st.fst.size < 1 ∧ st.snd ≤ a) ∧ a + sub.length ≤ hi) ∧ subAt s sub a = true) := fun z => by omega
    rw [if_neg c]
    exact occ_full s sub hi l _ h
def hit (s sub : Str) (hi i : Nat) : Bool := decide (i + sub.length ≤ hi) && subAt s sub i
theorem occ_first (s sub : Str) (hi : Nat) : ∀ (l : List Nat) (free : Nat), (∀ i ∈ l, free ≤ i) →
    (forIn l ((#[] : Array Nat), free) (occBody s sub hi 1)).run.fst.toList = match l.find? (hit s sub hi) with
      | some i => [i]
      | none => []
  | [], free, _ => rfl
  | a :: l, free, hf => by
    rw [List.forIn_cons, List.find?_cons]
    have ha : free ≤ a := hf a (List.mem_cons_self ..)
    by_cases hc : hit s sub hi a = true
    · have hc2 := hc
      unfold hit at hc2
      rw [Bool.and_eq_true, decide_eq_true_eq] at hc2
      rw [hc]
      unfold occBody
      rw [if_pos ⟨⟨⟨by simp, ha⟩, hc2.1⟩, hc2.2⟩]
      show ((forIn l ((#[] : Array Nat).push a, a + sub.length) (occBody s sub hi 1)).run.fst).toList = [a]
      rw [occ_full s sub hi l _ (by simp)]
      rfl
    · have hc2 : ¬ (((((#[] : Array Nat), free).fst.size < 1 ∧ ((#[] : Array Nat), free).snd ≤ a) ∧ a + sub.length ≤ hi) ∧ subAt s sub a = true) := fun h => hc (by
        unfold hit
        rw [Bool.and_eq_true, decide_eq_true_eq]
        exact ⟨h.1.2, h.2⟩)
      rw [Bool.eq_false_iff.mpr hc]
      unfold occBody
      rw [if_neg hc2]
      exact occ_first s sub hi l free fun i hi' => hf i (List.mem_cons_of_mem _ hi')
theorem find_some {P : Nat → Bool} : ∀ (k lo p : Nat), (List.range' lo k).find? P = some p → lo ≤ p ∧ P p = true ∧ ∀ q, lo ≤ q → q < p → P q = false
  | 0, lo, p, h => by simp at h
  | k + 1, lo, p, h => by
    rw [List.range'_succ, List.find?_cons] at h
    cases e : P lo with
    | true =>
      rw [e] at h
      cases h
      exact ⟨Nat.le_refl _, e, fun q h1 h2 => by omega⟩
    | false =>
      rw [e] at h
      obtain ⟨h1, h2, h3⟩ := find_some k (lo + 1) p h
      refine ⟨by omega, h2, fun q q1 q2 => ?_⟩
      by_cases c : q = lo
      · rw [c]; exact e
      · exact h3 q (by omega) q2
theorem find_none {P : Nat → Bool} : ∀ (k lo : Nat), (List.range' lo k).find? P = none → ∀ q, lo ≤ q → q < lo + k → P q = false
  | 0, lo, _, q, h1, h2 => by omega
  | k + 1, lo, h, q, h1, h2 => by
    rw [List.range'_succ, List.find?_cons] at h
    cases e : P lo with
    | true =>
      rw [e] at h
      cases h
    | false =>
      rw [e] at h
      by_cases c : q = lo
      · rw [c]; exact e
      · exact find_none k (lo + 1) h q (by omega) (by omega)
theorem hit_at (w : Str) (i : Nat) : hit (w ++ w) w (w ++ w).length i = true ↔ i ≤ (cs w).length ∧ At (cs w) i := by
  unfold hit
  rw [Bool.and_eq_true, decide_eq_true_eq, subAt_eq, show (w ++ w).cps.toList = cs w ++ cs w from cs_app w w, cs_len (w ++ w), cs_app, List.length_append, cs_len w]
  unfold At
  constructor
  · rintro ⟨h1, h2⟩
    exact ⟨by omega, eq_of_beq h2⟩
  · rintro ⟨h1, h2⟩
    exact ⟨by omega, beq_iff_eq.mpr h2⟩
/-- (w + w).find(w, 1) -/
theorem root_find {w : Str} (hw : cs w ≠ []) : ∃ p : Nat, Txt.find3 (w ++ w) w 1 = (p : Int) ∧ 1 ≤ p ∧ p ≤ (cs w).length ∧ At (cs w) p ∧ ∀ q, 1 ≤ q → q < p → ¬ At (cs w) q := by
  have n0 : 0 < (cs w).length := List.length_pos_iff.mpr hw
  have lw : (w ++ w).length = (cs w).length + (cs w).length := by rw [cs_len, cs_app, List.length_append]
  have fi : fromIndex (w ++ w).length 1 = 1 := by
    unfold fromIndex
    rw [if_neg (by decide)]
    rfl
  unfold Txt.find3
  rw [fi, occ_eq, occ_first _ _ _ _ _ (fun i hi => by simp [List.mem_range'] at hi; omega)]
  cases e : (List.range' 1 ((w ++ w).length + 1 - 1)).find? (hit (w ++ w) w (w ++ w).length) with
  | none =>
    have z := find_none _ _ e (cs w).length (by omega) (by omega)
    have t : hit (w ++ w) w (w ++ w).length (cs w).length = true := (hit_at w _).mpr ⟨Nat.le_refl _, at_of_turn (Nat.le_refl _) (turn_all _)⟩
    rw [t] at z
    cases z
  | some p =>
    obtain ⟨h1, h2, h3⟩ := find_some _ _ _ e
    obtain ⟨h4, h5⟩ := (hit_at w p).mp h2
    refine ⟨p, rfl, h1, h4, h5, fun q q1 q2 hq => ?_⟩
    have := h3 q q1 q2
    rw [(hit_at w q).mpr ⟨by omega, hq⟩] at this
    cases this
end NP
set_option Elab.async false
set_option linter.all false
set_option maxRecDepth 100000
set_option maxHeartbeats 4000000
namespace NP
open PySem
/-! ### pieces: a word, the constant of its form, the numbers -/
abbrev Pc := Str × Int × List Int
def dot (xs ys : List Int) : Int := (List.zipWith (· * ·) xs ys).sum
def tms (p : Pc) (ys : List Int) : Int := p.2.1 + dot p.2.2 ys
def V (ys : List Int) (ps : List Pc) : List Nat := ps.flatMap fun p => pw (cs p.1) (tms p ys).toNat
def fj (p : Pc) : Nat → Int
  | 0 => p.2.1
  | j + 1 => p.2.2.getD j 0
def cn (k : Nat → Bool) (w : Str) : Int := ((cs w).countP k : Nat)
def lin (k : Nat → Bool) (j : Nat) (ps : List Pc) : Int := (ps.map fun p => cn k p.1 * fj p j).sum
structure Pok (m : Nat) (p : Pc) : Prop where
  c : 0 ≤ p.2.1
  l : p.2.2.length = m
  x : ∀ x ∈ p.2.2, 0 ≤ x
def Nn (ys : List Int) : Prop := ∀ y ∈ ys, 0 ≤ y
theorem dot_nil (ys : List Int) : dot [] ys = 0 := rfl
theorem dot_cons (x y : Int) (xs ys : List Int) : dot (x :: xs) (y :: ys) = x * y + dot xs ys := by
  unfold dot
  rw [List.zipWith_cons_cons, List.sum_cons]
theorem dot_nn : ∀ {xs ys : List Int}, (∀ x ∈ xs, 0 ≤ x) → Nn ys → 0 ≤ dot xs ys
  | [], _, _, _ => Int.le_refl 0
  | _ :: _, [], _, _ => by simp [dot]
  | x :: xs, y :: ys, hx, hy => by
    rw [dot_cons]
    have h1 := dot_nn (xs := xs) (ys := ys) (fun z hz => hx z (List.mem_cons_of_mem _ hz)) (fun z hz => hy z (List.mem_cons_of_mem _ hz))
    have h2 := Int.mul_nonneg (hx x List.mem_cons_self) (hy y List.mem_cons_self)
    omega
theorem dot_zero : ∀ {xs ys : List Int}, (∀ x ∈ xs, x = 0) → dot xs ys = 0
  | [], _, _ => rfl
  | _ :: _, [], _ => by simp [dot]
  | x :: xs, y :: ys, h => by
    rw [dot_cons, dot_zero fun z hz => h z (List.mem_cons_of_mem _ hz), h x List.mem_cons_self]
    omega
theorem dot_scale (k : Int) : ∀ (xs ys : List Int), dot (xs.map (· * k)) ys = dot xs ys * k
  | [], _ => by simp [dot]
  | _ :: _, [] => by simp [dot]
  | x :: xs, y :: ys => by
    rw [List.map_cons, dot_cons, dot_cons, dot_scale k xs ys, Int.add_mul, Int.mul_right_comm]
theorem dot_add : ∀ {xs zs : List Int} (ys : List Int), xs.length = zs.length → dot (List.zipWith (· + ·) xs zs) ys = dot xs ys + dot zs ys
  | [], [], ys, _ => rfl
  | [], _ :: _, _, h => by simp at h
  | _ :: _, [], _, h => by simp at h
  | x :: xs, z :: zs, [], h => by simp [dot]
  | x :: xs, z :: zs, y :: ys, h => by
    rw [List.zipWith_cons_cons, dot_cons, dot_cons, dot_cons, dot_add ys (by simpa using h), Int.add_mul]
    omega
theorem getD_nn {xs : List Int} (h : ∀ x ∈ xs, 0 ≤ x) (j : Nat) : 0 ≤ xs.getD j 0 := by
  rw [List.getD_eq_getElem?_getD]
  cases e : xs[j]? with
  | none => exact Int.le_refl 0
  | some x => exact h x (List.mem_of_getElem? e)
theorem getD_zero {xs : List Int} (h : ∀ x ∈ xs, x = 0) (j : Nat) : xs.getD j 0 = 0 := by
  rw [List.getD_eq_getElem?_getD]
  cases e : xs[j]? with
  | none => rfl
  | some x => exact h x (List.mem_of_getElem? e)
theorem getD_scale (k : Int) (xs : List Int) (j : Nat) : (xs.map (· * k)).getD j 0 = xs.getD j 0 * k := by
  rw [List.getD_eq_getElem?_getD, List.getD_eq_getElem?_getD, List.getElem?_map]
  cases xs[j]? with
  | none => simp
  | some x => rfl
theorem getD_add {xs zs : List Int} (h : xs.length = zs.length) (j : Nat) : (List.zipWith (· + ·) xs zs).getD j 0 = xs.getD j 0 + zs.getD j 0 := by
  rw [List.getD_eq_getElem?_getD, List.getD_eq_getElem?_getD, List.getD_eq_getElem?_getD, List.getElem?_zipWith]
  by_cases c : j < xs.length
  · rw [List.getElem?_eq_getElem c, List.getElem?_eq_getElem (show j < zs.length by omega)]
    rfl
  · rw [List.getElem?_eq_none (by omega), List.getElem?_eq_none (by omega)]
    rfl
theorem V_app (ys : List Int) (ps qs : List Pc) : V ys (ps ++ qs) = V ys ps ++ V ys qs := List.flatMap_append
theorem V_one (ys : List Int) (p : Pc) : V ys [p] = pw (cs p.1) (tms p ys).toNat := by
  unfold V
  rw [List.flatMap_cons, List.flatMap_nil, List.append_nil]
theorem lin_app (k : Nat → Bool) (j : Nat) (ps qs : List Pc) : lin k j (ps ++ qs) = lin k j ps + lin k j qs := by
  unfold lin
  rw [List.map_append, List.sum_append]
theorem lin_one (k : Nat → Bool) (j : Nat) (p : Pc) : lin k j [p] = cn k p.1 * fj p j := by
  unfold lin
  rw [List.map_cons, List.map_nil, List.sum_cons, List.sum_nil, Int.add_zero]
theorem cn_pw (k : Nat → Bool) (w : List Nat) : ∀ n, (pw w n).countP k = n * w.countP k
  | 0 => by simp [pw_zero]
  | n + 1 => by rw [pw_succ, List.countP_append, cn_pw k w n, Nat.succ_mul, Nat.add_comm]
/-! ### what the steps do -/
/-- from done to d2 a word has been put behind -/
def AddF (m : Nat) (done d2 : List Pc) (w : List Nat) : Prop := (∀ ys, Nn ys → V ys d2 = V ys done ++ w) ∧ ∀ k j, lin k j d2 = lin k j done + if j = 0 then ((w.countP k : Nat) : Int) else 0
/-- from done to d2 a power has been put behind -/
def AddP (done d2 : List Pc) (w : List Nat) (xs : List Int) : Prop := (∀ ys, Nn ys → V ys d2 = V ys done ++ pw w (dot xs ys).toNat) ∧ ∀ k j, lin k j d2 = lin k j done + ((w.countP k : Nat) : Int) * (if j = 0 then 0 else xs.getD (j - 1) 0)
theorem addF_nil {m : Nat} (done : List Pc) : AddF m done done [] := ⟨fun ys _ => (List.append_nil _).symm, fun k j => by split <;> simp⟩
theorem addF_one {m : Nat} (done : List Pc) (w : Str) : AddF m done (done ++ [(w, 1, List.replicate m 0)]) (cs w) := by
  have z : ∀ x ∈ List.replicate m (0 : Int), x = 0 := fun x hx => (List.mem_replicate.mp hx).2
  refine ⟨fun ys _ => ?_, fun k j => ?_⟩
  · rw [V_app, V_one]
    show V ys done ++ pw (cs w) (1 + dot (List.replicate m 0) ys).toNat = _
    rw [dot_zero z]
    show V ys done ++ pw (cs w) 1 = _
    rw [pw_one]
  · rw [lin_app, lin_one]
    congr 1
    cases j with
    | zero => exact Int.mul_one _
    | succ j =>
      show cn k w * (List.replicate m (0 : Int)).getD j 0 = _
      rw [getD_zero z, Int.mul_zero]
      rfl
theorem addP_new (done : List Pc) (w : Str) (xs : List Int) : AddP done (done ++ [(w, 0, xs)]) (cs w) xs := by
  refine ⟨fun ys _ => ?_, fun k j => ?_⟩
  · rw [V_app, V_one]
    show V ys done ++ pw (cs w) (0 + dot xs ys).toNat = _
    rw [Int.zero_add]
  · rw [lin_app, lin_one]
    congr 1
    cases j with
    | zero => rfl
    | succ j => rfl
theorem addP_join (init : List Pc) (w : Str) (c : Int) (zs xs : List Int) (hc : 0 ≤ c) (hz : ∀ x ∈ zs, 0 ≤ x) (hx : ∀ x ∈ xs, 0 ≤ x) (hl : zs.length = xs.length) : AddP (init ++ [(w, c, zs)]) (init ++ [(w, c + 0, List.zipWith (· + ·) zs xs)]) (cs w) xs := by
  refine ⟨fun ys hy => ?_, fun k j => ?_⟩
  · rw [V_app, V_one, V_app, V_one, List.append_assoc, ← pw_add]
    congr 2
    show (c + 0 + dot (List.zipWith (· + ·) zs xs) ys).toNat = (c + dot zs ys).toNat + (dot xs ys).toNat
    have h1 := dot_nn hz hy
    have h2 := dot_nn hx hy
    rw [dot_add ys hl]
    omega
  · rw [lin_app, lin_one, lin_app, lin_one, Int.add_assoc]
    congr 1
    cases j with
    | zero =>
      show cn k w * (c + 0) = cn k w * c + cn k w * 0
      rw [Int.mul_add]
    | succ j =>
      show cn k w * (List.zipWith (· + ·) zs xs).getD j 0 = cn k w * zs.getD j 0 + cn k w * xs.getD j 0
      rw [getD_add hl, Int.mul_add]
/-- what stands when so many pieces have been taken -/
structure NI (ps done : List Pc) (fixed : List Nat) : Prop where
  v : ∀ ys, Nn ys → V ys ps = V ys done ++ fixed
  n : ∀ k j, lin k j ps = lin k j done + if j = 0 then ((fixed.countP k : Nat) : Int) else 0
theorem NI.nil : NI [] [] [] := ⟨fun _ _ => rfl, fun k j => by split <;> rfl⟩
theorem NI.skip {ps done : List Pc} {fixed : List Nat} (h : NI ps done fixed) (p : Pc) (hp : cs p.1 = [] ∨ (p.2.1 = 0 ∧ ∀ x ∈ p.2.2, x = 0)) : NI (ps ++ [p]) done fixed := by
  refine ⟨fun ys hy => ?_, fun k j => ?_⟩
  · rw [V_app, V_one, h.v ys hy]
    have e : pw (cs p.1) (tms p ys).toNat = [] := by
      rcases hp with e | ⟨e1, e2⟩
      · rw [e, pw_nil]
      · unfold tms
        rw [e1, dot_zero e2]
        rfl
    rw [e, List.append_nil]
  · rw [lin_app, lin_one, h.n]
    have e : cn k p.1 * fj p j = 0 := by
      rcases hp with e | ⟨e1, e2⟩
      · unfold cn
        rw [e]
        simp
      · cases j with
        | zero =>
          show _ * p.2.1 = 0
          rw [e1, Int.mul_zero]
        | succ j =>
          show _ * p.2.2.getD j 0 = 0
          rw [getD_zero e2, Int.mul_zero]
    rw [e, Int.add_zero]
theorem NI.plain {ps done : List Pc} {fixed : List Nat} (h : NI ps done fixed) (p : Pc) (hc : 0 ≤ p.2.1) (hx : ∀ x ∈ p.2.2, x = 0) : NI (ps ++ [p]) done (fixed ++ pw (cs p.1) p.2.1.toNat) := by
  refine ⟨fun ys hy => ?_, fun k j => ?_⟩
  · rw [V_app, V_one, h.v ys hy, List.append_assoc]
    congr 3
    unfold tms
    rw [dot_zero hx, Int.add_zero]
  · rw [lin_app, lin_one, h.n]
    cases j with
    | zero =>
      show _ + (((fixed.countP k : Nat)) : Int) + cn k p.1 * p.2.1 = _
      rw [if_pos rfl, List.countP_append, cn_pw, Int.natCast_add, Int.natCast_mul, Int.toNat_of_nonneg hc, Int.mul_comm]
      unfold cn
      omega
    | succ j =>
      show _ + (0 : Int) + cn k p.1 * p.2.2.getD j 0 = _
      rw [getD_zero hx, Int.mul_zero, if_neg (by omega), Int.add_zero]
/-- a power: its root r, the end of what is fixed moved behind it -/
theorem NI.power {m : Nat} {ps done d1 d2 : List Pc} {fixed r : List Nat} {n same : Nat} (h : NI ps done fixed) (p : Pc) (hc : 0 ≤ p.2.1) (hx : ∀ x ∈ p.2.2, 0 ≤ x) (hr : 0 < r.length) (hw : cs p.1 = pw r n)
    (hs : same ≤ fixed.length) (hend : ∀ i, i < same → fixed[fixed.length - 1 - i]? = r[r.length - 1 - i % r.length]?) (h1 : AddF m done d1 (fixed.take (fixed.length - same))) (h2 : AddP d1 d2 (turnW r (same % r.length)) (p.2.2.map (· * (n : Int)))) :
    NI (ps ++ [p]) d2 (fixed.drop (fixed.length - same) ++ pw r (p.2.1 * (n : Int)).toNat) := by
  have cT : ∀ k, (turnW r (same % r.length)).countP k = r.countP k := fun k => by
    unfold turnW
    rw [List.countP_append, Nat.add_comm, ← List.countP_append, List.take_append_drop]
  have cF : ∀ k, fixed.countP k = (fixed.take (fixed.length - same)).countP k + (fixed.drop (fixed.length - same)).countP k := fun k => by
    rw [← List.countP_append, List.take_append_drop]
  have cW : ∀ k, cn k p.1 = (n : Int) * ((r.countP k : Nat) : Int) := fun k => by
    unfold cn
    rw [hw, cn_pw, Int.natCast_mul]
  refine ⟨fun ys hy => ?_, fun k j => ?_⟩
  · have d := dot_nn hx hy
    have e := move_end hr hs hend (dot p.2.2 ys * (n : Int)).toNat
    rw [V_app, V_one, h.v ys hy, hw, pw_mul, h2.1 ys hy, h1.1 ys hy, dot_scale]
    have t : n * (tms p ys).toNat = (dot p.2.2 ys * (n : Int)).toNat + (p.2.1 * (n : Int)).toNat := by
      unfold tms
      have a1 : 0 ≤ p.2.1 * (n : Int) := Int.mul_nonneg hc (by omega)
      have a2 : 0 ≤ dot p.2.2 ys * (n : Int) := Int.mul_nonneg d (by omega)
      have a3 : ((n * (p.2.1 + dot p.2.2 ys).toNat : Nat) : Int) = p.2.1 * (n : Int) + dot p.2.2 ys * (n : Int) := by
        rw [Int.natCast_mul, Int.toNat_of_nonneg (by omega), Int.mul_comm, Int.add_mul]
      omega
    rw [t, pw_add, List.append_assoc, ← List.append_assoc fixed, e]
    simp only [List.append_assoc]
  · rw [lin_app, lin_one, h.n, h2.2, h1.2, cT, cW]
    cases j with
    | zero =>
      show _ + (((fixed.countP k : Nat)) : Int) + (n : Int) * ((r.countP k : Nat) : Int) * p.2.1 = _
      rw [if_pos rfl, if_pos rfl, List.countP_append, cn_pw, cF k, Int.natCast_add, Int.natCast_add, Int.natCast_mul, Int.toNat_of_nonneg (Int.mul_nonneg hc (by omega)), Int.mul_zero]
      have : (n : Int) * ((r.countP k : Nat) : Int) * p.2.1 = p.2.1 * (n : Int) * ((r.countP k : Nat) : Int) := by
        rw [Int.mul_comm, Int.mul_assoc]
      omega
    | succ j =>
      show _ + (0 : Int) + (n : Int) * ((r.countP k : Nat) : Int) * p.2.2.getD j 0 = _ + (0 : Int) + ((r.countP k : Nat) : Int) * (p.2.2.map (· * (n : Int))).getD j 0 + 0
      rw [getD_scale]
      have : (n : Int) * ((r.countP k : Nat) : Int) * p.2.2.getD j 0 = ((r.countP k : Nat) : Int) * (p.2.2.getD j 0 * (n : Int)) := by
        rw [Int.mul_comm (n : Int), Int.mul_assoc, Int.mul_comm (n : Int)]
      omega
end NP
set_option Elab.async false
set_option linter.all false
set_option maxRecDepth 100000
set_option maxHeartbeats 4000000
namespace XV
open PySem PySem.Spec PyProof.Rows L2
/-- any(t), t a tuple of flat data -/
def rAnyT (K : PySem.W.Frag) : List V → Hp → VK → Prop := fun vs H Q => ∃ (a : Addr) (xs : List V) (ds : List PyData), vs = [V.ref a] ∧ SqT K H a xs ∧ DpAll K H xs ds ∧ PyData.plainAll ds = true ∧ (∀ d ∈ ds, d.fits63) ∧ Q (.bl (ds.any PyData.truthy)) H
theorem call_anyT {X : Cx} (hc : X.calm = true) : CallR X (.builtin "any") (rAnyT X.K) := by
  intro pins s σ H vs us Q I r h
  obtain ⟨a, xs, ds, rfl, hs, hd, hp, hf, q⟩ := h
  obtain ⟨its, rv, ht, _⟩ := I.tuple hs
  rw [Vals.ref1 r]
  obtain ⟨as, hr⟩ := Dp.readsAll I ds xs its hd rv
  refine PySem.W.any_tuple_data (as := as) (I.ok.hd hc) (vs := its.toArray) (l := a) ?_ (xs := ds) (by simpa using hr) hp hf fun h' tk k => ?_
  · exact ht
  · exact ⟨.bl _, H, I.kept (t' := tk) k, rfl, q⟩
/-- a text times a number -/
theorem op_mulS {X : Cx} : OpR X (binaryOp .Mult) (fun x y H Q => ∃ (z : Str) (i : Int), x = .str z ∧ y = .int i ∧ MulOk z i ∧ Q (.str (Txt.mul z i)) H) := by
  intro pins s σ H x y v u Q I rx ry h
  obtain ⟨z, i, rfl, rfl, hok, q⟩ := h
  obtain ⟨t, rfl⟩ := rx
  obtain ⟨t2, rfl⟩ := ry
  exact SB.mul hok fun t' k => ⟨.str _, H, I.tok k, ⟨t', rfl⟩, q⟩
theorem ip_addS {X : Cx} : PIp X .Add (fun x y H Q => ∃ i j : Str, x = .str i ∧ y = .str j ∧ i.length + j.length ≤ sizeLine ∧ Q (.str (i ++ j)) H) := by
  intro pins s σ H x y v u Q I rx ry h
  exact iop_add_str pins s σ H x y v u Q I rx ry h
end XV
set_option Elab.async false
set_option linter.all false
set_option maxRecDepth 100000
set_option maxHeartbeats 2000000
/-! zip of a tuple (first) and a list (second). -/
namespace XV
open PySem PySem.Spec PyProof.Rows L2
/-- the tuple at a and the list at b, as they are when a turn begins; each turn's two items come in a pair of their own -/
def ItzM (K : PySem.W.Frag) (a b : Addr) : It where
  go := fun i H => ∃ (xs ys : List V) (x y : V), SqT K H a xs ∧ SqL K H b ys ∧ xs[i]? = some x ∧ ys[i]? = some y
  yld := fun i H v H' => ∃ T x y, v = .ref T ∧ H T = none ∧ H' = upd H T (.tup [x, y]) ∧ (∀ xs, SqT K H a xs → xs[i]? = some x) ∧ ∀ ys, SqL K H b ys → ys[i]? = some y
  stop := fun i H => ∃ xs ys : List V, (SqT K H a xs ∧ SqL K H b ys) ∧ (xs.length = i ∨ ys.length = i) ∧ i ≤ xs.length ∧ i ≤ ys.length
/-- where such a zip's parts stand, ahead of turn i -/
def AtM (a b z tI tO j k : Addr) (i : Nat) (h : Heap) : Prop :=
  IsZip h z tI tO .none ∧ IsPair h tI (.ref j) (.ref k) ∧ (∃ p q, IsPair h tO p q) ∧ h.IsTupleIter j a i ∧ h.IsListIter k b i
theorem sep_of {z tI tO j k a b : Addr} (D : ZipApart z tI tO j k a b) : ZipSep2 z tI tO j k [j, a] [k, b] where
  TIz := D.TIz
  TOz := D.TOz
  TITO := D.TITO
  TIi1 := D.TIi1
  mem1 := List.mem_cons_self
  zf1 := by simp [D.i1z.symm, D.l1z.symm]
  Tf1 := by simp [D.TOi1, D.l1TO.symm]
  TIi2 := D.TIi2
  mem2 := List.mem_cons_self
  zf2 := by simp [D.i2z.symm, D.l2z.symm]
  Tf2 := by simp [D.TOi2, D.l2TO.symm]
  sep1_2 := by simp [D.i12, D.l2i1.symm]
  sep2_1 := by simp [D.i12.symm, D.l1i2.symm]
theorem turnM {P : Program} {w : World} {K : PySem.W.Frag} {es : List Expr} {kk : Nat} {tp : Pos} {a b z tI tO j k : Addr} (D : ZipApart z tI tO j k a b) :
    Turn P w K (.Tuple es kk tp) (ItzM K a b) [z, tI, tO, j, k] z (AtM a b z tI tO j k) where
  mem := List.mem_cons_self
  obj := fun i h ⟨s1, s2, ⟨p, q, s3⟩, ⟨o1, e1, _, d1⟩, ⟨o2, e2, _, d2⟩⟩ c hc => by
    simp only [List.mem_cons, List.not_mem_nil, or_false] at hc
    rcases hc with rfl | rfl | rfl | rfl | rfl
    · exact ⟨_, s1, fun _ x => nomatch x⟩
    · exact ⟨_, s2, fun _ x => nomatch x⟩
    · exact ⟨_, s3, fun _ x => nomatch x⟩
    · exact ⟨o1, e1, fun _ x => by rw [d1] at x; cases x⟩
    · exact ⟨o2, e2, fun _ x => by rw [d2] at x; cases x⟩
  keep := fun i h h' ⟨s1, s2, ⟨p, q, s3⟩, s4, s5⟩ kp =>
    ⟨kp z (by simp) _ s1, kp tI (by simp) _ s2, ⟨p, q, kp tO (by simp) _ s3⟩, s4.at (fun o e => kp j (by simp) o e), s5.at (fun o e => kp k (by simp) o e)⟩
  item := by
    intro X eP ew eK calm i pins s σ H E I fp st gg
    subst eP ew eK
    obtain ⟨s1, s2, ⟨p0, q0, s3⟩, s4, s5⟩ := st
    obtain ⟨xs, ys, x, y, tx, ly, ex, ey⟩ := gg
    obtain ⟨us, ru, pu, _⟩ := I.tuple tx
    obtain ⟨vs, rv, pw, _⟩ := I.list ly
    obtain ⟨u, eu, rux⟩ := ru.get ex
    obtain ⟨v, ev, rvy⟩ := rv.get ey
    have zlt : z < s.heap.objs.size := Heap.lt_size s1
    have hu : i < us.toArray.size := by
      have := (List.getElem?_eq_some_iff.mp eu).1
      simpa using this
    have hv : i < vs.toArray.size := by
      have := (List.getElem?_eq_some_iff.mp ev).1
      simpa using this
    have hh : X.A.in1.handled = none := I.ok.hd calm
    refine wpAny_pyNext_zipD2_item (sep_of D) (Draws.tuple hh j a D.l1i1 us.toArray) (Draws.list hh k b D.l2i2 vs.toArray) s1 s2 s3 ⟨s4, pu⟩ ⟨s5, pw.isList⟩ hu hv fun x1 x2 h' tk d1 d2 z1 t1 n1 n2 new sz kp => ?_
    have e1 : x1 = u := Option.some.inj (d1.symm.trans (by simpa using eu))
    have e2 : x2 = v := Option.some.inj (d2.symm.trans (by simpa using ev))
    subst e1 e2
    refine ⟨_, rfl, wpAny_letOwnedTupleGo_zip (s := { s with heap := h', toks := tk }) z1 fun g z2 sb => ?_⟩
    have far : ∀ c, c = z ∨ c = tI ∨ c = tO ∨ c = j ∨ c = k → c < s.heap.objs.size := fun c hc => by
      rcases hc with rfl | rfl | rfl | rfl | rfl
      · exact zlt
      · exact Heap.lt_size s2
      · exact Heap.lt_size s3
      · obtain ⟨_, q, _⟩ := s4
        exact Heap.lt_size q
      · obtain ⟨_, q, _⟩ := s5
        exact Heap.lt_size q
    have fresh : g.get? s.heap.objs.size = some { cls := .type "tuple", data := .seq #[x1, x2] } := (sb.2 _ (Nat.ne_of_gt zlt)).trans new
    have ok2 : ObjOk X.prog X.w (upd H s.heap.objs.size (.tup [x, y])) g s.heap.objs.size (.tup [x, y]) := ⟨(by show 2 ≤ sizeLine; decide), [x1, x2], .cons rux (.cons rvy .nil), ⟨_, fresh, rfl, _, rfl⟩⟩
    have J := I.turnedNew (t' := tk) (h' := g) (ch := [z, tI, tO, j, k]) (fun c o out q => (sb.2 c (fun e => out (by simp [e]))).trans (kp c o (fun e => out (by simp [e])) (fun e => out (by simp [e])) (fun e => out (by simp [e])) (fun e => out (by simp [e])) q)) fp (Nat.le_refl _) ok2
    refine ⟨.ref s.heap.objs.size, _, J, rfl, ⟨_, x, y, rfl, I.hok.fresh (Nat.le_refl _), rfl, fun l hl => (I.tuple_inj hl tx) ▸ ex, fun l hl => (I.list_inj hl ly) ▸ ey⟩, ⟨z2, (sb.2 _ D.TIz).trans (kp _ _ D.TIz D.TITO D.TIi1 D.TIi2 s2), ⟨x1, x2, (sb.2 _ D.TOz).trans t1⟩, n1.1.at (fun o q => (sb.2 _ D.i1z).trans q), n2.1.at (fun o q => (sb.2 _ D.i2z).trans q)⟩, fun c hc => ?_⟩
    simp only [List.mem_cons, List.not_mem_nil, or_false] at hc
    rw [upd_ne (Nat.ne_of_lt (far c hc))]
    exact (fp c (by simpa using hc)).1
  done := by
    intro X eP ew eK calm i pins s σ H E I fp st gg
    subst eP ew eK
    obtain ⟨s1, s2, ⟨p0, q0, s3⟩, s4, s5⟩ := st
    obtain ⟨xs, ys, ⟨tx, ly⟩, stop, l1, l2⟩ := gg
    obtain ⟨us, ru, pu, _⟩ := I.tuple tx
    obtain ⟨vs, rv, pw, _⟩ := I.list ly
    have n1 := ru.length
    have n2 := rv.length
    have hh : X.A.in1.handled = none := I.ok.hd calm
    refine wpAny_pyNext_zipD2_end (sep_of D) (Draws.tuple hh j a D.l1i1 us.toArray) (Draws.list hh k b D.l2i2 vs.toArray) s1 s2 s3 ⟨s4, pu⟩ ⟨s5, pw.isList⟩ (by simp; omega) (by simp; omega) (by simp; omega) fun h' tk kp => ⟨rfl, ?_⟩
    exact I.turnedL (t' := tk) (ch := [z, tI, tO, j, k]) (fun c o out q => kp c o (fun e => out (by simp [e])) (fun e => out (by simp [e])) (fun e => out (by simp [e])) (fun e => out (by simp [e])) q) fp
  self := fun A i s Q E st q => wpAny_pyIter_zip st.1 q
/-- .. in zip(e, e2) -/
def iZipM (K : PySem.W.Frag) (ta : TA) : TI := fun σ H R => ta σ H fun vs H1 => ∃ a b xs ys, vs = [.ref a, .ref b] ∧ (SqT K H1 a xs ∧ SqL K H1 b ys) ∧ R (ItzM K a b) H1
theorem pi_zipM {X : Cx} {e e2 : Expr} {ta : TA} {p pos tp : Pos} {es : List Expr} {kk : Nat} (gl : Gl X "zip") (z_zip : X.mg "zip" = none) (ha : PA X [e, e2] ta)
    (hs : starEach [e, e2] X.env = (false, eval e X.env) :: starEach [e2] X.env := by rfl) (np : (backTo pos (starEach [e2] X.env)).any (·.1) = false := by rfl) :
    PI X (.Tuple es kk tp) (.Call (.Name "zip" p) [e, e2] [] pos) (iZipM X.K ta) := by
  refine ⟨fun pins s σ H R I h => Call_ (ld_blt I gl z_zip PyProof.Rows.boot_zip (PyProof.Rows.callWith_type1 (thn (ha.run pos pins s σ H _ I h) fun us s1 ⟨vs, H1, J, rv, q⟩ => ?_) hs np))⟩
  obtain ⟨a, b, xs, ys, rfl, ⟨tx, ly⟩, q⟩ := q
  obtain ⟨u1, u2, rfl, r1, r2⟩ := vals2 rv
  cases r1
  cases r2
  obtain ⟨ps, _, pu, _⟩ := J.tuple tx
  obtain ⟨qs, _, pw, _⟩ := J.list ly
  have lt1 : a < s1.heap.objs.size := by
    obtain ⟨o, ho, _⟩ := id pu
    exact Heap.lt_size ho
  have lt2 : b < s1.heap.objs.size := pw.lt
  refine zip_begins2 (begins_tuple a ps.toArray) (begins_list b qs.toArray) pu pw.isList fun h' z1 t1 t2 g1 g2 sz kp => wpAny_pyIter_zip z1 ?_
  have J2 : Inv X pins σ H1 { s1 with heap := h' } := J.kept (t' := s1.toks) kp
  refine ⟨s1.heap.objs.size + 4, [s1.heap.objs.size + 4, s1.heap.objs.size + 2, s1.heap.objs.size + 3, s1.heap.objs.size, s1.heap.objs.size + 1], _, _, H1, rfl, J2, turnM (PySem.W.ktu_apart s1.heap.objs.size a b lt1 lt2), ⟨z1, t1, ⟨_, _, t2⟩, ⟨_, g1, rfl, rfl⟩, ⟨_, g2, rfl, rfl⟩⟩, fun c hc => ?_, q⟩
  have le : s1.heap.objs.size ≤ c := by
    simp only [List.mem_cons, List.not_mem_nil, or_false] at hc
    rcases hc with rfl | rfl | rfl | rfl | rfl
    · exact Nat.le_add_right _ 4
    · exact Nat.le_add_right _ 2
    · exact Nat.le_add_right _ 3
    · exact Nat.le_refl _
    · exact Nat.le_add_right _ 1
  exact J.fpOk le (J.hok.fresh le)
end XV
set_option Elab.async false
set_option linter.all false
set_option maxRecDepth 100000
set_option maxHeartbeats 2000000
namespace XV
open PySem PySem.Spec PyProof.Rows L2
/-- a comprehension over zip of a tuple and a list of one length -/
theorem lc_zipM {K : PySem.W.Frag} {a b : Addr} {xs ys : List V} {g : TG} {tt : TT} {te : TE} {vs : List Nat} {σ : L2.St} {H1 : Hp} {D : Addr} {Qd : Hp → Prop} (hl : xs.length = ys.length) (Pv : Nat → Hp → Prop) (h0 : Pv 0 (upd H1 D (.lst [])))
    (hq : ∀ i H, Pv i H → SqT K H a xs ∧ SqL K H b ys)
    (hs : ∀ (i : Nat) (x y : V) (T : Addr) (H : Hp), xs[i]? = some x → ys[i]? = some y → Pv i H → H T = none → g (.ref T) (wipe σ vs) (upd H T (.tup [x, y])) fun σ2 H2 => wipe σ2 vs = wipe σ vs ∧ tt σ2 H2 fun c H3 =>
      if c = true then te σ2 H3 fun r H4 => ∃ acc, H4 D = some (.lst acc) ∧ acc.length < sizeLine ∧ Pv (i + 1) (upd H4 D (.lst (acc ++ [r]))) else Pv (i + 1) H3)
    (hd : ∀ H, Pv xs.length H → Qd H) :
    ∃ W : Nat → Nat → Hp → Prop, (∃ m, W 0 m (upd H1 D (.lst []))) ∧ ∀ i m H, W i m H →
      ((ItzM K a b).stop i H ∧ Qd H) ∨ ((ItzM K a b).go i H ∧ ∃ Nx : Hp → Prop, (∀ H', Nx H' → ∃ m', m' < m ∧ W (i + 1) m' H') ∧ ∀ x H', (ItzM K a b).yld i H x H' → g x (wipe σ vs) H' fun σ2 H2 => wipe σ2 vs = wipe σ vs ∧ tt σ2 H2 fun c H3 =>
        if c = true then te σ2 H3 fun r H4 => ∃ acc, H4 D = some (.lst acc) ∧ acc.length < sizeLine ∧ Nx (upd H4 D (.lst (acc ++ [r]))) else Nx H3) := by
  refine ⟨fun i m H => m + i = xs.length ∧ Pv i H, ⟨xs.length, rfl, h0⟩, ?_⟩
  rintro i m H ⟨em, p⟩
  obtain ⟨q1, q2⟩ := hq i H p
  cases m with
  | zero =>
    have e : i = xs.length := by omega
    subst e
    exact .inl ⟨⟨xs, ys, ⟨q1, q2⟩, .inl rfl, Nat.le_refl _, by omega⟩, hd H p⟩
  | succ m =>
    have l1 : i < xs.length := by omega
    have l2 : i < ys.length := by omega
    have g1 := List.getElem?_eq_getElem l1
    have g2 := List.getElem?_eq_getElem l2
    refine .inr ⟨⟨xs, ys, _, _, q1, q2, g1, g2⟩, Pv (i + 1), fun H' p' => ⟨m, Nat.lt_succ_self m, by omega, p'⟩, ?_⟩
    rintro v H' ⟨T, x, y, rfl, nT, rfl, f1, f2⟩
    exact hs i x y T H (f1 xs q1) (f2 ys q2) p nT
/-- ix of a tuple, len of a text: where the part of the heap must be told -/
theorem ix_tupK {X : Cx} {K : PySem.W.Frag} (e : X.K = K) : IxR X (rIxT K) := by
  subst e
  exact ix_tup
theorem ix_listK {X : Cx} {K : PySem.W.Frag} (e : X.K = K) : IxR X (rIxL K) := by
  subst e
  exact ix_list
theorem cr_sumK {X : Cx} {K : PySem.W.Frag} (e : X.K = K) (hc : X.calm = true) : CallR X (.builtin "sum") (rSum K) := by
  subst e
  exact cr_sum hc
theorem pi_listK {X : Cx} {K : PySem.W.Frag} {tg l : Expr} {tl : TE} (e : X.K = K) (hl : PE X l tl) : PI X tg l (iList K tl) := by
  subst e
  exact pi_list hl
end XV
set_option Elab.async false
set_option linter.all false
set_option maxRecDepth 100000
set_option maxHeartbeats 4000000
/-! Defs that are called where no repr is under way: what is around them has no guards. -/
namespace XV
open PySem PySem.Spec PyProof.Rows L2
structure FnG (P : Program) (w : World) (K : PySem.W.Frag) (mg : Str → Option Value) (base : Heap) (Z : CXT) (k : Nat) (f : Addr) (fd : FuncData) (ps : List Str) (sp : Sp) : Prop where
  gl : ∀ l H Q E, sp l H Q E → l.length = ps.length
  go : ∀ (A : Around) (o : List Env) (s : Shared) (H : Hp) (ar : Args) (us : List Value) (l : List V) (Q : VK) (E : XK), A.guards = some [] → Room k A → Env0 P w K mg base A o s H → BindsTo s fd ar (ps.zip us) → Vals l us → sp l H Q E →
    codeAny (model P w) A (.call (.ref f) ar) (CR Z o P w H s Q E) s
theorem FnG.of {P : Program} {w : World} {K : PySem.W.Frag} {mg : Str → Option Value} {base : Heap} {Z : CXT} {k : Nat} {f : Addr} {fd : FuncData} {ps : List Str} {sp : Sp} (F : FnOk P w K mg base Z k f fd ps sp) : FnG P w K mg base Z k f fd ps sp :=
  ⟨F.len, fun A o s H ar us l Q E _ => F.run A o s H ar us l Q E⟩
section
variable {P : Program} {w : World} {K : PySem.W.Frag} {mg : Str → Option Value} {base : Heap} {x qual : Str} {params : Arguments} {body : List Stmt} {scope : Scope} {dvs : List V} {kws : List (Str × V)} {f : Addr} {fd : FuncData}
/-- a def by its body, where nothing guards -/
theorem okG {Z : CXT} {N ps : List Str} {k : Nat} {sp : Sp} (F : FunD K x qual params body scope dvs kws f fd) (S : FnScope N ps scope) (gl : ∀ l H Q E, sp l H Q E → l.length = ps.length)
    (bd : ∀ (cdv : Value) (A : Around) (o : List Env) (s : Shared) (H : Hp) (l : List V) (Q : VK) (E : XK), (A.deeper (envOfC qual scope s.heap.objs.size f cdv)).guards = some [] → Room k (A.deeper (envOfC qual scope s.heap.objs.size f cdv)) → sp l H Q E →
      ∃ t, PSs (cxOf Z P w K mg base N qual scope f cdv A o s H E) body t ∧ t { nx := fun _ H' => Q .non H', rt := Q } (start N l) H) : FnG P w K mg base Z (k + 1) f fd ps sp := by
  obtain ⟨oc, od, dV, kV, doc, pm, an, cdv, ct, osl, rfl, lk, hcd, _, _⟩ := F.ex
  refine ⟨gl, fun A o s H ar us l Q E ag hr e0 hb r hs => ?_⟩
  have hlen := gl _ _ _ _ hs
  have inK : K.In s.heap := e0.mod.kin.keeps fun b ob e => (e0.bs b ob e).1
  have nol : s.heap.NoLimit := e0.mod.nolimit.keeps fun b ob e => (e0.bs b ob e).1
  have kinds : ∀ y ∈ ps.zip us, scope.names.lookup y.1 = some .local ∨ (scope.names.lookup y.1 = some .cell ∧ ((cellsFrom (s.heap.objs.size + 1) scope.names []).lookup y.1).isSome = true) := by
    rintro ⟨n, v⟩ hy
    exact (S.par n (List.of_mem_zip hy).1).imp id fun q => ⟨q, PySem.W.cellsFrom_some _ _ _ (.inl q)⟩
  refine codeAny_call_function hr.depth (inK _ _ lk) rfl S.co S.gen rfl (PySem.W.codeRec_of inK hcd) (hb _ _ _ _ ?_)
  refine wpAny_newFunctionEnv_cells S.kind kinds fun env he s1 xx => ?_
  subst he
  refine ⟨nol.keeps xx.toInCall.keep, codeAny_func ?_⟩
  obtain ⟨t, ht, hq⟩ := bd cdv A o s H l Q E (show A.guards = some [] from ag) (hr.deeper _) hs
  have J0 := inv_start (CX := Z) (E := E) S hr.hd e0 hlen r xx
  refine wpAny_mono (ht.run [] s1 (start N l) H _ J0 hq) (fun fl s' z => ?_) fun e s' z => z
  have done : ∀ {τ : L2.St} {H' : Hp} {v : V} {u : Value}, Inv (cxOf Z P w K mg base N qual scope f cdv A o s H E) [] τ H' s' → RelV v u → Q v H' → CE o P w H s Q u s' := fun J rv q => ⟨_, _, J.os, J.bare, J.base, J.hok, rv, q⟩
  cases fl with
  | next =>
    obtain ⟨τ, H', J, q⟩ := z
    exact done (v := V.non) (u := Value.none) J rfl q
  | ret u =>
    obtain ⟨v, τ, H', J, rv, q⟩ := z
    exact done J rv q
  | brk =>
    obtain ⟨_, _, _, q⟩ := z
    exact q.elim
  | cont =>
    obtain ⟨_, _, _, q⟩ := z
    exact q.elim
end
/-- the module's name x is a def that keeps sp where nothing guards -/
structure OkG (P : Program) (w : World) (K : PySem.W.Frag) (mg : Str → Option Value) (base : Heap) (x : Str) (k : Nat) (ps : List Str) (sp : Sp) : Prop where
  ex : ∃ f fd, FnG P w K mg base CX0 k f fd ps sp ∧ mg x = some (.ref f) ∧ PySem.W.keepIn K (.ref f) = true ∧ Binds K fd ps []
section
variable {X : Cx} {k : Nat} {f : Addr} {fd : FuncData} {ps : List Str} {sp : Sp} {x : Str} {e : Expr} {es : List Expr} {t : TA} {p pos : Pos}
theorem run_g {pins : List (Addr × Obj)} {σ : L2.St} {H : Hp} {s : Shared} {Q : VK} {us : List Value} {l : List V} (F : FnG X.prog X.w X.K X.mg X.base CX0 k f fd ps sp) (ag : X.A.guards = some []) (hr : Room k X.A) (hb : Binds X.K fd ps [])
    (I : Inv X pins σ H s) (r : Vals l us) (h : sp l H Q E0) : wpAny (model X.prog X.w) X.A (call (.ref f) us) (EP X pins σ Q) X.xe s := by
  have hl : us.length = ps.length := r.length ▸ F.gl _ _ _ _ h
  have b := hb s us I.kIn (by rw [List.append_nil]; exact hl)
  rw [List.append_nil] at b
  refine wpAny_call (codeAny_mono (F.go X.A X.stack s H ⟨us, []⟩ us l Q E0 ag hr I.env0 b r h) fun r' s' hq => ?_)
  cases r' with
  | error er => exact hq.elim
  | ok fl => cases fl with
    | ret u => exact I.after hq
    | next => exact hq.elim
    | brk => exact hq.elim
    | cont => exact hq.elim
theorem pe_callG (o : OkG X.prog X.w X.K X.mg X.base x k ps sp) (ag : X.A.guards = some []) (hr : Room k X.A) (hg : Gl X x) (ha : PA X (e :: es) t) (hdb : (x == ("__debug__" : Str)) = false := by decide)
    (he : starEach (e :: es) X.env = (false, eval e X.env) :: starEach es X.env := by rfl) (hpl : (backTo pos (starEach es X.env)).any (·.1) = false := by rfl) :
    PE X (.Call (.Name x p) (e :: es) [] pos) (fun σ H Q => t σ H fun l H1 => sp l H1 Q E0) := by
  obtain ⟨f, fd, F, hm, hk, b⟩ := o.ex
  refine ⟨fun pins s σ H Q I h => ?_⟩
  refine wpAny_Call_Name_kw (ld_glob I hg hm ?_ hdb)
  refine PySem.W.callWith_K (h₀ := X.base) I.ok.mod.kin hk (thn (ha.run pos pins s σ H _ I h) fun us s1 z => ?_) he hpl
  obtain ⟨l, H1, I1, r, q⟩ := z
  exact ⟨I1.kIn, run_g F ag hr b I1 r q⟩
theorem pe_callG0 (o : OkG X.prog X.w X.K X.mg X.base x k ps sp) (ag : X.A.guards = some []) (hr : Room k X.A) (hg : Gl X x) (hdb : (x == ("__debug__" : Str)) = false := by decide) :
    PE X (.Call (.Name x p) [] [] pos) (fun σ H Q => sp [] H Q E0) := by
  obtain ⟨f, fd, F, hm, hk, b⟩ := o.ex
  refine ⟨fun pins s σ H Q I h => ?_⟩
  refine wpAny_Call_Name_kw (ld_glob I hg hm ?_ hdb)
  exact PySem.W.callWith_K0 I.kIn hk (run_g (us := []) F ag hr b I .nil h)
end
theorem OkG.mk' {P : Program} {w : World} {K : PySem.W.Frag} {mg : Str → Option Value} {base : Heap} {x : Str} {k : Nat} {ps : List Str} {sp : Sp} {body : List Stmt} {params : Arguments} {scope : Scope} {f : Addr} {fd : FuncData}
    (F : FunD K x x params body scope [] [] f fd) (g : mg x = some (.ref f)) (b : ∀ (kV doc pm : Value) (an : Option Addr) (cdv ct : Value) (us : List Value), us.length = ps.length → bindArgs (PySem.W.fnOf x x params body scope .none kV doc pm an cdv ct) ⟨us, []⟩ = pure (ps.zip us))
    (ok : FnG P w K mg base CX0 k f fd ps sp) : OkG P w K mg base x k ps sp := ⟨f, fd, ok, g, F.kp, F.bindsN b⟩
end XV
set_option Elab.async false
set_option linter.all false
set_option maxRecDepth 100000
set_option maxHeartbeats 4000000
/-! The end of a law whose def is told of where nothing guards. -/
namespace XV
open PySem PySem.Spec PyProof.Rows L2
theorem law_g {P : Program} {w : World} {K : PySem.W.Frag} {mg mb : Str → Option Value} {k : Nat} {fa a : Addr} {fd : FuncData} {x : Str} {sp : Sp} {s : Shared} {us : List Value} {ns : List Int}
    (KX : K.In s.heap) (gn : s.heap.Ns mainGlobals mg) (bn : s.heap.Ns builtinsNs mb) (bb : ∀ y : Str, y ≠ "__name__" → mb y = bootBuiltins y) (nl : s.heap.NoLimit) (g0 : s.gens = #[])
    (ha : s.heap.get? a = some { cls := .type "list", data := .seq us.toArray }) (hi : IntsAre us ns) (hl : ns.length ≤ sizeLine) (hr : Room k callerA)
    (F : ∀ base : Heap, K.In base → base.Ns mainGlobals mg → FnG P w K mg base CX0 k fa fd [x] sp) (hb : ∀ (s' : Shared) (u : Value), BindsTo s' fd ⟨[u], []⟩ [(x, u)])
    (hsp : ∀ H : Hp, Only H → SqL K H a (ns.map V.int) → sp [.ref a] H (fun v _ => v = .bl true) fun _ _ _ => False) :
    codeAny (model P w) callerA (.call (.ref fa) ⟨[.ref a], []⟩) (fun r s' => r = .ok (.ret (.bool true)) ∧ OldK s.heap s'.heap ∧ s'.os = s.os ∧ AllBare s'.gens) s := by
  have rv := vals_ints hi
  have len := hi.length
  -- H tells of the script alone, or of nothing
  have main : ∀ H : Hp, Only H → SqL K H a (ns.map V.int) → HOk P w H s.heap → (∀ b, H b ≠ none → b = a) → (H a ≠ none → K.lookup a = none) →
      codeAny (model P w) callerA (.call (.ref fa) ⟨[.ref a], []⟩) (fun r s' => r = .ok (.ret (.bool true)) ∧ OldK s.heap s'.heap ∧ s'.os = s.os ∧ AllBare s'.gens) s := by
    intro H only told ok alone notK
    have part : ∀ {b : Addr} {o : Obj}, s.heap.get? b = some o → H b = none → (hidT s.heap H).get? b = some o := fun e n => hidT_get e n
    have dictN : ∀ {b : Addr} {o : Obj} {es : Array DictEntry} {ep : Nat}, s.heap.get? b = some o → o.data = .dict es ep → H b = none := by
      intro b o es ep e d
      by_cases q : H b = none
      · exact q
      · obtain rfl := alone b q
        rw [ha] at e
        cases e
        exact nomatch (show Data.seq us.toArray _ = Data.dict es ep from d)
    have nsP : ∀ {b : Addr} {m : Str → Option Value}, s.heap.Ns b m → (hidT s.heap H).Ns b m := by
      rintro b m ⟨o, es, ep, e, d, r⟩
      exact ⟨o, es, ep, part e (dictN e d), d, r⟩
    have KP : K.In (hidT s.heap H) := fun b o e => part (KX b o e) (by
      by_cases q : H b = none
      · exact q
      · obtain rfl := alone b q
        rw [notK q] at e
        cases e)
    have md : Mod K mg (hidT s.heap H) := ⟨KP, nsP gn, ⟨mb, nsP bn, bb⟩, nl.imp fun _ z => ⟨nsP z.1, z.2⟩⟩
    have st : Env0 P w K mg (hidT s.heap H) callerA [] s H := { frames := rfl, mod := md, bs := fun b o e => of_hidT e, bsz := Nat.le_of_eq (hidT_size _ _), funs := trivial, frf := fun b z => absurd (show b ∈ ([] : List Addr) from z) (by simp), hok := ok, bare := .of_eq g0 }
    refine codeAny_mono ((F _ KP (nsP gn)).go callerA [] s H ⟨[.ref a], []⟩ [.ref a] [.ref a] _ _ rfl hr st (hb s (.ref a)) (.cons rfl .nil) (hsp H only told)) fun r s' h => ?_
    cases r with
    | error er => exact h.elim
    | ok fl => cases fl with
      | next => exact h.elim
      | brk => exact h.elim
      | cont => exact h.elim
      | ret u =>
        obtain ⟨v, H', os, bare, un, ok', r', q⟩ := h
        obtain rfl : v = .bl true := q
        obtain rfl : u = Value.bool true := r'
        refine ⟨rfl, OldK.of_keep fun b o e => ?_, os, bare⟩
        by_cases q : H b = none
        · exact un.keep b o e q (fun z => nomatch (show b ∈ ([] : List Addr) from z)) (by simp)
        · rcases only b with z | ⟨ob, xs, z⟩
          · exact absurd z q
          · obtain ⟨e1, _⟩ := ok b _ z
            obtain ⟨e2, _⟩ := ok' b _ (un.frzs b ob _ z)
            rw [e] at e1
            cases e1
            exact e2
  cases hk : K.lookup a with
  | some o =>
    obtain rfl := Option.some.inj (ha.symm.trans (KX a o hk))
    exact main (fun _ => none) (fun _ => .inl rfl) (.inr ⟨_, us.toArray, _, hk, rfl, rfl, rfl, by rw [List.size_toArray, len]; exact hl, by simpa using rv⟩) (fun b u z => nomatch (show (none : Option HO) = some u from z)) (fun b z => absurd rfl z) fun z => absurd rfl z
  | none =>
    let o1 : Obj := { cls := .type "list", data := .seq us.toArray }
    have at_ : ∀ b : Addr, b = a → (fun b : Addr => if b = a then some (HO.frz o1 (.lst (ns.map V.int))) else none) b = some (.frz o1 (.lst (ns.map V.int))) := fun b e => if_pos e
    have off : ∀ b : Addr, b ≠ a → (fun b : Addr => if b = a then some (HO.frz o1 (.lst (ns.map V.int))) else none) b = none := fun b e => if_neg e
    refine main (fun b => if b = a then some (.frz o1 (.lst (ns.map V.int))) else none) (fun b => ?_) (.inl (.inr ⟨o1, if_pos rfl⟩)) (fun b u z => ?_) (fun b z => ?_) fun _ => hk
    · by_cases e : b = a
      · exact .inr ⟨_, _, at_ b e⟩
      · exact .inl (off b e)
    · by_cases e : b = a
      · cases (at_ b e).symm.trans z
        subst e
        exact ⟨ha, by rw [List.length_map]; exact hl, us, _, rv, ha⟩
      · cases (off b e).symm.trans z
    · by_cases e : b = a
      · exact e
      · exact absurd (off b e) z
theorem walk_ofG {l : PySem.W.OpenLaw} {n k : Nat} {q : Program} {loose : List Str} {XP : (Str → Option Value) → Heap → Prop} {YP : World → Heap → Prop} {d : DefRec} {x : Str}
    (hn : l.most = some n) (hz : n ≤ sizeLine) (hd : d.params.defaults = []) (hr : Room k callerA)
    (F : ∀ (w : World) (mg : Str → Option Value) (fa : Addr) (h : Heap), YP w h → h.Ns mainGlobals mg → mg d.name = some (.ref fa) →
      ∃ (K : PySem.W.Frag) (fd : FuncData) (sp : Sp), K.In h ∧ (∀ (s : Shared) (u : Value), BindsTo s fd ⟨[u], []⟩ [(x, u)]) ∧
        (∀ (H : Hp) (a : Addr) (ns : List Int), ns.length ≤ n → Only H → SqL K H a (ns.map V.int) → sp [.ref a] H (fun v _ => v = .bl true) fun _ _ _ => False) ∧
        ∀ base : Heap, K.In base → base.Ns mainGlobals mg → FnG l.prog w K mg base CX0 k fa fd [x] sp) :
    PySem.W.WalkO q loose XP YP l.row.toRowW d [] (fun f vs => PySem.call f vs) := by
  refine Att.attach_call hn hd fun w s₀ s₁ mg mb fa o pm cd doc a us ns G Y ho hd' hcd hmg hobj hints hlen hg => ?_
  obtain ⟨K, fd, sp, KX, hb, hsp, hF⟩ := F w mg fa _ Y G.T.g hmg
  exact law_g KX G.T.g G.T.b G.T.builtins G.T.nolimit hg hobj hints (Nat.le_trans hlen hz) hr hF hb fun H hO hS => hsp H a ns hlen hO hS
end XV
set_option Elab.async false
set_option linter.all false
set_option maxRecDepth 100000
set_option maxHeartbeats 4000000
/-! An error that an except suite has caught, held in a name behind the suite. -/
namespace XV
open PySem PySem.Spec PyProof.Rows L2
/-- at a: an error of the class cls that was raised and caught, its dict at d -/
def exz (a : Addr) (cls : Value) (d : Option Addr) : HO := .ext fun h => ∃ (oe : Obj) (vs : Array Value), h.get? a = some oe ∧ Zc cls d oe ∧ oe.data = .fields vs
theorem exz_ok {P : Program} {w : World} {H : Hp} {h : Heap} {a : Addr} {cls : Value} {d : Option Addr} {oe : Obj} {vs : Array Value} (e : h.get? a = some oe) (z : Zc cls d oe) (f : oe.data = .fields vs) : ObjOk P w H h a (exz a cls d) :=
  ⟨⟨oe, vs, e, z, f⟩, ⟨oe, e⟩, fun _ _ y k => y.elim fun o y => y.elim fun v y => ⟨o, v, k o y.1, y.2⟩⟩
theorem exz_at {P : Program} {w : World} {H : Hp} {h : Heap} {a : Addr} {cls : Value} {d : Option Addr} (hok : HOk P w H h) (e : H a = some (exz a cls d)) : ∃ (oe : Obj) (vs : Array Value), h.get? a = some oe ∧ Zc cls d oe ∧ oe.data = .fields vs := by
  have x : ObjOk P w H h a (.ext fun h => ∃ (oe : Obj) (vs : Array Value), h.get? a = some oe ∧ Zc cls d oe ∧ oe.data = .fields vs) := hok a _ e
  exact x.1
/-- what is there, new since the entry and not told of, is told of -/
theorem tell {X : Cx} {pins : List (Addr × Obj)} {σ : L2.St} {H : Hp} {s : Shared} {a : Addr} {cls : Value} {d : Option Addr} {oe : Obj} {vs : Array Value} (I : Inv X pins σ H s) (e : s.heap.get? a = some oe) (z : Zc cls d oe) (f : oe.data = .fields vs)
    (na : H a = none) (n0 : X.s_0.heap.get? a = none) (nL : a ≠ X.env.locals) (np : ∀ p ∈ X.pn ++ pins, p.1 ≠ a) : Inv X pins σ (upd H a (exz a cls d)) s := by
  have nc : ∀ x c, X.env.cells.lookup x = some c → c ≠ a := fun x c l q => by
    obtain ⟨v, o, ho, hd⟩ := I.cell x c l
    rw [q, e] at ho
    cases ho
    rw [f] at hd
    cases hd
  refine { ok := I.ok, os := I.os, bare := I.bare, base := ?_, loc := I.loc, cell := I.cell, free := ?_, freeC := fun x c l => ?_, pin := fun p hp => ?_, hok := fun b o q => ?_, len := I.len }
  · refine { keep := I.base.keep, slot := I.base.slot, free := fun b o q n hx => ?_, there := I.base.there, tups := fun b xs q => ?_, frzs := fun b o u q => ?_, tbls := fun b ps q => ?_ }
    · rw [upd_ne (fun y => by rw [y, n0] at q; cases q)]
      exact I.base.free b o q n hx
    · have y := I.base.tups b xs q
      rw [upd_ne (ne_of_none y na)]
      exact y
    · have y := I.base.frzs b o u q
      rw [upd_ne (ne_of_none y na)]
      exact y
    · obtain ⟨m, y⟩ := I.base.tbls b ps q
      exact ⟨m, by rw [upd_ne (ne_of_none y na)]; exact y⟩
  · rw [upd_ne (Ne.symm nL)]
    exact I.free
  · rw [upd_ne (nc x c l)]
    exact I.freeC x c l
  · obtain ⟨p1, p2, p3⟩ := I.pin p hp
    exact ⟨p1, by rw [upd_ne (np p hp)]; exact p2, p3⟩
  · by_cases hb : b = a
    · subst hb
      rw [upd_same] at q
      cases q
      exact exz_ok e z f
    · rw [upd_ne hb] at q
      exact (I.hok b o q).stay (fun c w' _ y => y) (fun c y => by rw [upd_ne (ne_of_none y na)]; exact y) fun c xs y => by
        rw [upd_ne (ne_of_none y na)]
        exact y
/-- the clause's wish: behind its suite the error is told of -/
def wKeep (K : PySem.W.Frag) (c : Value) (i : Nat) (ts : Addr → Value → Option Addr → TS) (Wout : WX) (D : Ends) : WX := fun cls d σ H => ∃ b, PySem.W.exmOne K cls c = some b ∧
  (b = true → ∀ a, H a = none → ts a cls d { nx := fun σ' H' => H' a = none → D.nx (σ'.set i none) (upd H' a (exz a cls d)), rt := fun _ _ => False, bk := fun _ _ => False, ct := fun _ _ => False } (σ.set i (some (.ref a))) H) ∧ (b = false → Wout cls d σ H)
section
variable {X : Cx} {x n : Str} {c : Value} {i : Nat} {body suite : List Stmt} {b₀ : Stmt} {np pos pos' : Pos} {tb : WX → TS} {ts : Addr → Value → Option Addr → TS} {Wout : WX}
theorem ps_try_keep (hs : X.stack = X.env :: X.outer) (hf : X.env.frame = some X.env.locals) (hex : X.ex = []) (nd : X.N.Nodup) (hi : X.N[i]? = some n) (hln : X.env.kindOf n = some .local) (hc : Names X x c) (tk : Takes X Wout)
    (hb : ∀ (W : WX) (pn : List (Addr × Obj)) (xe : Value → Shared → Prop), Takes (X.tr pn xe) W → PassesOwn (model X.prog X.w) X.A X.env xe → PSs (X.tr pn xe) body (tb W))
    (hsu : ∀ (a : Addr) (oe : Obj) (cls : Value) (d : Option Addr) (pn : List (Addr × Obj)), Zc cls d oe → (∃ vs, oe.data = .fields vs) → PSs (X.suite a ((a, oe) :: pn)) (b₀ :: suite) (ts a cls d)) :
    PS X (.Try body [.ExceptHandler (some (.Name x np)) (some n) (b₀ :: suite) pos'] [] [] pos) (fun D σ H => tb (wKeep X.K c i ts Wout D) D σ H) := by
  refine ⟨fun pins s σ H D I h => ?_⟩
  have ok := I.ok
  have fr : X.A.frames = some (X.env :: X.outer) := ok.frames.trans (congrArg some hs)
  have lc : Loc X.env.scope n := .inl hln
  let catch_ : Value → Shared → Prop := fun e s₁ => wpAny (model X.prog X.w) X.A (noteFrame e X.env) (fun _ s₂ => wpAny (model X.prog X.w) X.A (setFlight e none) (fun _ s₃ =>
    wpAny (model X.prog X.w) X.A (handleBy e X.env [.ExceptHandler (some (.Name x np)) (some n) (b₀ :: suite) pos']) (SP X pins D) X.xe s₃) X.xe s₂) X.xe s₁
  refine wpAny_Try_except ?_
  refine wpAny_mono ((hb (wKeep X.K c i ts Wout D) (X.pn ++ pins) catch_ (fun u s' air => ?_) PassesOwn.looking).run [] s σ H D (I.toTry _) h) (fun fl s1 out => ?_) (fun e s1 z => z)
  · obtain ⟨a, B, sI, pins1, σ1, H1, cls, d, rfl, J1, nb, up, sky, na, os, ag, b, known, yes, no⟩ := air
    have J : Inv X pins σ1 H1 sI := J1.ofTry ok
    have skyE : Sky B (X.env :: X.outer) a (Zc cls d) X.env.locals s'.heap := hs ▸ sky
    -- the error is new since the entry
    have nB : B.get? a = none := by
      rcases skyE with q | q | q
      · exact q.2.1
      · exact q.2.1
      · exact q.2.1
    show wpAny (model X.prog X.w) X.A (noteFrame (.ref a) X.env) _ _ _
    refine Sky.land Zc.steady fr hf skyE fun h3 fly3 up3 => ?_
    have J3 : Inv X pins σ1 H1 { s' with heap := h3 } := J.landed nb fly3.1 (up.trans up3) os ag
    obtain ⟨oe3, vs3, e3, z3, f3⟩ := fly3.there
    have nfr : a ∉ frs (X.env :: X.outer) := fun m => by
      obtain ⟨_, o, e, nf⟩ := fly3.2.2.1.mem m
      rw [e3] at e
      cases e
      exact nf _ f3
    have nL : a ≠ X.env.locals := fun q => nfr (List.mem_filterMap.mpr ⟨X.env, List.mem_cons_self, q ▸ hf⟩)
    have nF : a ∉ X.fs := fun m => (List.mem_filterMap.mp m).elim fun y q => nfr (List.mem_filterMap.mpr ⟨y, List.mem_cons_of_mem _ q.1, q.2⟩)
    have nI : sI.heap.get? a = none := by
      cases q : sI.heap.get? a with
      | none => rfl
      | some o =>
        have y := nb a o q (by rw [hs]; exact nfr)
        rw [nB] at y
        cases y
    have n0 : X.s_0.heap.get? a = none := by
      cases q : X.s_0.heap.get? a with
      | none => rfl
      | some o =>
        obtain ⟨o', y⟩ := J.base.there a o q (by rw [hex]; exact fun z => nomatch z)
        rw [nI] at y
        cases y
    have npin : ∀ p ∈ X.pn ++ pins, p.1 ≠ a := fun p hp q => by
      have y := (J.pin p hp).1
      rw [q, nI] at y
      cases y
    have S3 := J3.suite e3 f3 na nL nF
    refine wpAny_handleBy_cons (codeAny_handlers_test ?_) (by intro q; cases q)
    have tyLook : PySem.W.Looks (model X.prog X.w) h3 (typeOf (.ref a)) cls := fun A Q E s k q => wpAny_typeOf_ref (k _ _ e3) (by rw [z3.1]; exact q)
    have match_ := PySem.W.exm_one (M := model X.prog X.w) J3.kIn tyLook known
    have clause : ∀ {Q : Value → Shared → Prop} {E : Value → Shared → Prop}, Q c { s' with heap := h3 } → wpAny (model X.prog X.w) (X.A.mark (some (.ref a))) (eval (.Name x np) X.env) Q E { s' with heap := h3 } := by
      intro Q E q
      obtain ⟨hg, hdb, hm | ⟨hm, hv, hnn⟩⟩ := hc
      · exact ld_glob (X := X.suite a ((a, oe3) :: (X.pn ++ pins))) S3 hg hm q hdb
      · exact ld_blt (X := X.suite a ((a, oe3) :: (X.pn ++ pins))) S3 hg hm hv q hnn hdb
    refine clause (match_.here ?_)
    cases b with
    | false =>
      show wpAny _ X.A (handleBy (.ref a) X.env []) _ _ _
      refine wpAny_handleBy_nil ?_
      obtain ⟨k1, k2, k3, oe, vs, T, oT, ts', he, hz, hd, h1, hr⟩ := id fly3
      unfold PySem.passOn
      refine wpAny_bind (wpAny_field he hd h1 ?_)
      rw [if_neg (show ¬ ((Value.ref T == Value.none) = true) from by simp)]
      have fin : wpAny (model X.prog X.w) X.A (setFlight (.ref a) X.env.frame) (fun _ s4 => wpAny (model X.prog X.w) X.A (throw (.ref a) : Sem Flow) (SP X pins D) X.xe s4) X.xe { s' with heap := h3 } := by
        rw [hf]
        exact HandSPX.setFlight_upZ fly3 fun h4 held4 up4 => wpAny_throw (tk _ _ ⟨a, B, sI, pins, σ1, H1, cls, d, rfl, J, nb, (up.trans up3).trans up4, .inr (.inr (by rw [hs]; exact held4)), na, os, ag, no rfl⟩)
      first
        | exact wpAny_bind (wpAny_pure (wpAny_bind fin))
        | exact wpAny_bind fin
    | true =>
      refine codeAny_handlers_suite_as ?_
      refine HandSPX.lands_againZ fly3 fun h4 fly4 up4 => ?_
      have J4 : Inv X pins σ1 H1 { s' with heap := h4 } := J.landed nb fly4.1 ((up.trans up3).trans up4) os ag
      obtain ⟨oe4, vs4, e4, z4, f4⟩ := fly4.there
      refine store_ok (X := X.suite a ((a, oe4) :: (X.pn ++ pins))) (v := .ref a) (J4.suite e4 f4 na nL nF) nd hi lc rfl (fun s5 S5 => ?_) (.inr hln)
      refine wpAny_mono ((hsu a oe4 cls d (X.pn ++ pins) z4 ⟨_, f4⟩).run [] s5 _ H1 _ S5 (yes rfl a na)) (fun fl s6 out => ?_) (fun _ _ z => z.elim)
      cases fl with
      | next =>
        obtain ⟨σ6, H6, S6, q6⟩ := out
        obtain ⟨p1, p2, _⟩ := S6.pin (a, oe4) (List.mem_append_left _ List.mem_cons_self)
        have T6 := tell (S6.unsuite ok) p1 z4 f4 p2 n0 nL npin
        exact gone_ok T6 nd hi hln fun s7 J7 => ⟨_, _, J7, q6 p2⟩
      | brk =>
        obtain ⟨_, _, _, q6⟩ := out
        exact q6.elim
      | cont =>
        obtain ⟨_, _, _, q6⟩ := out
        exact q6.elim
      | ret u =>
        obtain ⟨_, _, _, _, _, q6⟩ := out
        exact q6.elim
  · cases fl with
    | next => exact out.elim fun σ' z => z.elim fun H' z => wpAny_execs_nil ⟨σ', H', z.1.ofTry ok, z.2⟩
    | brk => exact out.elim fun σ' z => z.elim fun H' z => ⟨σ', H', z.1.ofTry ok, z.2⟩
    | cont => exact out.elim fun σ' z => z.elim fun H' z => ⟨σ', H', z.1.ofTry ok, z.2⟩
    | ret u =>
      obtain ⟨v, σ', H', J', r, q⟩ := out
      exact ⟨v, σ', H', J'.ofTry ok, r, q⟩
end
/-! ### e.f and isinstance(e, C) of such an error -/
section
variable {X : Cx}
theorem pe_zget {e : Expr} {te : TE} {pos : Pos} {n : Str} (he : PE X e te) (hb : attributeBase e n X.env (eval e X.env) = eval e X.env := by rfl) :
    PE X (.Attribute e n pos) (fun σ H Q => te σ H fun x H1 => ∃ a C d fs v, x = .ref a ∧ H1 a = some (exz a (.ref C) (some d)) ∧ H1 d = some (.xd fs) ∧ XF X.K C n ∧ fs.lookup n = some v ∧ Q v H1) := by
  refine ⟨fun pins s σ H Q I h => ?_⟩
  refine attr_of hb (thn (he.run pins s σ H _ I h) fun u s1 hh => ?_)
  obtain ⟨x, H1, I1, rx, a, C, d, fs, v, ex, ea, ed, T, l, q⟩ := hh
  subst ex
  obtain rfl : u = Value.ref a := rx
  obtain ⟨oe, vs, ho, hz, hf⟩ := exz_at I1.hok ea
  have hx : ObjOk X.prog X.w H1 s1.heap d (.xd fs) := I1.hok d _ ed
  obtain ⟨mA, hns, hrel⟩ := hx
  obtain ⟨od, hod, hl⟩ := lookIn_ns hns
  obtain ⟨w1, hw, rw1⟩ := RelO.some_of (v := v) (o := mA n) (by rw [← l]; exact hrel n)
  have J : PySem.W.InstAt s1.heap a oe C (some od) := ⟨ho, hz.1, by unfold PySem.W.notCls; rw [hf] <;> rfl, by rw [hz.2]; exact hod⟩
  exact HandSPX.exc_get I1.kIn J T.xf.ga T.xf.gg T.xf.exC (PySem.W.findObj_own T.xf.hdC T.no rfl (by rw [hl, hw])) (handed_of rw1) ⟨v, H1, I1.tok _, rw1, q⟩
def rIsZ (K : PySem.W.Frag) : List V → Hp → VK → Prop := fun xs H Q => ∃ (a : Addr) (c : V) (D d : Addr) (fs : List (Str × V)) (cv : Value) (b : Bool), xs = [.ref a, c] ∧ H a = some (exz a (.ref D) (some d)) ∧ H d = some (.xd fs) ∧ ExcC K D ∧ (∀ u, RelV c u → u = cv) ∧ PySem.W.kitOne K (.ref D) cv = some b ∧ Q (.bl b) H
theorem call_isZ : CallR X (.builtin "isinstance") (rIsZ X.K) := by
  intro pins s σ H xs us Q I r h
  obtain ⟨a, c, D, d, fs, cv, b, rfl, ea, ed, C, hcv, e, q⟩ := h
  cases r with
  | cons rx rr =>
    cases rr with
    | cons rt rr =>
      cases rr
      cases rx
      obtain rfl := hcv _ rt
      obtain ⟨oe, vs, ho, hz, hf⟩ := exz_at I.hok ea
      have hx : ObjOk X.prog X.w H s.heap d (.xd fs) := I.hok d _ ed
      obtain ⟨mA, hns, _⟩ := hx
      obtain ⟨od, hod, _⟩ := lookIn_ns hns
      have J : PySem.W.InstAt s.heap a oe D (some od) := ⟨ho, hz.1, by unfold PySem.W.notCls; rw [hf] <;> rfl, by rw [hz.2]; exact hod⟩
      exact PySem.W.kia_one (kitErr C) I.kIn J e (fun z => nomatch z) fun tk => ⟨.bl b, H, I.kept (t' := tk) fun _ _ z => z, rfl, q⟩
end
end XV
set_option Elab.async false
set_option linter.all false
set_option maxRecDepth 100000
set_option maxHeartbeats 4000000
/-! repr of data, where nothing guards; written data. -/
namespace XV
open PySem PySem.Spec PyProof.Rows L2
section
variable {X : Cx}
def rRepr (K : PySem.W.Frag) : List V → Hp → VK → Prop := fun xs H Q => ∃ (v : V) (d : PyData), xs = [v] ∧ Dp K H v d ∧ d.showable = true ∧ d.hasDict = false ∧ d.depth ≤ 60 ∧ d.shown.length ≤ sizeLine ∧ Q (.str d.shown) H
theorem call_reprD (ag : X.A.guards = some []) (hu : X.A.units + 64 < cLine) : CallR X (.builtin "repr") (rRepr X.K) := by
  intro pins s σ H xs us Q I r h
  obtain ⟨v, d, rfl, hd, sh, nd, dp, sz, q⟩ := h
  have deep : ∀ a : Addr, ∀ as, Reads s.heap (.ref a) d as → wpAny (model X.prog X.w) X.A (call (.builtin "repr") [.ref a]) (EP X pins σ Q) X.xe s := fun a as rd =>
    repr_of_reads' rd sh (fun z => by rw [nd] at z; cases z) ag (by omega) (fun _ _ e => e) (fun h' u tk k => ⟨.str d.shown, H, I.kept (t' := tk) k, ⟨u, rfl⟩, q⟩) sz
  cases r with
  | cons rv rr =>
    cases rr
    cases hd with
    | non =>
      cases rv
      exact PySem.P.repr_of_none ⟨.str _, H, I.tok _, ⟨_, rfl⟩, q⟩
    | bl b =>
      cases rv
      exact PySem.P.repr_of_bool ⟨.str _, H, I.tok _, ⟨_, rfl⟩, q⟩
    | int i =>
      obtain ⟨t, rfl⟩ := rv
      exact PySem.P.repr_of_int (of_decide_eq_true (by simpa [PyData.showable] using sh)) ⟨.str _, H, I.tok _, ⟨_, rfl⟩, q⟩
    | str x =>
      obtain ⟨t, rfl⟩ := rv
      exact PySem.P.repr_of_str ⟨.str _, H, I.tok _, ⟨_, rfl⟩, q⟩ sz
    | lst hs ha =>
      cases rv
      obtain ⟨as, rd⟩ := Dp.reads I _ _ _ (Dp.lst hs ha) rfl
      exact deep _ as rd
    | tup hs ha =>
      cases rv
      obtain ⟨as, rd⟩ := Dp.reads I _ _ _ (Dp.tup hs ha) rfl
      exact deep _ as rd
end
/-! ### data that is tracked throughout -/
mutual
inductive Da (H : Hp) : V → PyData → Prop
  | non : Da H .non .none
  | bl (b : Bool) : Da H (.bl b) (.bool b)
  | int (i : Int) : Da H (.int i) (.int i)
  | str (x : Str) : Da H (.str x) (.str x)
  | lst {a : Addr} {xs : List V} {ds : List PyData} : H a = some (.lst xs) → DaAll H xs ds → Da H (.ref a) (.list ds)
  | tup {a : Addr} {xs : List V} {ds : List PyData} : H a = some (.tup xs) → DaAll H xs ds → Da H (.ref a) (.tuple ds)
inductive DaAll (H : Hp) : List V → List PyData → Prop
  | nil : DaAll H [] []
  | cons {v : V} {vs : List V} {d : PyData} {ds : List PyData} : Da H v d → DaAll H vs ds → DaAll H (v :: vs) (d :: ds)
end
mutual
theorem Da.keep {H H' : Hp} (s : Same H H') : ∀ {d : PyData} {v : V}, Da H v d → Da H' v d
  | _, _, .non => .non
  | _, _, .bl b => .bl b
  | _, _, .int i => .int i
  | _, _, .str x => .str x
  | _, _, .lst h a => .lst (s _ _ h) (DaAll.keep s a)
  | _, _, .tup h a => .tup (s _ _ h) (DaAll.keep s a)
theorem DaAll.keep {H H' : Hp} (s : Same H H') : ∀ {ds : List PyData} {vs : List V}, DaAll H vs ds → DaAll H' vs ds
  | _, _, .nil => .nil
  | _, _, .cons h r => .cons (Da.keep s h) (DaAll.keep s r)
end
mutual
theorem Da.dp {K : PySem.W.Frag} {H : Hp} : ∀ {d : PyData} {v : V}, Da H v d → Dp K H v d
  | _, _, .non => .non
  | _, _, .bl b => .bl b
  | _, _, .int i => .int i
  | _, _, .str x => .str x
  | _, _, .lst h a => .lst (SqL.of h) (DaAll.dp a)
  | _, _, .tup h a => .tup (SqT.of h) (DaAll.dp a)
theorem DaAll.dp {K : PySem.W.Frag} {H : Hp} : ∀ {ds : List PyData} {vs : List V}, DaAll H vs ds → DpAll K H vs ds
  | _, _, .nil => .nil
  | _, _, .cons h r => .cons (Da.dp h) (DaAll.dp r)
end
theorem DaAll.length {H : Hp} : ∀ {ds : List PyData} {vs : List V}, DaAll H vs ds → vs.length = ds.length
  | _, _, .nil => rfl
  | _, _, .cons _ r => congrArg (· + 1) (DaAll.length r)
theorem DaAll.get {H : Hp} : ∀ {ds : List PyData} {vs : List V} {i : Nat} {v : V}, DaAll H vs ds → vs[i]? = some v → ∃ d, ds[i]? = some d ∧ Da H v d
  | _, _, i, v, .nil, h => by simp at h
  | _, _, 0, v, .cons a r, h => by
    cases h
    exact ⟨_, rfl, a⟩
  | _, _, i + 1, v, .cons a r, h => by
    obtain ⟨d, e, x⟩ := DaAll.get (i := i) r (by simpa using h)
    exact ⟨d, by simpa using e, x⟩
/-! ### written data -/
def litsN (f : Expr → Option PyData) : List Expr → Option (List PyData)
  | [] => some []
  | e :: es => match f e, litsN f es with
    | some d, some ds => some (d :: ds)
    | _, _ => none
def litN : Nat → Expr → Option PyData
  | 0, _ => none
  | n + 1, e => match e with
    | .Constant .none _ _ => some .none
    | .Constant (.bool b) _ _ => some (.bool b)
    | .Constant (.int i) _ _ => some (.int i)
    | .Constant (.str x) _ _ => some (.str x)
    | .UnaryOp .USub (.Constant (.int i) _ _) _ => some (.int (-i))
    | .List es _ => if es.length ≤ 1000 then (litsN (litN n) es).map .list else none
    | .Tuple es _ _ => if es.length ≤ 1000 then (litsN (litN n) es).map .tuple else none
    | _ => none
/-- the reading of written data -/
def tLit (d : PyData) : TE := fun _ H Q => ∀ (v : V) (H' : Hp), Same H H' → Da H' v d → Q v H'
def tLits (ds : List PyData) : TA := fun _ H Q => ∀ (vs : List V) (H' : Hp), Same H H' → DaAll H' vs ds → vs.length = ds.length → Q vs H'
theorem PE.le {X : Cx} {e : Expr} {t t' : TE} (h : PE X e t) (i : ∀ σ H Q, t' σ H Q → t σ H Q) : PE X e t' := ⟨fun pins s σ H Q I z => h.run pins s σ H Q I (i _ _ _ z)⟩
theorem PA.le {X : Cx} {es : List Expr} {t t' : TA} (h : PA X es t) (i : ∀ σ H Q, t' σ H Q → t σ H Q) : PA X es t' := ⟨fun p pins s σ H Q I z => h.run p pins s σ H Q I (i _ _ _ z)⟩
theorem litsN_len {f : Expr → Option PyData} : ∀ (es : List Expr) (ds : List PyData), litsN f es = some ds → ds.length = es.length
  | [], ds, h => by
    cases h
    rfl
  | e :: es, ds, h => by
    unfold litsN at h
    split at h
    · rename_i d ds' h1 h2
      cases h
      rw [List.length_cons, List.length_cons, litsN_len es ds' h2]
    · cases h
theorem lits_ok {X : Cx} {f : Expr → Option PyData} (hf : ∀ e d, f e = some d → PE X e (tLit d)) (hs : ∀ e d es, f e = some d → starEach (e :: es) X.env = (false, eval e X.env) :: starEach es X.env) :
    ∀ (es : List Expr) (ds : List PyData), litsN f es = some ds → PA X es (tLits ds)
  | [], ds, h => by
    cases h
    exact PA.le pa_nil fun σ H Q z => z [] H (fun _ _ e => e) .nil rfl
  | e :: es, ds, h => by
    unfold litsN at h
    split at h
    · rename_i d ds' h1 h2
      cases h
      exact PA.le (pa_cons (hf e d h1) (lits_ok hf hs es ds' h2) (hs e d es h1)) fun σ H Q z v H1 s1 p1 vs H2 s2 p2 l2 => z (v :: vs) H2 (s1.trans s2) (.cons (p1.keep s2) p2) (by rw [List.length_cons, List.length_cons, l2])
    · cases h
theorem lit_star {n : Nat} {e : Expr} {d : PyData} {es : List Expr} {env : Env} (h : litN n e = some d) : starEach (e :: es) env = (false, eval e env) :: starEach es env := by
  cases n with
  | zero => cases h
  | succ n => cases e <;> first | rfl | cases h
theorem lit_ok {X : Cx} : ∀ (n : Nat) (e : Expr) (d : PyData), litN n e = some d → PE X e (tLit d)
  | 0, _, _, h => by cases h
  | n + 1, e, d, h => by
    have small : ∀ m : Nat, m ≤ 1000 → m ≤ sizeLine := fun m hm => by
      rw [sizeLine_eq]
      omega
    unfold litN at h
    split at h
    · cases h
      exact PE.le pe_non fun σ H Q z => z _ H (fun _ _ e => e) .non
    · cases h
      exact PE.le pe_bl fun σ H Q z => z _ H (fun _ _ e => e) (.bl _)
    · cases h
      exact PE.le pe_int fun σ H Q z => z _ H (fun _ _ e => e) (.int _)
    · cases h
      exact PE.le pe_str fun σ H Q z => z _ H (fun _ _ e => e) (.str _)
    · cases h
      exact PE.le (pe_un un_neg pe_int) fun σ H Q z => ⟨_, rfl, z _ H (fun _ _ e => e) (.int _)⟩
    · rename_i es p
      split at h
      · rename_i hl
        cases q : litsN (litN n) es with
        | none =>
          rw [q] at h
          cases h
        | some ds =>
          rw [q] at h
          cases h
          exact PE.le (pe_lst (lits_ok (lit_ok n) (fun _ _ _ => lit_star) es ds q)) fun σ H Q z vs H1 s1 p1 l1 => ⟨by rw [l1, litsN_len _ _ q]; exact small _ hl, fun p np =>
            z _ _ (s1.trans (same_new np)) (.lst (upd_same) (p1.keep (same_new np)))⟩
      · cases h
    · rename_i es k p
      split at h
      · rename_i hl
        cases q : litsN (litN n) es with
        | none =>
          rw [q] at h
          cases h
        | some ds =>
          rw [q] at h
          cases h
          exact PE.le (pe_tup (lits_ok (lit_ok n) (fun _ _ _ => lit_star) es ds q)) fun σ H Q z vs H1 s1 p1 l1 => ⟨by rw [l1, litsN_len _ _ q]; exact small _ hl, fun p np =>
            z _ _ (s1.trans (same_new np)) (.tup (upd_same) (p1.keep (same_new np)))⟩
      · cases h
    · cases h
theorem pe_lit {X : Cx} (n : Nat) {e : Expr} {d : PyData} (h : litN n e = some d) : PE X e (tLit d) := lit_ok n e d h
end XV
set_option Elab.async false
set_option linter.all false
set_option maxRecDepth 100000
set_option maxHeartbeats 4000000
/-! raise C(e), C an error class with one field. -/
namespace XV
open PySem PySem.Spec PyProof.Rows L2
theorem XCls.binds {P : Program} {w : World} {K : PySem.W.Frag} {mg : Str → Option Value} {base : Heap} {nm fld : Str} {C fI : Addr} {fd : FuncData} (T : XCls P w K mg base nm fld C fI fd) : Binds K fd ["self", fld] [] := fun s us X hl => by
  rw [List.append_nil] at hl ⊢
  match us, hl with
  | [x, u], _ => exact T.b1 s x u X
/-- a reading that may be weakened -/
def tMono (te : TE) : TE := fun σ H Q => ∃ q : VK, te σ H q ∧ ∀ v H', q v H' → Q v H'
theorem pe_mono {X : Cx} {e : Expr} {te : TE} (he : PE X e te) : PE X e (tMono te) := ⟨fun pins s σ H Q I h => by
  obtain ⟨q, h, i⟩ := h
  exact thn (he.run pins s σ H q I h) fun u s1 ⟨v, H1, I1, r, z⟩ => ⟨v, H1, I1, r, i v H1 z⟩⟩
section
variable {X : Cx} {nm fld : Str} {C fI : Addr} {fd : FuncData} {e : Expr} {te : TE} {p pos pos2 : Pos}
theorem pmk_x (T : XCls X.prog X.w X.K X.mg X.base nm fld C fI fd) (hr : Room 2 X.A) (hg : Gl X nm) (he : PE X e te) (hdb : (nm == ("__debug__" : Str)) = false := by decide)
    (hs : starEach (e :: []) X.env = (false, eval e X.env) :: starEach [] X.env := by rfl) (hpl : (backTo pos (starEach [] X.env)).any (·.1) = false := by rfl) :
    PMk X (.Call (.Name nm p) [e] [] pos) (fun σ H Q => te σ H fun v H1 => ∀ d, H1 d = none → Q (.ref C) (some d) (upd H1 d (.xd [(fld, v)]))) := by
  have low := pmk_oex (X := X) (p := p) (pos := pos) T.ox T.iC T.tI T.ini hr T.binds .nil pass0 hg T.g (pa_cons (pe_mono he) pa_nil hs) hdb hs hpl
  intro pins s σ H Q I h
  refine low pins s σ H Q I ⟨_, h, fun v H1 q => ⟨(by show 1 ≤ 1000; decide), fun a na => ⟨a, v, rfl, upd_same, fun d nd ne => ⟨rfl, d, [(fld, v)], upd_same, ?_, ?_, ?_⟩⟩⟩⟩
  · rw [upd_ne ne, upd_same]
  · rw [upd_ne ne] at nd
    exact nd
  · rw [upd_ne ne] at nd
    have e1 : upd (del (upd (upd (upd H1 a (exo a C none)) d (exd d [(fld, v)])) a (exo a C (some d))) a) d (.xd [(fld, v)]) = upd H1 d (.xd [(fld, v)]) := by
      funext b
      by_cases q1 : b = d
      · rw [q1, upd_same, upd_same]
      · rw [upd_ne q1, upd_ne q1]
        by_cases q2 : b = a
        · rw [q2, del_same, na]
        · rw [del_ne q2, upd_ne q2, upd_ne q1, upd_ne q2]
    rw [e1]
    exact q d nd
theorem ps_raiseX {W : WX} (hc : X.calm = true) (T : XCls X.prog X.w X.K X.mg X.base nm fld C fI fd) (hr : Room 2 X.A) (tk : Takes X W) (hg : Gl X nm) (he : PE X e te) (hdb : (nm == ("__debug__" : Str)) = false := by decide)
    (hs : starEach (e :: []) X.env = (false, eval e X.env) :: starEach [] X.env := by rfl) (hpl : (backTo pos (starEach [] X.env)).any (·.1) = false := by rfl) :
    PS X (.Raise (some (.Call (.Name nm p) [e] [] pos)) none pos2) (fun _ σ H => te σ H fun v H1 => ∀ d, H1 d = none → W (.ref C) (some d) σ (upd H1 d (.xd [(fld, v)]))) :=
  ps_raise hc tk (pmk_x T hr hg he hdb hs hpl)
end
/-- the module's name x is a def that keeps sp and may raise -/
structure OkX (P : Program) (w : World) (K : PySem.W.Frag) (mg : Str → Option Value) (base : Heap) (x : Str) (k : Nat) (ps : List Str) (sp : Sp) : Prop where
  ex : ∃ f fd, FnOk P w K mg base (L2.CX P w) k f fd ps sp ∧ mg x = some (.ref f) ∧ PySem.W.keepIn K (.ref f) = true ∧ Binds K fd ps []
theorem OkX.mk' {P : Program} {w : World} {K : PySem.W.Frag} {mg : Str → Option Value} {base : Heap} {x : Str} {k : Nat} {ps : List Str} {sp : Sp} {body : List Stmt} {params : Arguments} {scope : Scope} {f : Addr} {fd : FuncData}
    (F : FunD K x x params body scope [] [] f fd) (g : mg x = some (.ref f)) (b : ∀ (kV doc pm : Value) (an : Option Addr) (cdv ct : Value) (us : List Value), us.length = ps.length → bindArgs (PySem.W.fnOf x x params body scope .none kV doc pm an cdv ct) ⟨us, []⟩ = pure (ps.zip us))
    (ok : FnOk P w K mg base (L2.CX P w) k f fd ps sp) : OkX P w K mg base x k ps sp := ⟨f, fd, ok, g, F.kp, F.bindsN b⟩
section
variable {X : Cx} {k : Nat} {ps : List Str} {sp : Sp} {x : Str} {e : Expr} {es : List Expr} {t : TA} {p pos : Pos} {E : XK} {W : WX}
/-- a call within a def that lets out what the callee lets out -/
theorem pe_callX (o : OkX X.prog X.w X.K X.mg X.base x k ps sp) (tk : Takes X fun cls d _ H => E cls d H) (hr : Room k X.A) (hg : Gl X x) (ha : PA X (e :: es) t) (hdb : (x == ("__debug__" : Str)) = false := by decide)
    (he : starEach (e :: es) X.env = (false, eval e X.env) :: starEach es X.env := by rfl) (hpl : (backTo pos (starEach es X.env)).any (·.1) = false := by rfl) :
    PE X (.Call (.Name x p) (e :: es) [] pos) (tCall sp [] E t) := by
  obtain ⟨f, fd, F, hm, hk, b⟩ := o.ex
  exact pe_call F hr hg hm hk b .nil (passes_call tk fun _ _ _ _ h => h) ha hdb he hpl
/-- a call within a try -/
theorem pe_callT (o : OkX X.prog X.w X.K X.mg X.base x k ps sp) (tk : Takes X W) (hr : Room k X.A) (hg : Gl X x) (ha : PA X (e :: es) t) (hdb : (x == ("__debug__" : Str)) = false := by decide)
    (he : starEach (e :: es) X.env = (false, eval e X.env) :: starEach es X.env := by rfl) (hpl : (backTo pos (starEach es X.env)).any (·.1) = false := by rfl) :
    PE X (.Call (.Name x p) (e :: es) [] pos) (tCallS sp (WE W) t) := by
  obtain ⟨f, fd, F, hm, hk, b⟩ := o.ex
  exact pe_callS F hr hg hm hk b (fun σ => passAt tk σ) ha hdb he hpl
end
end XV
set_option Elab.async false
set_option linter.all false
set_option maxRecDepth 100000
set_option maxHeartbeats 4000000
/-! f(k = v, ..), all by keywords, the names in the parameters' order turned round. -/
namespace XV
open PySem PySem.Spec PyProof.Rows L2
theorem vals_rev : ∀ {vs : List V} {us : List Value}, Vals vs us → Vals vs.reverse us.reverse
  | _, _, .nil => .nil
  | _, _, .cons r rr => by
    rw [List.reverse_cons, List.reverse_cons]
    exact (vals_rev rr).append (.cons r .nil)
structure OkK (P : Program) (w : World) (K : PySem.W.Frag) (mg : Str → Option Value) (base : Heap) (x : Str) (k : Nat) (ps : List Str) (sp : Sp) : Prop where
  ex : ∃ f fd, FnOk P w K mg base CX0 k f fd ps sp ∧ mg x = some (.ref f) ∧ PySem.W.keepIn K (.ref f) = true ∧ KBn K fd ps 0 ps.reverse (fun _ ws => ws.reverse) (fun _ zs => zs.reverse)
theorem OkK.mk' {P : Program} {w : World} {K : PySem.W.Frag} {mg : Str → Option Value} {base : Heap} {x : Str} {k : Nat} {ps : List Str} {sp : Sp} {body : List Stmt} {params : Arguments} {scope : Scope} {f : Addr} {fd : FuncData}
    (F : FunD K x x params body scope [] [] f fd) (g : mg x = some (.ref f)) (b : ∀ (kV doc pm : Value) (an : Option Addr) (cdv ct : Value) (ws : List Value), ws.length = ps.length → bindArgs (PySem.W.fnOf x x params body scope .none kV doc pm an cdv ct) ⟨[], ps.reverse.zip ws⟩ = pure (ps.zip ws.reverse))
    (ok : FnOk P w K mg base CX0 k f fd ps sp) : OkK P w K mg base x k ps sp := by
  refine ⟨f, fd, ok, g, F.kp, ⟨fun s us ws _ l1 l2 => ?_, fun _ r => vals_rev r⟩⟩
  obtain ⟨oc, od, dV, kV, doc, pm, an, cdv, ct, osl, rfl, lk, hcd, hD, hK⟩ := F.ex
  rcases hD with ⟨_, rfl⟩ | ⟨e, _⟩
  · obtain rfl := List.length_eq_zero_iff.mp l1
    exact .of_eq (b kV doc pm an cdv ct ws (by rw [l2, List.length_reverse]))
  · exact absurd rfl e
section
variable {X : Cx} {k : Nat} {ps : List Str} {sp : Sp} {x : Str} {kws : List Keyword} {tk : TA} {p pos : Pos}
theorem pe_callK (o : OkK X.prog X.w X.K X.mg X.base x k ps sp) (hr : Room k X.A) (hg : Gl X x) (hk : PK X kws tk) (hdb : (x == ("__debug__" : Str)) = false := by decide)
    (hall : (backToKw pos (keywordEach kws X.env)).all (·.1.isSome) = true := by rfl) (hks : (backToKw pos (keywordEach kws X.env)).filterMap (·.1) = ps.reverse := by rfl)
    (hpl : ((backTo pos (starEach [] X.env)).any (·.1) || (backToKw pos (keywordEach kws X.env)).any (·.1.isNone)) = false := by rfl) :
    PE X (.Call (.Name x p) [] kws pos) (fun σ H Q => tk σ H fun zs H1 => zs.length = ps.reverse.length ∧ sp zs.reverse H1 Q E0) := by
  obtain ⟨f, fd, F, hm, kp, B⟩ := o.ex
  refine ⟨fun pins s σ H Q I h => ?_⟩
  refine wpAny_Call_Name_kw (ld_glob I hg hm ?_ hdb)
  refine PySem.W.callWith_KW0 (h₀ := X.base) I.ok.mod.kin kp hall (thn (hk.run pos pins s σ H _ I h) fun ws s1 z => ?_) hpl
  obtain ⟨zs, H1, I1, r, l, q⟩ := z
  refine ⟨I1.kIn, ?_⟩
  rw [hks]
  exact run_fnN (us := []) (vs := []) F hr B pass0 I1 .nil r rfl l q
end
end XV
set_option Elab.async false
set_option linter.all false
set_option maxRecDepth 100000
set_option maxHeartbeats 4000000
/-! lcm; == by an own __eq__ of an instance with a dict, whatever stands on the right; defs that may raise where they don't; keywords in order; != of lists that end in the same object. -/
namespace XV
open PySem PySem.Spec PyProof.Rows L2
section
variable {X : Cx}
def rLcm : List V → Hp → VK → Prop := fun vs H Q => ∃ a b : Int, vs = [.int a, .int b] ∧ a.natAbs < 2 ^ 64 ∧ b.natAbs < 2 ^ 64 ∧ Q (.int ((Nat.lcm a.natAbs b.natAbs : Nat) : Int)) H
theorem cr_lcm : CallR X (.builtin "math.lcm") rLcm := by
  intro pins s σ H vs us Q I r h
  obtain ⟨a, b, rfl, ha, hb, q⟩ := h
  obtain ⟨t, u, rfl⟩ := Vals.int2 r
  exact PySem.W.mc_lcm ha hb fun _ => ⟨.int _, H, I.tok _, ⟨_, rfl⟩, q⟩
end
section
variable {X : Cx} {CX : CXT} {C g : Addr} {n : Nat} {fd : FuncData} {ps : List Str} {sp : Sp} {E : XK}
/-- x == y, x an instance of the class at C whose __eq__ is at g -/
def rOwnE (K : PySem.W.Frag) (C : Addr) (sp : Sp) (E : XK) : R2 := fun x y H Q => ∃ a dx fs t, x = .ref a ∧ H a = some (.ins C dx fs) ∧ TyX K H y t ∧ PySem.W.notFirst K C t = true ∧ sp [x, y] H Q E
theorem op_ownE (hs : PySem.W.findIn X.K (.ref C) "__eq__" = some (some (.ref g))) (hf : PySem.W.isFn X.K (.ref g) = true) (F : FnOk X.prog X.w X.K X.mg X.base CX n g fd ps sp) (hr : Room n X.A) (hb : Binds X.K fd ps []) (hx : Passes CX X E) :
    OpR X (compareOp .Eq) (rOwnE X.K C sp E) := by
  intro pins s σ H x y v u Q I rx ry h
  obtain ⟨a, dx, fs, t, rfl, ha, hy, hn, q⟩ := h
  cases (show v = Value.ref a from rx)
  obtain ⟨mA, J, _⟩ := ins_get I.hok ha
  obtain ⟨od, J, _⟩ := J.look
  obtain ⟨P, Z, p, _⟩ := kit_of I ry hy
  obtain ⟨m, hF⟩ := I.fr
  show wpAny (model X.prog X.w) X.A (richCompare .Eq (.ref a) u) (EP X pins σ Q) X.xe s
  refine PySem.W.cmp_K (op := .Eq) (tb := t) hr.units0 hF I.ok.mod.kin J (Z.ty _ _ I.kIn p) hn hs hf ?_
  refine wpAny_mono (run_fn (us := [.ref a, u]) (vs := [.ref a, y]) F hr hb .nil hx I (.cons rfl (.cons ry .nil)) (by rw [List.append_nil]; exact q)) (fun w s' z => ?_) fun _ _ x => x
  obtain ⟨z', H', I', rz, qz⟩ := z
  exact SlX.cmpback rz ⟨z', H', I', rz, qz⟩
end
/-- a def that may raise, where it doesn't -/
theorem FnOk.calm {P : Program} {w : World} {K : PySem.W.Frag} {mg : Str → Option Value} {base : Heap} {k : Nat} {f : Addr} {fd : FuncData} {ps : List Str} {sp : Sp} (F : FnOk P w K mg base (L2.CX P w) k f fd ps sp) :
    FnOk P w K mg base CX0 k f fd ps (fun vs H Q _ => sp vs H Q fun _ _ _ => False) :=
  ⟨fun vs H Q _ h => F.len vs H Q _ h, fun A outer s H args us vs Q E hr he hb hv hs => codeAny_mono (F.run A outer s H args us vs Q (fun _ _ _ => False) hr he hb hv hs) fun r s' h => by
    cases r with
    | error e =>
      obtain ⟨_, _, _, _, _, _, _, _, _, _, _, _, z⟩ := (show L2.CX P w outer H s (fun _ _ _ => False) e s' from h)
      exact z.elim
    | ok fl => cases fl <;> exact h⟩
abbrev cm (sp : Sp) : Sp := fun vs H Q _ => sp vs H Q fun _ _ _ => False
theorem OkX.calm {P : Program} {w : World} {K : PySem.W.Frag} {mg : Str → Option Value} {base : Heap} {x : Str} {k : Nat} {ps : List Str} {sp : Sp} (o : OkX P w K mg base x k ps sp) : Ok P w K mg base x k ps (cm sp) := by
  obtain ⟨f, fd, F, h1, h2, h3⟩ := o.ex
  exact ⟨f, fd, FnOk.calm F, h1, h2, h3⟩
/-! keywords in the parameters' order -/
structure OkF (P : Program) (w : World) (K : PySem.W.Frag) (mg : Str → Option Value) (base : Heap) (x : Str) (k : Nat) (ps : List Str) (sp : Sp) : Prop where
  ex : ∃ f fd, FnOk P w K mg base CX0 k f fd ps sp ∧ mg x = some (.ref f) ∧ PySem.W.keepIn K (.ref f) = true ∧ KBn K fd ps 0 ps (fun _ ws => ws) (fun _ zs => zs)
theorem OkF.mk' {P : Program} {w : World} {K : PySem.W.Frag} {mg : Str → Option Value} {base : Heap} {x : Str} {k : Nat} {ps : List Str} {sp : Sp} {body : List Stmt} {params : Arguments} {scope : Scope} {f : Addr} {fd : FuncData}
    (F : FunD K x x params body scope [] [] f fd) (g : mg x = some (.ref f)) (b : ∀ (kV doc pm : Value) (an : Option Addr) (cdv ct : Value) (ws : List Value), ws.length = ps.length → bindArgs (PySem.W.fnOf x x params body scope .none kV doc pm an cdv ct) ⟨[], ps.zip ws⟩ = pure (ps.zip ws))
    (ok : FnOk P w K mg base CX0 k f fd ps sp) : OkF P w K mg base x k ps sp := by
  refine ⟨f, fd, ok, g, F.kp, ⟨fun s us ws _ l1 l2 => ?_, fun _ r => r⟩⟩
  obtain ⟨oc, od, dV, kV, doc, pm, an, cdv, ct, osl, rfl, lk, hcd, hD, hK⟩ := F.ex
  rcases hD with ⟨_, rfl⟩ | ⟨e, _⟩
  · obtain rfl := List.length_eq_zero_iff.mp l1
    exact .of_eq (b kV doc pm an cdv ct ws l2)
  · exact absurd rfl e
section
variable {X : Cx} {k : Nat} {ps : List Str} {sp : Sp} {x : Str} {kws : List Keyword} {tk : TA} {p pos : Pos}
theorem pe_callF (o : OkF X.prog X.w X.K X.mg X.base x k ps sp) (hr : Room k X.A) (hg : Gl X x) (hk : PK X kws tk) (hdb : (x == ("__debug__" : Str)) = false := by decide)
    (hall : (backToKw pos (keywordEach kws X.env)).all (·.1.isSome) = true := by rfl) (hks : (backToKw pos (keywordEach kws X.env)).filterMap (·.1) = ps := by rfl)
    (hpl : ((backTo pos (starEach [] X.env)).any (·.1) || (backToKw pos (keywordEach kws X.env)).any (·.1.isNone)) = false := by rfl) :
    PE X (.Call (.Name x p) [] kws pos) (fun σ H Q => tk σ H fun zs H1 => zs.length = ps.length ∧ sp zs H1 Q E0) := by
  obtain ⟨f, fd, F, hm, kp, B⟩ := o.ex
  refine ⟨fun pins s σ H Q I h => ?_⟩
  refine wpAny_Call_Name_kw (ld_glob I hg hm ?_ hdb)
  refine PySem.W.callWith_KW0 (h₀ := X.base) I.ok.mod.kin kp hall (thn (hk.run pos pins s σ H _ I h) fun ws s1 z => ?_) hpl
  obtain ⟨zs, H1, I1, r, l, q⟩ := z
  refine ⟨I1.kIn, ?_⟩
  rw [hks]
  exact run_fnN (us := []) (vs := []) F hr B pass0 I1 .nil r rfl l q
end
section
variable {X : Cx}
/-- [v, g] != [w, g], g the same object -/
def rNeI (K : PySem.W.Frag) : R2 := fun x y H Q => ∃ (a b : Addr) (v w z : V) (d e : PyData), x = .ref a ∧ y = .ref b ∧ H a = some (.lst [v, z]) ∧ H b = some (.lst [w, z]) ∧ (∃ g, z = .ref g) ∧ Dp K H v d ∧ Dp K H w e ∧ SeqAt.shaped d = true ∧ SeqAt.shaped e = true ∧ Q (.bl (!(PyData.eqv d e))) H
theorem op_neI (hu : X.A.units + 66 < cLine) : OpR X (compareOp .NotEq) (rNeI X.K) := by
  intro pins s σ H x y v u Q I rx ry h
  obtain ⟨a, b, v1, w1, z, d, e, rfl, rfl, ha, hb, ⟨g, rfl⟩, hd, he, sd, se, q⟩ := h
  cases (show v = Value.ref a from rx)
  cases (show u = Value.ref b from ry)
  obtain ⟨_, its, n, r, h1⟩ := (show ObjOk X.prog X.w H s.heap a (.lst [v1, .ref g]) from I.hok a _ ha)
  obtain ⟨_, its2, n2, r2, h2⟩ := (show ObjOk X.prog X.w H s.heap b (.lst [w1, .ref g]) from I.hok b _ hb)
  obtain ⟨u1, u2, rfl, rv, rg⟩ := vals2 r
  obtain ⟨u3, u4, rfl, rw1, rg2⟩ := vals2 r2
  cases (show u2 = Value.ref g from rg)
  cases (show u4 = Value.ref g from rg2)
  obtain ⟨as, r3⟩ := Dp.reads I d v1 u1 hd rv
  obtain ⟨bs, r4⟩ := Dp.reads I e w1 u3 he rw1
  have hl : s.heap.IsList a ([u1, Value.ref g].toArray) := ⟨_, h1, rfl, _, rfl⟩
  have hl2 : s.heap.IsList b ([u3, Value.ref g].toArray) := ⟨_, h2, rfl, _, rfl⟩
  have key := SeqAt.RcNeAt.lists (A := X.A) (e := fun j => if j = 0 then PyData.eqv d e else true) hl hl2 rfl (by omega) (fun j j1 j2 => by
    match j, j1, j2 with
    | 0, _, _ =>
      refine SeqAt.eqAt_reads d e X.A.in1 s u1 u3 as bs r3 r4 (SeqAt.canLay_of_shaped sd) (SeqAt.canLay_of_shaped se) (SeqAt.room_of_shaped sd ?_)
      show X.A.units + 1 + 64 < cLine
      omega
    | 1, _, _ => exact SeqAt.EqAt.same _
    | j + 2, j1, _ => exact absurd j1 (by show ¬ (j + 2 < 2); omega))
  show wpAny (model X.prog X.w) X.A (richCompare .NotEq (.ref a) (.ref b)) (EP X pins σ Q) X.xe s
  have e1 : (!(List.range ([u1, Value.ref g].toArray).size).all fun j => if j = 0 then PyData.eqv d e else true) = !(PyData.eqv d e) := by
    show (!((if (0 : Nat) = 0 then PyData.eqv d e else true) && ((if (1 : Nat) = 0 then PyData.eqv d e else true) && true))) = _
    rw [if_pos rfl, if_neg (by decide)]
    cases PyData.eqv d e <;> rfl
  rw [e1] at key
  exact key X.prog X.w _ _ ⟨.bl _, H, I, rfl, q⟩
end
end XV
set_option Elab.async false
set_option linter.all false
set_option maxRecDepth 100000
set_option maxHeartbeats 4000000
namespace K4
open PySem PySem.Spec PyProof.Rows L2 XV NP
abbrev sLetters : Stmt := top 16
abbrev sRoot : Stmt := top 27
abbrev sCommon : Stmt := top 28
abbrev sTurned : Stmt := top 29
theorem scLetters : FnScope ["value"] ["value"] (defScope sLetters) := ⟨rfl, rfl, rfl, by decide +kernel, rfl, by decide +kernel, by decide +kernel⟩
theorem scRoot : FnScope ["word"] ["word"] (defScope sRoot) := ⟨rfl, rfl, rfl, by decide +kernel, rfl, by decide +kernel, by decide +kernel⟩
theorem scCommon : FnScope ["text", "word", "same"] ["text", "word"] (defScope sCommon) := ⟨rfl, rfl, rfl, by decide +kernel, rfl, by decide +kernel, by decide +kernel⟩
theorem scTurned : FnScope ["word", "letters", "middle"] ["word", "letters"] (defScope sTurned) := ⟨rfl, rfl, rfl, by decide +kernel, rfl, by decide +kernel, by decide +kernel⟩
/-- a word of a and b -/
def AB (z : Str) : Prop := ∀ c ∈ cs z, c = 97 ∨ c = 98
theorem arr_all (z : Str) (p : Nat → Bool) : z.cps.all p = (cs z).all p := by simp [cs]
theorem arr_any (z : Str) (p : Nat → Bool) : z.cps.any p = (cs z).any p := by simp [cs]
theorem ab_all {z : Str} (h : AB z) {p : Nat → Bool} (h1 : p 97 = true) (h2 : p 98 = true) : z.cps.all p = true := by
  rw [arr_all, List.all_eq_true]
  intro c hc
  rcases h c hc with rfl | rfl
  · exact h1
  · exact h2
theorem ab_any {z : Str} (h : AB z) {p : Nat → Bool} (h1 : p 97 = false) (h2 : p 98 = false) : z.cps.any p = false := by
  rw [arr_any, List.any_eq_false]
  intro c hc
  rcases h c hc with rfl | rfl
  · rw [h1]; decide
  · rw [h2]; decide
theorem ab_ascii {z : Str} (h : AB z) : Txt.isascii z = true := ab_all h (by decide) (by decide)
theorem ab_alpha {z : Str} (h : AB z) (n : cs z ≠ []) : Txt.isalpha z = true := by
  unfold Txt.isalpha
  have l : 0 < z.length := by
    rw [cs_len]
    exact List.length_pos_iff.mpr n
  rw [ab_all h (by decide +kernel) (by decide +kernel), Bool.and_true]
  exact decide_eq_true l
theorem ab_lower {z : Str} (h : AB z) (n : cs z ≠ []) : Txt.islower z = true := by
  unfold Txt.islower
  rw [ab_any h (p := fun c => Unicode.isUpper c || Unicode.isTitle c) (by decide +kernel) (by decide +kernel)]
  have e : z.cps.any Unicode.isLower = true := by
    rw [arr_any, List.any_eq_true]
    obtain ⟨c, r, hc⟩ := List.exists_cons_of_ne_nil n
    refine ⟨c, by rw [hc]; exact List.mem_cons_self, ?_⟩
    rcases h c (by rw [hc]; exact List.mem_cons_self) with rfl | rfl <;> decide +kernel
  rw [e]
  rfl
theorem cs_nil {z : Str} (h : cs z = []) : z = "" := cs_ext (h.trans (by decide +kernel))
theorem cut_to (z : Str) (p : Nat) (h : p ≤ (cs z).length) : cs (cutS z none (some (p : Int))) = (cs z).take p := by
  show ((z.cps.toList.drop (HT.sIx z.length 0 none)).take (HT.sIx z.length z.length (some (p : Int)) - HT.sIx z.length 0 none)) = _
  rw [HT.sIx_none, HT.sIx_nat, cs_len, Nat.min_eq_left h, Nat.sub_zero, List.drop_zero]
theorem cut_from (z : Str) (p : Nat) (h : p ≤ (cs z).length) : cs (cutS z (some (p : Int)) none) = (cs z).drop p := by
  show ((z.cps.toList.drop (HT.sIx z.length 0 (some (p : Int)))).take (HT.sIx z.length z.length none - HT.sIx z.length 0 (some (p : Int)))) = _
  rw [HT.sIx_none, HT.sIx_nat, cs_len, Nat.min_eq_left h]
  exact List.take_of_length_le (by rw [List.length_drop]; exact Nat.le_refl _)
def spLetters : Sp := fun vs H Q _ => ∃ z : Str, vs = [.str z] ∧ AB z ∧ Q (.bl true) H
def spRoot : Sp := fun vs H Q _ => ∃ w : Str, vs = [.str w] ∧ cs w ≠ [] ∧ (cs w).length ≤ 100000 ∧ ∀ (r : Str) (n : Nat), 0 < (cs r).length → (cs w).length = n * (cs r).length → cs w = pw (cs r) n → Q (.str r) H
def spCommon : Sp := fun vs H Q _ => ∃ u w : Str, vs = [.str u, .str w] ∧ cs w ≠ [] ∧ (cs w).length ≤ 100000 ∧ (cs u).length ≤ 100000 ∧ ∀ same : Nat, same ≤ (cs u).length →
  (∀ i, i < same → (cs u)[(cs u).length - 1 - i]? = (cs w)[(cs w).length - 1 - i % (cs w).length]?) → Q (.int (same : Int)) H
def spTurned : Sp := fun vs H Q _ => ∃ (w : Str) (e : Nat), vs = [.str w, .int e] ∧ cs w ≠ [] ∧ (cs w).length ≤ 100000 ∧ ∀ r : Str, cs r = turnW (cs w) (e % (cs w).length) → Q (.str r) H
theorem sz5 {n : Nat} (h : n ≤ 200000) : n ≤ sizeLine := by
  rw [sizeLine_eq]
  omega
theorem at_back {xs : List Nat} {i : Nat} (h : i < xs.length) : atI xs (-1 - (i : Int)) = xs[xs.length - 1 - i]? := by
  unfold atI ixN
  rw [if_neg (by omega), if_pos (by omega)]
  show xs[(-1 - (i : Int) + (xs.length : Int)).toNat]? = _
  congr 1
  omega
section
variable {P : Program} {w : World} {K : PySem.W.Frag} {mg : Str → Option Value} {base : Heap} {f : Addr} {fd : FuncData}
theorem ok_letters (F : FnP K "is_string_of_letters" sLetters f fd) (z_isinstance : mg "isinstance" = none) (z_str : mg "str" = none) : FnOk P w K mg base CX0 1 f fd ["value"] spLetters := by
  refine F.ok scLetters (fun vs H Q E h => ?_) (fun cdv A outer s H vs Q E hr h => ?_)
  · obtain ⟨z, rfl, _⟩ := h
    rfl
  · obtain ⟨z, rfl, hz, q⟩ := h
    refine ⟨_, PSs.nox (pss_cons (ps_if (pt_not (pt_val (pe_callB call_isi (by rfl) z_isinstance (by decide +kernel) (pa_cons (pv 0) (pa_cons (pe_bltn (v := .ty "str") (by rfl) z_str (by decide +kernel) rfl) pa_nil))))) (pss_one (ps_ret pe_bl)) pss_nil)
 (pss_one (ps_ret (pe_or (pe_cmpR op_eq (pv 0) pe_str (nomark _)) (pe_one (pe_and (pe_m0 PySem.F.slot_str_isascii PySem.F.type_str_isascii mt_isascii (pv 0)) (pe_and (pe_m0 PySem.F.slot_str_isalpha PySem.F.type_str_isalpha mt_isalpha (pv 0)) (pe_one (pe_m0 PySem.F.slot_str_islower PySem.F.type_str_islower mt_islower (pv 0)))))))))), ?_⟩
    refine ⟨_, rfl, _, _, _, _, true, rfl, .ty "str", .base (.str z), kit_ty (by decide +kernel), true, rfl, iteF ⟨_, rfl, rfl, decide (V.str z = V.str ""), rfl, ?_⟩⟩
    by_cases e : cs z = []
    · have e2 := cs_nil e
      subst e2
      rw [decide_eq_true rfl]
      exact iteT q
    · have ne : ¬ V.str z = V.str "" := fun x => e (by
        have := V.str.inj x
        subst this
        decide +kernel)
      rw [decide_eq_false ne]
      refine iteF ⟨_, rfl, ⟨_, rfl⟩, _, rfl, rfl, trivial, true, congrArg V.bl (ab_ascii hz), iteT ?_⟩
      refine ⟨_, rfl, ⟨_, rfl⟩, _, rfl, rfl, trivial, true, congrArg V.bl (ab_alpha hz e), iteT ?_⟩
      refine ⟨_, rfl, ⟨_, rfl⟩, _, rfl, rfl, trivial, ?_⟩
      show Q (.bl (Txt.islower z)) H
      rw [ab_lower hz e]
      exact q
theorem ok_root (F : FnP K "root_of" sRoot f fd) : FnOk P w K mg base CX0 1 f fd ["word"] spRoot := by
  refine F.ok scRoot (fun vs H Q E h => ?_) (fun cdv A outer s H vs Q E hr h => ?_)
  · obtain ⟨w, rfl, _⟩ := h
    rfl
  · obtain ⟨w0, rfl, hw, hl, q⟩ := h
    refine ⟨_, PSs.nox (pss_one (ps_ret (pe_slice sl_str (pv 0) po_none (po_some (pe_bm PySem.F.plainAttrs_str PySem.F.slot_str_find PySem.F.type_str_find mt_find3 (pe_op op_add_str (pv 0) (pv 0)) (pa_cons (pv 0) (pa_cons pe_int pa_nil))))))), ?_⟩
    obtain ⟨p, ep, p1, p2, hat, least⟩ := root_find hw
    obtain ⟨g1, g2⟩ := root_power p1 p2 hat least
    refine ⟨_, rfl, _, rfl, _, rfl, _, _, rfl, rfl, ?_, rfl, _, rfl, _, _, _, rfl, rfl, (p : Int), congrArg V.int ep, _, rfl, ?_, ?_⟩
    · rw [cs_len]
      have := sz5 (n := (cs w0).length + (cs w0).length) (by omega)
      omega
    · rw [cs_len]
      exact sz5 (by omega)
    · have ec := cut_to w0 p p2
      have lc : (cs (cutS w0 none (some (p : Int)))).length = p := by rw [ec, List.length_take]; omega
      exact q _ ((cs w0).length / p) (by omega) (by rw [lc]; exact g1) (by rw [ec]; exact g2)
theorem ok_common (F : FnP K "common_end" sCommon f fd) (z_len : mg "len" = none) : FnOk P w K mg base CX0 1 f fd ["text", "word"] spCommon := by
  have nd := scCommon.nd
  refine F.ok scCommon (fun vs H Q E h => ?_) (fun cdv A outer s H vs Q E hr h => ?_)
  · obtain ⟨u, w, rfl, _⟩ := h
    rfl
  · obtain ⟨u, w0, rfl, hw, hl, hlu, q⟩ := h
    have n0 : 0 < (cs w0).length := List.length_pos_iff.mpr hw
    refine ⟨_, PSs.nox (pss_cons (ps_set (i := 2) nd rfl (Or.inl rfl) pe_int)
 (pss_cons (ps_while PassesOwn.never (PW.pt (pw_and (pt_cmpR op_lt (pv 2) (pe_callB call_len (by rfl) z_len boot_len (pa_cons (pv 0) pa_nil)) (nomark _)) (pw_and1 (pt_cmpR op_eq (pe_ix ix_str (pv 0) (pe_op op_sub (pe_un un_neg pe_int) (pv 2)) (fun _ _ => rfl)) (pe_ix ix_str (pv 1) (pe_op op_sub (pe_un un_neg pe_int) (pe_op op_mod (pv 2) (pe_callB call_len (by rfl) z_len boot_len (pa_cons (pv 1) pa_nil)))) (fun _ _ => rfl)) (nomark _))))) (pss_one (ps_aug (i := 2) nd rfl (Or.inl rfl) pe_int ip_add)))
 (pss_one (ps_ret (pv 2))))), ?_⟩
    refine ⟨fun m σ H' => H' = H ∧ ∃ same : Nat, m + same = (cs u).length ∧ σ = [some (.str u), some (.str w0), some (.int (same : Int))] ∧ ∀ i, i < same → (cs u)[(cs u).length - 1 - i]? = (cs w0)[(cs w0).length - 1 - i % (cs w0).length]?, ⟨(cs u).length, rfl, 0, by omega, rfl, fun i h => absurd h (by omega)⟩, ?_⟩
    rintro m σ H' ⟨rfl, same, em, rfl, hs⟩
    refine ⟨_, rfl, _, rfl, _, (cs u).length, rfl, ⟨by rw [cs_len]; exact sz5 (by omega), cs_len u⟩, _, _, rfl, rfl, _, rfl, ite2 (fun c => ?_) (fun c => ?_)⟩
    · have c : same < (cs u).length := by
        have := of_decide_eq_true c
        omega
      have cu : ((cs u).length - 1 - same) < (cs u).length := by omega
      have gu : (cs u)[(cs u).length - 1 - same]? = some (cs u)[(cs u).length - 1 - same] := List.getElem?_eq_getElem cu
      have hm := Nat.mod_lt same n0
      have cw : (cs w0).length - 1 - same % (cs w0).length < (cs w0).length := by omega
      have gw : (cs w0)[(cs w0).length - 1 - same % (cs w0).length]? = some (cs w0)[(cs w0).length - 1 - same % (cs w0).length] := List.getElem?_eq_getElem cw
      generalize (cs u)[(cs u).length - 1 - same] = a at gu
      generalize (cs w0)[(cs w0).length - 1 - same % (cs w0).length] = b at gw
      refine ⟨_, rfl, _, rfl, _, rfl, _, _, rfl, rfl, u, _, a, rfl, rfl, by rw [cs_len]; exact sz5 (by omega), (at_back c).trans gu, ?_⟩
      refine ⟨_, rfl, _, rfl, _, rfl, _, rfl, _, (cs w0).length, rfl, ⟨by rw [cs_len]; exact sz5 (by omega), cs_len w0⟩, _, _, rfl, rfl, (by show (0 : Int) < ((cs w0).length : Int); omega), _, _, rfl, rfl, w0, _, b, rfl, rfl, by rw [cs_len]; exact sz5 (by omega), (at_back (i := same % (cs w0).length) (by omega)).trans gw, ?_⟩
      refine ⟨rfl, _, rfl, ite2 (fun y => ?_) (fun y => ?_)⟩
      · have eab : a = b := by
          have := V.str.inj (of_decide_eq_true y)
          exact (by simpa using congrArg cs this)
        subst eab
        refine ⟨fun σ' H1 => H1 = H' ∧ σ' = [some (.str u), some (.str w0), some (.int ((same + 1 : Nat) : Int))], fun σ' H1 z => ⟨m - 1, by omega, z.1, same + 1, by omega, z.2, fun i hi => ?_⟩, _, rfl, _, _, rfl, rfl, rfl, rfl⟩
        by_cases e : i < same
        · exact hs i e
        · obtain rfl : i = same := by omega
          exact gu.trans gw.symm
      · exact ⟨_, rfl, q same (by omega) hs⟩
    · exact iteF ⟨_, rfl, q same (by omega) hs⟩
theorem ok_turned (F : FnP K "turned" sTurned f fd) (z_len : mg "len" = none) : FnOk P w K mg base CX0 1 f fd ["word", "letters"] spTurned := by
  have nd := scTurned.nd
  refine F.ok scTurned (fun vs H Q E h => ?_) (fun cdv A outer s H vs Q E hr h => ?_)
  · obtain ⟨w, e, rfl, _⟩ := h
    rfl
  · obtain ⟨w0, e, rfl, hw, hl, q⟩ := h
    have n0 : 0 < (cs w0).length := List.length_pos_iff.mpr hw
    refine ⟨_, PSs.nox (pss_cons (ps_set (i := 2) nd rfl (Or.inl rfl) (pe_op op_sub (pe_callB call_len (by rfl) z_len boot_len (pa_cons (pv 0) pa_nil)) (pe_op op_mod (pv 1) (pe_callB call_len (by rfl) z_len boot_len (pa_cons (pv 0) pa_nil)))))
 (pss_one (ps_ret (pe_op op_add_str (pe_slice sl_str (pv 0) (po_some (pv 2)) po_none) (pe_slice sl_str (pv 0) po_none (po_some (pv 2))))))), ?_⟩
    have lz : w0.length ≤ sizeLine := by
      rw [cs_len]
      exact sz5 (by omega)
    have hm := Nat.mod_lt e n0
    have em : ((cs w0).length : Int) - (e : Int) % ((cs w0).length : Int) = (((cs w0).length - e % (cs w0).length : Nat) : Int) := by omega
    refine ⟨_, rfl, _, (cs w0).length, rfl, ⟨lz, cs_len w0⟩, _, rfl, _, rfl, _, (cs w0).length, rfl, ⟨lz, cs_len w0⟩, _, _, rfl, rfl, (by show (0 : Int) < ((cs w0).length : Int); omega), _, _, rfl, rfl, ?_⟩
    refine ⟨_, rfl, _, rfl, _, rfl, _, rfl, lz, _, rfl, _, rfl, _, rfl, _, rfl, lz, _, _, rfl, rfl, ?_, ?_⟩
    · show (cutS w0 (some (((cs w0).length : Int) - (e : Int) % ((cs w0).length : Int))) none).length + (cutS w0 none (some (((cs w0).length : Int) - (e : Int) % ((cs w0).length : Int)))).length ≤ sizeLine
      rw [em, cs_len, cs_len, cut_from _ _ (by omega), cut_to _ _ (by omega), List.length_drop, List.length_take]
      exact sz5 (by omega)
    · refine q _ ?_
      show cs (cutS w0 (some (((cs w0).length : Int) - (e : Int) % ((cs w0).length : Int))) none ++ cutS w0 none (some (((cs w0).length : Int) - (e : Int) % ((cs w0).length : Int)))) = _
      rw [em, cs_app, cut_from _ _ (by omega), cut_to _ _ (by omega)]
      rfl
end
end K4
set_option Elab.async false
set_option linter.all false
set_option maxRecDepth 100000
set_option maxHeartbeats 4000000
namespace K4
open PySem PySem.Spec PyProof.Rows L2 XV
abbrev sWhole : Stmt := top 12
abbrev sCount : Stmt := top 13
abbrev sBelow : Stmt := top 14
abbrev sIsPoint : Stmt := top 18
abbrev sHasForm : Stmt := top 20
theorem scWhole : FnScope ["value"] ["value"] (defScope sWhole) := ⟨rfl, rfl, rfl, by decide +kernel, rfl, by decide +kernel, by decide +kernel⟩
theorem scCount : FnScope ["value"] ["value"] (defScope sCount) := ⟨rfl, rfl, rfl, by decide +kernel, rfl, by decide +kernel, by decide +kernel⟩
theorem scBelow : FnScope ["bound", "value"] ["bound", "value"] (defScope sBelow) := ⟨rfl, rfl, rfl, by decide +kernel, rfl, by decide +kernel, by decide +kernel⟩
theorem scIsPoint : FnScope ["many", "value", "number"] ["many", "value"] (defScope sIsPoint) := ⟨rfl, rfl, rfl, by decide +kernel, rfl, by decide +kernel, by decide +kernel⟩
theorem scHasForm : FnScope ["many", "item", "number"] ["many", "item"] (defScope sHasForm) := ⟨rfl, rfl, rfl, by decide +kernel, rfl, by decide +kernel, by decide +kernel⟩
/-- a value whose kind is known -/
inductive Kn (H : Hp) : V → Prop
  | int (i : Int) : Kn H (.int i)
  | non : Kn H .non
  | bl (b : Bool) : Kn H (.bl b)
  | str (z : Str) : Kn H (.str z)
  | lst {a : Addr} {xs : List V} (h : H a = some (.lst xs)) : Kn H (.ref a)
  | tup {a : Addr} {xs : List V} (h : H a = some (.tup xs)) : Kn H (.ref a)
theorem Kn.keep {H H' : Hp} (s : Same H H') {v : V} (h : Kn H v) : Kn H' v := by
  cases h with
  | int i => exact .int i
  | non => exact .non
  | bl b => exact .bl b
  | str z => exact .str z
  | lst h => exact .lst (s _ _ h)
  | tup h => exact .tup (s _ _ h)
/-- a whole number, a count -/
def whV : V → Bool
  | .int _ => true
  | _ => false
def cntV : V → Bool
  | .int i => decide (0 ≤ i)
  | _ => false
def belV (b : Int) : V → Bool
  | .int i => decide (0 ≤ i) && decide (i < b)
  | _ => false
def spWhole : Sp := fun vs H Q _ => ∃ v, vs = [v] ∧ Kn H v ∧ Q (.bl (whV v)) H
def spCount : Sp := fun vs H Q _ => ∃ v, vs = [v] ∧ Kn H v ∧ Q (.bl (cntV v)) H
def spBelow : Sp := fun vs H Q _ => ∃ b v, vs = [.int b, v] ∧ Kn H v ∧ Q (.bl (belV b v)) H
section
variable {P : Program} {w : World} {K : PySem.W.Frag} {mg : Str → Option Value} {base : Heap} {f : Addr} {fd : FuncData}
theorem ok_whole (F : FnP K "is_whole" sWhole f fd) (z_isinstance : mg "isinstance" = none) (z_int : mg "int" = none) (z_bool : mg "bool" = none) : FnOk P w K mg base CX0 1 f fd ["value"] spWhole := by
  refine F.ok scWhole (fun vs H Q E h => ?_) (fun cdv A outer s H vs Q E hr h => ?_)
  · obtain ⟨v, rfl, _⟩ := h
    rfl
  · obtain ⟨v, rfl, kv, q⟩ := h
    refine ⟨_, PSs.nox (pss_one (ps_ret (pe_and (pe_callB call_isi (by rfl) z_isinstance (by decide +kernel) (pa_cons (pv 0) (pa_cons (pe_bltn (v := .ty "int") (by rfl) z_int (by decide +kernel) rfl) pa_nil))) (pe_one (pe_not (pe_callB call_isi (by rfl) z_isinstance (by decide +kernel) (pa_cons (pv 0) (pa_cons (pe_bltn (v := .ty "bool") (by rfl) z_bool (by decide +kernel) rfl) pa_nil)))))))), ?_⟩
    cases kv with
    | int i => exact ⟨_, rfl, _, _, _, _, true, rfl, .ty "int", .base (.int i), kit_ty (by decide +kernel), true, rfl, _, rfl, _, _, _, _, false, rfl, .ty "bool", .base (.int i), kit_ty (by decide +kernel), false, rfl, q⟩
    | bl b => exact ⟨_, rfl, _, _, _, _, true, rfl, .ty "int", .base (.bl b), kit_ty (by decide +kernel), true, rfl, _, rfl, _, _, _, _, true, rfl, .ty "bool", .base (.bl b), kit_ty (by decide +kernel), true, rfl, q⟩
    | non => exact ⟨_, rfl, _, _, _, _, false, rfl, .ty "int", .base .non, kit_ty (by decide +kernel), false, rfl, iteF q⟩
    | str z => exact ⟨_, rfl, _, _, _, _, false, rfl, .ty "int", .base (.str z), kit_ty (by decide +kernel), false, rfl, iteF q⟩
    | lst h => exact ⟨_, rfl, _, _, _, _, false, rfl, .ty "int", .base (.lst h), kit_ty (by decide +kernel), false, rfl, iteF q⟩
    | tup h => exact ⟨_, rfl, _, _, _, _, false, rfl, .ty "int", .base (.tup h), kit_ty (by decide +kernel), false, rfl, iteF q⟩
theorem ok_count (F : FnP K "is_count" sCount f fd) (o_is_whole : Ok P w K mg base "is_whole" 1 ["value"] spWhole) : FnOk P w K mg base CX0 2 f fd ["value"] spCount := by
  refine F.ok scCount (fun vs H Q E h => ?_) (fun cdv A outer s H vs Q E hr h => ?_)
  · obtain ⟨v, rfl, _⟩ := h
    rfl
  · obtain ⟨v, rfl, kv, q⟩ := h
    refine ⟨_, PSs.nox (pss_one (ps_ret (pe_and (pe_callO o_is_whole (hr.mono (by decide)) (by rfl) (pa_cons (pv 0) pa_nil)) (pe_one (pe_cmpR op_ge (pv 0) pe_int (nomark _)))))), ?_⟩
    have k2 := kv
    cases kv with
    | int i => exact ⟨_, rfl, _, rfl, k2, true, rfl, _, rfl, _, _, rfl, rfl, q⟩
    | bl b => exact ⟨_, rfl, _, rfl, k2, false, rfl, iteF q⟩
    | non => exact ⟨_, rfl, _, rfl, k2, false, rfl, iteF q⟩
    | str z => exact ⟨_, rfl, _, rfl, k2, false, rfl, iteF q⟩
    | lst h => exact ⟨_, rfl, _, rfl, k2, false, rfl, iteF q⟩
    | tup h => exact ⟨_, rfl, _, rfl, k2, false, rfl, iteF q⟩
theorem ok_below (F : FnP K "is_count_below" sBelow f fd) (o_is_count : Ok P w K mg base "is_count" 2 ["value"] spCount) : FnOk P w K mg base CX0 3 f fd ["bound", "value"] spBelow := by
  refine F.ok scBelow (fun vs H Q E h => ?_) (fun cdv A outer s H vs Q E hr h => ?_)
  · obtain ⟨b, v, rfl, _⟩ := h
    rfl
  · obtain ⟨b, v, rfl, kv, q⟩ := h
    refine ⟨_, PSs.nox (pss_one (ps_ret (pe_and (pe_callO o_is_count (hr.mono (by decide)) (by rfl) (pa_cons (pv 1) pa_nil)) (pe_one (pe_cmpR op_lt (pv 1) (pv 0) (nomark _)))))), ?_⟩
    have k2 := kv
    cases kv with
    | int i =>
      refine ⟨_, rfl, _, rfl, k2, _, rfl, ?_⟩
      by_cases c : 0 ≤ i
      · have e : cntV (.int i) = true := decide_eq_true c
        rw [e]
        have e2 : belV b (.int i) = decide (i < b) := by
          show (decide (0 ≤ i) && decide (i < b)) = _
          rw [decide_eq_true c]
          rfl
        rw [e2] at q
        exact iteT ⟨_, rfl, _, rfl, _, _, rfl, rfl, q⟩
      · have e : cntV (.int i) = false := decide_eq_false c
        rw [e]
        have e2 : belV b (.int i) = false := by
          show (decide (0 ≤ i) && decide (i < b)) = _
          rw [decide_eq_false c]
          rfl
        rw [e2] at q
        exact iteF q
    | bl z => exact ⟨_, rfl, _, rfl, k2, false, rfl, iteF q⟩
    | non => exact ⟨_, rfl, _, rfl, k2, false, rfl, iteF q⟩
    | str z => exact ⟨_, rfl, _, rfl, k2, false, rfl, iteF q⟩
    | lst h => exact ⟨_, rfl, _, rfl, k2, false, rfl, iteF q⟩
    | tup h => exact ⟨_, rfl, _, rfl, k2, false, rfl, iteF q⟩
end
end K4
set_option Elab.async false
set_option linter.all false
set_option maxRecDepth 100000
set_option maxHeartbeats 4000000
namespace K4
open PySem PySem.Spec PyProof.Rows L2 XV
abbrev sFormValue : Stmt := top 21
abbrev sTimes : Stmt := top 23
theorem scFormValue : FnScope ["form", "point", "number", "count"] ["form", "point"] (defScope sFormValue) := ⟨rfl, rfl, rfl, by decide +kernel, rfl, by decide +kernel, by decide +kernel⟩
theorem scTimes : FnScope ["form", "times", "number"] ["form", "times"] (defScope sTimes) := ⟨rfl, rfl, rfl, by decide +kernel, rfl, by decide +kernel, by decide +kernel⟩
/-- a count of at most k binary digits -/
def Sz (k : Nat) (x : Int) : Prop := 0 ≤ x ∧ x < 2 ^ k
theorem Sz.log {k : Nat} {x : Int} (h : Sz k x) : x.natAbs.log2 ≤ k := by
  obtain ⟨h0, h1⟩ := h
  by_cases z : x.natAbs = 0
  · rw [z]
    exact Nat.zero_le _
  · have l : x.natAbs < 2 ^ k := by
      have e : ((x.natAbs : Nat) : Int) = x := Int.natAbs_of_nonneg h0
      have e2 : ((x.natAbs : Nat) : Int) < ((2 ^ k : Nat) : Int) := by
        rw [e, Int.natCast_pow]
        exact h1
      exact Int.ofNat_lt.mp e2
    exact Nat.le_of_lt ((Nat.log2_lt z).mpr l)
theorem Sz.mulW {k l : Nat} {x y : Int} (a : Sz k x) (b : Sz l y) (h : k + l < 1000000) : CMulW x y := by
  have h1 := a.log
  have h2 := b.log
  show x.natAbs.log2 + y.natAbs.log2 < 1000000
  omega
theorem Sz.mul {k l : Nat} {x y : Int} (a : Sz k x) (b : Sz l y) : Sz (k + l) (x * y) := by
  refine ⟨Int.mul_nonneg a.1 b.1, ?_⟩
  rw [Int.pow_add]
  have p : (0 : Int) < 2 ^ k := Int.lt_of_le_of_lt a.1 a.2
  have p2 : (0 : Int) < 2 ^ l := Int.lt_of_le_of_lt b.1 b.2
  by_cases z : y = 0
  · rw [z, Int.mul_zero]
    exact Int.mul_pos p p2
  · have y0 : 0 < y := by
      have := b.1
      omega
    exact Int.lt_of_lt_of_le (Int.mul_lt_mul_of_pos_right a.2 y0) (Int.mul_le_mul_of_nonneg_left (Int.le_of_lt b.2) (Int.le_of_lt p))
def dot (xs ys : List Int) : Int := (List.zipWith (· * ·) xs ys).sum
def spFormValue : Sp := fun vs H Q _ => ∃ (fa pa : Addr) (c : Int) (xs ys : List Int), vs = [.ref fa, .ref pa] ∧ H fa = some (.tup ((c :: xs).map V.int)) ∧ H pa = some (.lst (ys.map V.int)) ∧ xs.length = ys.length ∧ xs.length ≤ 100 ∧
  (∀ x ∈ xs, Sz 1000 x) ∧ (∀ y ∈ ys, Sz 1000 y) ∧ ∀ H', Same H H' → Q (.int (c + dot xs ys)) H'
theorem zw_get {xs ys : List Int} {i : Nat} {x y : Int} (hx : xs[i]? = some x) (hy : ys[i]? = some y) : (List.zipWith (· * ·) xs ys)[i]? = some (x * y) := by
  rw [List.getElem?_zipWith, hx, hy]
theorem cut_rest (c : Int) (xs : List Int) : cutV ((c :: xs).map V.int) (some 1) none = xs.map V.int := by
  unfold cutV
  rw [HT.sIx_none, show HT.sIx ((c :: xs).map V.int).length 0 (some 1) = min 1 ((c :: xs).map V.int).length from HT.sIx_nat _ _ 1]
  rw [List.map_cons, List.length_cons, show min 1 ((xs.map V.int).length + 1) = 1 by omega]
  simp only [List.drop_succ_cons, List.drop_zero]
  exact List.take_of_length_le (by simp)
section
variable {P : Program} {w : World} {K : PySem.W.Frag} {mg : Str → Option Value} {base : Heap} {f : Addr} {fd : FuncData}
theorem ok_formValue (F : FnP K "form_value" sFormValue f fd) (z_sum : mg "sum" = none) (z_zip : mg "zip" = none) : FnOk P w K mg base CX0 1 f fd ["form", "point"] spFormValue := by
  have nd := scFormValue.nd
  refine F.ok scFormValue (fun vs H Q E h => ?_) (fun cdv A outer s H vs Q E hr h => ?_)
  · obtain ⟨fa, pa, c, xs, ys, rfl, _⟩ := h
    rfl
  · obtain ⟨fa, pa, c, xs, ys, rfl, hf, hp, hl, h100, bx, hy, q⟩ := h
    refine ⟨_, PSs.nox (pss_one (ps_ret (pe_op op_add (pe_ix ix_tup (pv 0) pe_int (fun _ _ => rfl)) (pe_callB (cr_sum rfl) (by rfl) z_sum (by decide +kernel) (pa_cons
      (pe_lc (own := [("number", 2), ("count", 3)]) (g := gTup K 2 (gCons (gName 2) (gCons (gName 3) gNil))) (by rfl) nd (pi_zipM (by rfl) z_zip (pa_cons (pe_slice sl_tup (pv 0) (po_some pe_int) po_none) (pa_cons (pv 1) pa_nil))) (blkOk_by (N := ["form", "point", "number", "count"]) (sc := defScope sFormValue) (own := [("number", 2), ("count", 3)]) (by decide +kernel))
        (fun _ _ _ _ _ => pg_tup rfl (pgs_cons (pg_name (i := 2) nd rfl (Or.inl rfl)) (pgs_cons (pg_name (i := 3) nd rfl (Or.inl rfl)) pgs_nil))) (fun _ _ _ _ _ => pts_nil)
        (fun _ _ _ _ _ => pe_op op_mulW (pv 2) (pv 3))) pa_nil))))), ?_⟩
    refine ⟨_, rfl, fa, _, _, _, rfl, rfl, SqT.of hf, (show atI ((c :: xs).map V.int) ((0 : Nat) : Int) = some (V.int c) from atI_nat rfl), _, rfl, _, rfl, fa, _, rfl, SqT.of hf, (fun z => absurd z.1 (by
      rw [show HT.sIx ((c :: xs).map V.int).length 0 (some 1) = min 1 ((c :: xs).map V.int).length from HT.sIx_nat _ _ 1, List.map_cons, List.length_cons]
      omega)), fun sl nsl => ⟨_, rfl, sl, pa, _, _, rfl, ⟨SqT.of upd_same, SqL.of (same_new nsl _ _ hp)⟩, fun D nD => ?_⟩⟩
    rw [cut_rest] at nD ⊢
    have s0 := same_new (o := .tup (xs.map V.int)) nsl
    refine lc_zipM (K := K) (a := sl) (b := pa) (xs := xs.map V.int) (ys := ys.map V.int) (by simp [hl]) (fun k H' => Same (upd H sl (.tup (xs.map V.int))) H' ∧ H' D = some (.lst (((List.zipWith (· * ·) xs ys).take k).map V.int))) ⟨same_new nD, upd_same⟩ (fun i H' p => ⟨SqT.of (p.1 _ _ upd_same), SqL.of (p.1 _ _ (s0 _ _ hp))⟩) ?_ ?_
    · rintro i x y T H' hx hy' ⟨sm, hD⟩ nT
      rw [List.getElem?_map] at hx hy'
      obtain ⟨x0, ex, rfl⟩ := Option.map_eq_some_iff.mp hx
      obtain ⟨y0, ey, rfl⟩ := Option.map_eq_some_iff.mp hy'
      have sT := same_new (o := .tup [.int x0, .int y0]) nT
      have li : i < xs.length := (List.getElem?_eq_some_iff.mp ex).1
      refine ⟨T, _, rfl, SqT.of upd_same, rfl, _, _, rfl, _, _, rfl, rfl, rfl, ?_⟩
      refine ⟨_, rfl, _, rfl, _, _, rfl, rfl, (bx _ (List.mem_of_getElem? ex)).mulW (hy _ (List.mem_of_getElem? ey)) (by decide), _, sT _ _ hD, ?_, fun b o e => ?_, ?_⟩
      · rw [List.length_map]
        exact small1000 (Nat.le_trans (List.length_take_le _ _) (by omega))
      · rw [upd_ne (ne_of_none e nD)]
        exact sT _ _ (sm _ _ e)
      · rw [upd_same, List.take_add_one, zw_get ex ey, List.map_append]
        rfl
    · rintro H' ⟨sm, hD⟩
      have el : ((List.zipWith (· * ·) xs ys).take (xs.map V.int).length) = List.zipWith (· * ·) xs ys := List.take_of_length_le (by simp; exact Nat.min_le_left _ _)
      rw [el] at hD
      exact ⟨D, _, rfl, SqL.of hD, _, _, rfl, rfl, q H' (s0.trans sm)⟩
end
end K4
set_option Elab.async false
set_option linter.all false
set_option maxRecDepth 100000
set_option maxHeartbeats 4000000
namespace K4
open PySem PySem.Spec PyProof.Rows L2 XV
abbrev sPlain : Stmt := top 25
theorem scPlain : FnScope ["many", "constant"] ["many", "constant"] (defScope sPlain) := ⟨rfl, rfl, rfl, by decide +kernel, rfl, by decide +kernel, by decide +kernel⟩
def spTimes : Sp := fun vs H Q _ => ∃ (fa : Addr) (t : Int) (ns : List Int), vs = [.ref fa, .int t] ∧ H fa = some (.tup (ns.map V.int)) ∧ ns.length ≤ 100 ∧ (∀ x ∈ ns, Sz 1000 x) ∧ Sz 1000 t ∧
  ∀ (H' : Hp) (p : Addr), Same H H' → H p = none → H' p = some (.tup ((ns.map (· * t)).map V.int)) → Q (.ref p) H'
def spPlain : Sp := fun vs H Q _ => ∃ (m : Nat) (c : Int), vs = [.int m, .int c] ∧ m ≤ 100 ∧ ∀ (H' : Hp) (p : Addr), Same H H' → H p = none → H' p = some (.tup ((c :: List.replicate m 0).map V.int)) → Q (.ref p) H'
theorem rep_flat (m : Nat) : (List.replicate m [V.int 0]).flatten = (List.replicate m (0 : Int)).map V.int := by
  induction m with
  | zero => rfl
  | succ m ih =>
    rw [List.replicate_succ, List.flatten_cons, ih, List.replicate_succ, List.map_cons]
    rfl
theorem was_new {H H' : Hp} {p : Addr} (s : Same H H') (n : H' p = none) : H p = none := by
  cases e : H p with
  | none => rfl
  | some o =>
    rw [s _ _ e] at n
    cases n
section
variable {P : Program} {w : World} {K : PySem.W.Frag} {mg : Str → Option Value} {base : Heap} {f : Addr} {fd : FuncData}
theorem ok_times (F : FnP K "form_times" sTimes f fd) (z_tuple : mg "tuple" = none) : FnOk P w K mg base CX0 1 f fd ["form", "times"] spTimes := by
  have nd := scTimes.nd
  refine F.ok scTimes (fun vs H Q E h => ?_) (fun cdv A outer s H vs Q E hr h => ?_)
  · obtain ⟨fa, t, ns, rfl, _⟩ := h
    rfl
  · obtain ⟨fa, t, ns, rfl, hf, hn, bx, bt, q⟩ := h
    refine ⟨_, PSs.nox (pss_one (ps_ret (pe_callTy call_tuple_of (by rfl) z_tuple (by decide +kernel) (pa_cons
      (pe_lc (own := [("number", 2)]) (g := gName 2) (by rfl) nd (pi_tup (pv 0)) (blkOk_by (N := ["form", "times", "number"]) (sc := defScope sTimes) (own := [("number", 2)]) (by decide +kernel)) (fun _ _ _ _ _ => pg_name (i := 2) nd rfl (Or.inl rfl)) (fun _ _ _ _ _ => pts_nil) (fun _ _ _ _ _ => pe_op op_mulW (pv 2) (pv 1))) pa_nil)))), ?_⟩
    refine ⟨_, rfl, fa, rfl, ⟨_, SqT.of hf⟩, fun D nD => lc_tup (K := K) (a := fa) (xs := ns.map V.int) (fun k H' => Same H H' ∧ H' D = some (.lst (((ns.map (· * t)).take k).map V.int))) ⟨same_new nD, upd_same⟩ (fun k H' _ p => SqT.ext (SqT.of hf) p.1) ?_ ?_⟩
    · rintro k y H' hk ⟨sm, hD⟩
      rw [List.getElem?_map] at hk
      obtain ⟨z, ez, rfl⟩ := Option.map_eq_some_iff.mp hk
      have li : k < ns.length := (List.getElem?_eq_some_iff.mp ez).1
      refine ⟨rfl, ?_⟩
      refine ⟨_, rfl, _, rfl, _, _, rfl, rfl, (bx _ (List.mem_of_getElem? ez)).mulW bt (by decide), _, hD, ?_, fun b o e => ?_, ?_⟩
      · rw [List.length_map]
        exact small1000 (Nat.le_trans (List.length_take_le _ _) (by omega))
      · rw [upd_ne (ne_of_none (H := H) e nD)]
        exact sm _ _ e
      · rw [upd_same, List.take_add_one, List.getElem?_map, ez, List.map_append]
        rfl
    · rintro H' ⟨sm, hD⟩
      have el : (ns.map (· * t)).take (ns.map V.int).length = ns.map (· * t) := List.take_of_length_le (by simp)
      rw [el] at hD
      exact ⟨D, _, rfl, .inl ⟨SqL.of hD, fun l nl => q _ l (sm.trans (same_new nl)) (was_new sm nl) upd_same⟩⟩
theorem ok_plain (F : FnP K "plain_form" sPlain f fd) (z_tuple : mg "tuple" = none) : FnOk P w K mg base CX0 1 f fd ["many", "constant"] spPlain := by
  refine F.ok scPlain (fun vs H Q E h => ?_) (fun cdv A outer s H vs Q E hr h => ?_)
  · obtain ⟨m, c, rfl, _⟩ := h
    rfl
  · obtain ⟨m, c, rfl, hm, q⟩ := h
    refine ⟨_, PSs.nox (pss_one (ps_ret (pe_callTy call_tuple_of (by rfl) z_tuple (by decide +kernel) (pa_cons (pe_op op_cat (pe_lst (pa_cons (pv 1) pa_nil)) (pe_op op_rep (pe_lst (pa_cons pe_int pa_nil)) (pv 0))) pa_nil)))), ?_⟩
    have le1 : m ≤ sizeLine := Nat.le_of_lt (small1000 (by omega))
    refine ⟨_, rfl, (by show 1 ≤ sizeLine; decide), fun l nl => ⟨(by show 1 ≤ sizeLine; decide), fun i ni => ⟨_, rfl, i, (m : Int), _, rfl, rfl, upd_same, by omega, by omega, (by show 1 * m ≤ sizeLine; omega), fun r nr => ?_⟩⟩⟩
    have e1 : (List.replicate ((m : Int)).toNat [V.int 0]).flatten = (List.replicate m (0 : Int)).map V.int := rep_flat m
    rw [e1]
    have s1 := same_new (o := .lst [.int c]) nl
    have s2 := same_new (o := .lst [.int 0]) ni
    have s3 := same_new (o := .lst ((List.replicate m (0 : Int)).map V.int)) nr
    have le2 : 1 + m ≤ sizeLine := Nat.le_of_lt (small1000 (by omega))
    refine ⟨l, r, [.int c], (List.replicate m (0 : Int)).map V.int, rfl, rfl, s3 _ _ (s2 _ _ upd_same), upd_same, (by simp; omega), fun t nt => ?_⟩
    have s4 := same_new (o := .lst ((c :: List.replicate m (0 : Int)).map V.int)) nt
    refine ⟨t, (c :: List.replicate m (0 : Int)).map V.int, rfl, .inl ⟨SqL.of upd_same, fun x nx => q _ x ?_ ?_ upd_same⟩⟩
    · exact (((s1.trans s2).trans s3).trans s4).trans (same_new nx)
    · exact was_new (((s1.trans s2).trans s3).trans s4) nx
end
end K4
set_option Elab.async false
set_option linter.all false
set_option maxRecDepth 100000
set_option maxHeartbeats 4000000
namespace K4
open PySem PySem.Spec PyProof.Rows L2 XV
abbrev sSum : Stmt := top 24
theorem scSum : FnScope ["many", "forms", "place", "form"] ["many", "forms"] (defScope sSum) := ⟨rfl, rfl, rfl, by decide +kernel, rfl, by decide +kernel, by decide +kernel⟩
abbrev scO : Scope := { kind := .function, names := [(Str.ofString ".0", .local), (Str.ofString "place", .cell), (Str.ofString "sum", .globalImplicit), (Str.ofString "forms", .cell)], isGenerator := false, isCoroutine := false }
abbrev scI : Scope := { kind := .function, names := [(Str.ofString ".0", .local), (Str.ofString "form", .local), (Str.ofString "place", .free)], isGenerator := false, isCoroutine := false }
theorem blk_in : BlkOk ["many", "forms", "place", "form"] scO scI [("form", 3)] := blkOk_by (by decide +kernel)
def col (ps : List (Addr × List Int)) (j : Nat) : Int := (ps.map fun p => p.2.getD j 0).sum
def spSum : Sp := fun vs H Q _ => ∃ (m : Nat) (la : Addr) (ps : List (Addr × List Int)), vs = [.int m, .ref la] ∧ H la = some (.lst (ps.map fun p => V.ref p.1)) ∧ m ≤ 100 ∧ ps.length ≤ 100 ∧ (∀ p ∈ ps, H p.1 = some (.tup (p.2.map V.int)) ∧ p.2.length = m + 1) ∧
  ∀ (H' : Hp) (r : Addr), Same H H' → H r = none → H' r = some (.tup (((List.range (m + 1)).map (col ps)).map V.int)) → Q (.ref r) H'
section
variable {P : Program} {w : World} {K : PySem.W.Frag} {mg : Str → Option Value} {base : Heap} {f : Addr} {fd : FuncData}
theorem ok_sum (F : FnP K "sum_of_forms" sSum f fd) (z_tuple : mg "tuple" = none) (z_sum : mg "sum" = none) (z_range : mg "range" = none) : FnOk P w K mg base CX0 1 f fd ["many", "forms"] spSum := by
  have nd := scSum.nd
  refine F.ok scSum (fun vs H Q E h => ?_) (fun cdv A outer s H vs Q E hr h => ?_)
  · obtain ⟨m, la, ps, rfl, _⟩ := h
    rfl
  · obtain ⟨m, la, ps, rfl, hl, hm, hn, hp, q⟩ := h
    refine ⟨_, PSs.nox (pss_one (ps_ret (pe_callTy call_tuple_of (by rfl) z_tuple (by decide +kernel) (pa_cons
      (pe_lc (own := [("place", 2)]) (g := gName 2) (by rfl) nd (pi_range1 (by rfl) z_range (pa_cons (pe_op op_add (pv 0) pe_int) pa_nil)) (blkOk_by (N := ["many", "forms", "place", "form"]) (sc := defScope sSum) (own := [("place", 2)]) (by decide +kernel)) (fun _ _ _ _ _ => pg_name (i := 2) nd rfl (Or.inr rfl)) (fun _ _ _ _ _ => pts_nil)
        (fun _ _ _ _ _ => pe_callB (cr_sumK (K := K) rfl rfl) (by rfl) z_sum (by decide +kernel) (pa_cons
          (pe_lc (own := [("form", 3)]) (g := gName 3) (by rfl) nd (pi_listK (K := K) rfl (pv 1)) blk_in (fun _ _ _ _ _ => pg_name (i := 3) nd rfl (Or.inl rfl)) (fun _ _ _ _ _ => pts_nil)
            (fun _ _ _ _ _ => pe_ix (ix_tupK (K := K) rfl) (pv 3) (pv 2) (fun _ _ => rfl))) pa_nil))) pa_nil)))), ?_⟩
    refine ⟨_, rfl, _, _, rfl, rfl, (m : Int) + 1, rfl, by omega, by omega, fun D nD => ?_⟩
    have eN : ((m : Int) + 1).toNat = m + 1 := by omega
    rw [eN]
    refine lc_range (lo := 0) (n := m + 1) (fun k H' => Same H H' ∧ H' D = some (.lst (((List.range k).map (col ps)).map V.int))) ⟨same_new nD, upd_same⟩ ?_ ?_
    · rintro j H' hj ⟨sm, hD⟩
      rw [Int.zero_add]
      refine ⟨rfl, ?_⟩
      refine ⟨_, rfl, la, rfl, ⟨_, SqL.of (sm _ _ hl)⟩, fun D2 nD2 => lc_list (K := K) (a := la) (xs := ps.map fun p => V.ref p.1) (fun k H2 => Same H' H2 ∧ H2 D2 = some (.lst (((ps.map fun p => p.2.getD j 0).take k).map V.int))) ⟨same_new nD2, upd_same⟩ (fun k H2 _ p => SqL.of (p.1 _ _ (sm _ _ hl))) ?_ ?_⟩
      · rintro k y H2 hk ⟨s2, hD2⟩
        rw [List.getElem?_map] at hk
        obtain ⟨p, ep, rfl⟩ := Option.map_eq_some_iff.mp hk
        obtain ⟨h1, h2⟩ := hp p (List.mem_of_getElem? ep)
        have lk : k < ps.length := (List.getElem?_eq_some_iff.mp ep).1
        have gj : (p.2.map V.int)[j]? = some (.int (p.2.getD j 0)) := by
          have lj : j < p.2.length := by omega
          rw [List.getElem?_map, List.getD_eq_getElem?_getD, List.getElem?_eq_getElem lj]
          rfl
        refine ⟨rfl, ?_⟩
        refine ⟨_, rfl, _, rfl, p.1, _, _, _, rfl, rfl, SqT.of (s2 _ _ (sm _ _ h1)), atI_nat gj, _, hD2, ?_, fun b o e => ?_, ?_⟩
        · rw [List.length_map]
          exact small1000 (Nat.le_trans (List.length_take_le _ _) (by omega))
        · rw [upd_ne (ne_of_none (H := H') e nD2)]
          exact s2 _ _ e
        · rw [upd_same, List.take_add_one, List.getElem?_map, ep, List.map_append]
          rfl
      · rintro H2 ⟨s2, hD2⟩
        have el : (ps.map fun p => p.2.getD j 0).take (ps.map fun p => V.ref p.1).length = ps.map fun p => p.2.getD j 0 := List.take_of_length_le (by simp)
        rw [el] at hD2
        refine ⟨D2, _, rfl, SqL.of hD2, _, s2 _ _ hD, ?_, fun b o e => ?_, ?_⟩
        · rw [List.length_map, List.length_map, List.length_range]
          exact small1000 (by omega)
        · rw [upd_ne (ne_of_none (H := H) e nD)]
          exact s2 _ _ (sm _ _ e)
        · rw [upd_same, List.range_succ, List.map_append, List.map_append]
          rfl
    · rintro H' ⟨sm, hD⟩
      exact ⟨D, _, rfl, .inl ⟨SqL.of hD, fun l nl => q _ l (sm.trans (same_new nl)) (was_new sm nl) upd_same⟩⟩
end
end K4
set_option Elab.async false
set_option linter.all false
set_option maxRecDepth 100000
set_option maxHeartbeats 4000000
namespace K4
open PySem PySem.Spec PyProof.Rows L2 XV NP
/-! ### pieces on the heap -/
def fm (p : Pc) : List Int := p.2.1 :: p.2.2
def IsPc (H : Hp) (x : V) (p : Pc) : Prop := ∃ a f, x = .ref a ∧ H a = some (.tup [.str p.1, .ref f]) ∧ H f = some (.tup ((fm p).map V.int))
inductive Pcs (H : Hp) : List V → List Pc → Prop
  | nil : Pcs H [] []
  | cons {x : V} {xs : List V} {p : Pc} {P : List Pc} : IsPc H x p → Pcs H xs P → Pcs H (x :: xs) (p :: P)
theorem IsPc.keep {H H' : Hp} (s : Same H H') {x : V} {p : Pc} (h : IsPc H x p) : IsPc H' x p := by
  obtain ⟨a, f, e, t, u⟩ := h
  exact ⟨a, f, e, s _ _ t, s _ _ u⟩
theorem Pcs.keep {H H' : Hp} (s : Same H H') : ∀ {xs : List V} {P : List Pc}, Pcs H xs P → Pcs H' xs P
  | _, _, .nil => .nil
  | _, _, .cons h r => .cons (h.keep s) (Pcs.keep s r)
theorem Pcs.len {H : Hp} : ∀ {xs : List V} {P : List Pc}, Pcs H xs P → xs.length = P.length
  | _, _, .nil => rfl
  | _, _, .cons _ r => congrArg (· + 1) (Pcs.len r)
theorem Pcs.get {H : Hp} : ∀ {xs : List V} {P : List Pc} {i : Nat} {x : V}, Pcs H xs P → xs[i]? = some x → ∃ p, P[i]? = some p ∧ IsPc H x p
  | _, _, i, x, .nil, h => by simp at h
  | _, _, 0, x, .cons a r, h => by
    cases h
    exact ⟨_, rfl, a⟩
  | _, _, i + 1, x, .cons a r, h => by
    obtain ⟨l, e, z⟩ := Pcs.get (i := i) r (by simpa using h)
    exact ⟨l, by simpa using e, z⟩
theorem Pcs.snoc {H : Hp} {y : V} {m : Pc} (hy : IsPc H y m) : ∀ {xs : List V} {P : List Pc}, Pcs H xs P → Pcs H (xs ++ [y]) (P ++ [m])
  | _, _, .nil => .cons hy .nil
  | _, _, .cons h r => .cons h (Pcs.snoc hy r)
/-- a store at a list leaves the pieces -/
theorem IsPc.updL {H : Hp} {D : Addr} {ys : List V} {o : HO} (hD : H D = some (.lst ys)) {x : V} {p : Pc} (h : IsPc H x p) : IsPc (upd H D o) x p := by
  obtain ⟨a, f, e, t, u⟩ := h
  refine ⟨a, f, e, ?_, ?_⟩
  · rw [upd_ne (ne_of t hD (by intro z; cases z))]
    exact t
  · rw [upd_ne (ne_of u hD (by intro z; cases z))]
    exact u
theorem Pcs.updL {H : Hp} {D : Addr} {ys : List V} {o : HO} (hD : H D = some (.lst ys)) : ∀ {xs : List V} {P : List Pc}, Pcs H xs P → Pcs (upd H D o) xs P
  | _, _, .nil => .nil
  | _, _, .cons h r => .cons (h.updL hD) (Pcs.updL hD r)
/-- the last one -/
theorem Pcs.last {H : Hp} : ∀ {xs : List V} {P : List Pc}, Pcs H xs P → P ≠ [] → ∃ xs0 x P0 p, xs = xs0 ++ [x] ∧ P = P0 ++ [p] ∧ Pcs H xs0 P0 ∧ IsPc H x p
  | _, _, .nil, h => absurd rfl h
  | _, _, .cons (xs := []) h .nil, _ => ⟨[], _, [], _, rfl, rfl, .nil, h⟩
  | _, _, .cons h (.cons h2 r), _ => by
    obtain ⟨xs0, x, P0, p, e1, e2, r0, hx⟩ := Pcs.last (.cons h2 r) (by simp)
    exact ⟨_ :: xs0, x, _ :: P0, p, by rw [e1]; rfl, by rw [e2]; rfl, .cons h r0, hx⟩
def PL (H : Hp) (D : Addr) (P : List Pc) : Prop := ∃ xs, H D = some (.lst xs) ∧ Pcs H xs P
/-- of m unknowns, each number with at most k digits -/
theorem Sz.le {k l : Nat} {x : Int} (h : Sz k x) (hl : k ≤ l) : Sz l x := by
  refine ⟨h.1, Int.lt_of_lt_of_le h.2 ?_⟩
  have e : (2 : Nat) ^ k ≤ 2 ^ l := Nat.pow_le_pow_right (by decide) hl
  have e2 : ((2 ^ k : Nat) : Int) ≤ ((2 ^ l : Nat) : Int) := Int.ofNat_le.mpr e
  simpa [Int.natCast_pow] using e2
theorem Sz.add {k : Nat} {x y : Int} (h : Sz k x) (g : Sz k y) : Sz (k + 1) (x + y) := by
  refine ⟨Int.add_nonneg h.1 g.1, ?_⟩
  have a := h.2
  have b := g.2
  rw [Int.pow_succ]
  omega
structure Pz (m k : Nat) (p : Pc) : Prop where
  c : Sz k p.2.1
  l : p.2.2.length = m
  x : ∀ x ∈ p.2.2, Sz k x
theorem Pz.le {m k k' : Nat} {p : Pc} (h : Pz m k p) (l : k ≤ k') : Pz m k' p := ⟨Sz.le h.c l, h.l, fun x hx => Sz.le (h.x x hx) l⟩
abbrev sPlainQ : Stmt := top 22
abbrev sAddF : Stmt := top 40
abbrev sAddP : Stmt := top 41
theorem scPlainQ : FnScope ["form"] ["form"] (defScope sPlainQ) := ⟨rfl, rfl, rfl, by decide +kernel, rfl, by decide +kernel, by decide +kernel⟩
theorem scAddF : FnScope ["many", "done", "word"] ["many", "done", "word"] (defScope sAddF) := ⟨rfl, rfl, rfl, by decide +kernel, rfl, by decide +kernel, by decide +kernel⟩
theorem scAddP : FnScope ["many", "done", "word", "form", "power"] ["many", "done", "word", "form"] (defScope sAddP) := ⟨rfl, rfl, rfl, by decide +kernel, rfl, by decide +kernel, by decide +kernel⟩
def spPlainQ : Sp := fun vs H Q _ => ∃ (f : Addr) (c : Int) (xs : List Int), vs = [.ref f] ∧ H f = some (.tup ((c :: xs).map V.int)) ∧ xs.length ≤ 100 ∧ ∀ H', Same H H' → Q (.bl (decide (∀ x ∈ xs, x = 0))) H'
/-- all but the list at D stands -/
def Rest (H H' : Hp) (D : Addr) : Prop := ∀ b o, b ≠ D → H b = some o → H' b = some o
def spAddF : Sp := fun vs H Q _ => ∃ (m : Nat) (D : Addr) (w : Str) (done : List Pc), vs = [.int m, .ref D, .str w] ∧ m ≤ 3 ∧ PL H D done ∧ done.length ≤ 500 ∧
  ∀ (H' : Hp) (d2 : List Pc), Rest H H' D → PL H' D d2 → AddF m done d2 (cs w) → d2.length ≤ done.length + 1 → (∀ p ∈ d2, p ∈ done ∨ (p = (w, 1, List.replicate m 0) ∧ cs w ≠ [])) → Q .non H'
section
variable {P : Program} {w : World} {K : PySem.W.Frag} {mg : Str → Option Value} {base : Heap} {f : Addr} {fd : FuncData}
theorem ok_plainQ (F : FnP K "is_plain" sPlainQ f fd) (z_any : mg "any" = none) : FnOk P w K mg base CX0 1 f fd ["form"] spPlainQ := by
  refine F.ok scPlainQ (fun vs H Q E h => ?_) (fun cdv A outer s H vs Q E hr h => ?_)
  · obtain ⟨fm, c, xs, rfl, _⟩ := h
    rfl
  · obtain ⟨fm, c, xs, rfl, hf, h100, q⟩ := h
    refine ⟨_, PSs.nox (pss_one (ps_ret (pe_not (pe_callB (call_anyT rfl) (by rfl) z_any (by decide +kernel) (pa_cons (pe_slice sl_tup (pv 0) (po_some pe_int) po_none) pa_nil))))), ?_⟩
    refine ⟨_, rfl, _, rfl, fm, _, rfl, SqT.of hf, (fun z => absurd z.1 (by
      rw [show HT.sIx ((c :: xs).map V.int).length 0 (some 1) = min 1 ((c :: xs).map V.int).length from HT.sIx_nat _ _ 1, List.map_cons, List.length_cons]
      omega)), fun p np => ?_⟩
    rw [cut_rest]
    have hp : (upd H p (.tup (xs.map V.int))) p = some (.tup (xs.map V.int)) := upd_same
    have dp : ∀ l : List Int, DpAll K (upd H p (.tup (xs.map V.int))) (l.map V.int) (l.map PyData.int) := fun l => by
      induction l with
      | nil => exact .nil
      | cons x l ih => exact .cons (.int x) ih
    refine ⟨p, _, xs.map PyData.int, rfl, SqT.of hp, dp xs, ?_, ?_, _, rfl, ?_⟩
    · clear dp hp np q h100 hf
      induction xs with
      | nil => simp [PyData.plainAll]
      | cons x xs ih => simp [PyData.plainAll, PyData.plain, ih]
    · intro d hd
      obtain ⟨x, _, rfl⟩ := List.mem_map.mp hd
      trivial
    · have e : (!((xs.map PyData.int).any PyData.truthy)) = decide (∀ x ∈ xs, x = 0) := by
        clear dp hp np q h100 hf
        induction xs with
        | nil => simp
        | cons x xs ih =>
          rw [List.map_cons, List.any_cons, Bool.not_or, ih]
          by_cases h : x = 0
          · simp [PyData.truthy, h]
          · simp [PyData.truthy, h]
      show Q (.bl (!((xs.map PyData.int).any PyData.truthy))) _
      rw [e]
      exact q _ (same_new np)
theorem ok_addF (F : FnP K "add_fixed" sAddF f fd) (o_plain : Ok P w K mg base "plain_form" 1 ["many", "constant"] spPlain) : FnOk P w K mg base CX0 2 f fd ["many", "done", "word"] spAddF := by
  refine F.ok scAddF (fun vs H Q E h => ?_) (fun cdv A outer s H vs Q E hr h => ?_)
  · obtain ⟨m, D, w, done, rfl, _⟩ := h
    rfl
  · obtain ⟨m, D, w0, done, rfl, hm, ⟨xs, hD, hP⟩, h500, q⟩ := h
    have lx := hP.len
    refine ⟨_, PSs.nox (pss_one (ps_if (pt_cmpR op_ne (pv 2) pe_str (nomark _)) (pss_one (ps_expr (pe_bm PySem.F.plainAttrs_list PySem.F.slot_list_append PySem.F.type_list_append mt_append (pv 1) (pa_cons (pe_tup (pa_cons (pv 2) (pa_cons (pe_callO o_plain hr (by rfl) (pa_cons (pv 0) (pa_cons pe_int pa_nil))) pa_nil))) pa_nil)))) pss_nil)), ?_⟩
    refine ⟨_, rfl, rfl, _, rfl, ite2 (fun c => ?_) (fun c => ?_)⟩
    · refine ⟨_, rfl, .inl ⟨rfl, _, SqL.of hD⟩, _, rfl, _, rfl, m, 1, rfl, by omega, fun H1 p s1 np hp => ⟨(by show 2 ≤ sizeLine; decide), fun t nt => ?_⟩⟩
      have s2 := same_new (o := .tup [.str w0, .ref p]) nt
      have hD2 := s2 _ _ (s1 _ _ hD)
      have hP2 := (hP.keep s1).keep s2
      refine ⟨D, xs, _, rfl, rfl, hD2, small1000 (by omega), q _ (done ++ [(w0, 1, List.replicate m 0)]) (fun b o nb e => ?_) ⟨_, upd_same, Pcs.updL hD2 (Pcs.snoc (m := (w0, 1, List.replicate m 0)) ⟨t, p, rfl, upd_same, s2 _ _ hp⟩ hP2)⟩ (addF_one done w0) (by rw [List.length_append]; exact Nat.le_refl _) fun p hp => ?_⟩
      · rw [upd_ne nb]
        exact s2 _ _ (s1 _ _ e)
      · rcases List.mem_append.mp hp with h | h
        · exact .inl h
        · exact .inr ⟨List.mem_singleton.mp h, fun z => by
            rw [cs_nil z] at c
            simp at c⟩
    · have e : w0 = "" := by
        by_cases e : w0 = ""
        · exact e
        · exact absurd (by
            have : ¬ V.str w0 = V.str "" := fun z => e (V.str.inj z)
            simp [this]) c
      subst e
      exact q H done (fun _ _ _ e => e) ⟨xs, hD, hP⟩ (addF_nil done) (by omega) fun p hp => .inl hp
end
end K4
set_option Elab.async false
set_option linter.all false
set_option maxRecDepth 100000
set_option maxHeartbeats 4000000
namespace XV
open PySem PySem.Spec PyProof.Rows L2
section
variable {X : Cx}
/-- t + u, t[lo:hi]: the answer is to be read, wherever it stands -/
def rCatS : R2 := fun x y H Q => ∃ a b xs ys, x = .ref a ∧ y = .ref b ∧ H a = some (.tup xs) ∧ H b = some (.tup ys) ∧ xs.length + ys.length ≤ sizeLine ∧ ∀ (H' : Hp) (p : Addr), Same H H' → H' p = some (.tup (xs ++ ys)) → Q (.ref p) H'
theorem op_catS : OpR X (binaryOp .Add) rCatS := by
  intro pins s σ H x y v u Q I rx ry h
  obtain ⟨a, b, xs, ys, rfl, rfl, ha, hb, hz, q⟩ := h
  refine op_catA pins s σ H _ _ v u Q I rx ry ⟨a, b, xs, ys, rfl, rfl, SqT.of ha, SqT.of hb, hz, fun e => ?_, fun _ e => ?_, fun _ _ p np => q _ p (same_new np) upd_same⟩
  · subst e
    exact q H b (fun _ _ z => z) hb
  · subst e
    exact q H a (fun _ _ z => z) (by rw [List.append_nil]; exact ha)
def rSlS : V → Option Int → Option Int → Hp → VK → Prop := fun x lo hi H Q => ∃ a xs, x = .ref a ∧ H a = some (.tup xs) ∧ ∀ (H' : Hp) (p : Addr), Same H H' → H' p = some (.tup (cutV xs lo hi)) → Q (.ref p) H'
theorem sl_tupS : SlR X rSlS := by
  intro pins s σ H x v vl vu lo hi sl Q I rx hs pl pu h
  obtain ⟨a, xs, rfl, hx, q⟩ := h
  refine sl_tupA pins s σ H _ v vl vu lo hi sl Q I rx hs pl pu ⟨a, xs, rfl, SqT.of hx, fun w => q H a (fun _ _ z => z) ?_, fun _ p np => q _ p (same_new np) upd_same⟩
  rw [hx]
  unfold cutV
  rw [w.1, w.2, List.drop_zero, Nat.sub_zero, List.take_length]
/-- xs != [] -/
def rNeE : R2 := fun x y H Q => ∃ (a b : Addr) (xs : List V), x = .ref a ∧ y = .ref b ∧ H a = some (.lst xs) ∧ H b = some (.lst []) ∧ Q (.bl (!xs.isEmpty)) H
theorem op_neE (hu : X.A.units + 66 < cLine) : OpR X (compareOp .NotEq) rNeE := by
  intro pins s σ H x y v u Q I rx ry h
  obtain ⟨a, b, xs, rfl, rfl, ha, hb, q⟩ := h
  cases (show v = Value.ref a from rx)
  cases (show u = Value.ref b from ry)
  obtain ⟨_, its, n, r, h1⟩ := (show ObjOk X.prog X.w H s.heap a (.lst xs) from I.hok a _ ha)
  obtain ⟨_, its2, n2, r2, h2⟩ := (show ObjOk X.prog X.w H s.heap b (.lst []) from I.hok b _ hb)
  cases r2
  show wpAny (model X.prog X.w) X.A (richCompare .NotEq (.ref a) (.ref b)) (EP X pins σ Q) X.xe s
  have hl2 : s.heap.IsList b (([] : List Value).toArray) := ⟨_, h2, rfl, _, rfl⟩
  have hl : s.heap.IsList a its.toArray := ⟨_, h1, rfl, _, rfl⟩
  cases r with
  | nil => exact SeqAt.RcNeAt.lists (A := X.A) (e := fun _ => true) hl hl2 rfl (by omega) (fun j j1 _ => absurd j1 (by show ¬ j < 0; omega)) X.prog X.w _ _ ⟨.bl _, H, I, rfl, q⟩
  | cons r1 rr => exact SeqAt.RcNeAt.lists_lengths (A := X.A) hl hl2 (by simp) (by omega) X.prog X.w _ _ ⟨.bl _, H, I, rfl, q⟩
end
end XV
namespace K4
open PySem PySem.Spec PyProof.Rows L2 XV NP
def spAddP : Sp := fun vs H Q _ => ∃ (m k : Nat) (D f : Addr) (w : Str) (c : Int) (xs : List Int) (done : List Pc), vs = [.int m, .ref D, .str w, .ref f] ∧ m ≤ 3 ∧ k ≤ 900 ∧ PL H D done ∧ done.length ≤ 500 ∧ (∀ p ∈ done, Pz m k p) ∧ H f = some (.tup ((c :: xs).map V.int)) ∧ xs.length = m ∧ (∀ x ∈ xs, Sz k x) ∧
  ∀ (H' : Hp) (d2 : List Pc), Rest H H' D → PL H' D d2 → AddP done d2 (cs w) xs → d2.length ≤ done.length + 1 → (∀ p ∈ d2, Pz m (k + 1) p ∧ (p.1 = w ∨ ∃ p' ∈ done, p.1 = p'.1)) → Q .non H'
theorem at_last {α : Type} (xs : List α) (x : α) : atI (xs ++ [x]) (-1) = some x := by
  unfold atI ixN
  rw [if_neg (by decide), if_pos (by rw [List.length_append, List.length_singleton]; omega)]
  show (xs ++ [x])[(-1 + ((xs ++ [x]).length : Int)).toNat]? = _
  rw [List.length_append, List.length_singleton, show (-1 + ((xs.length + 1 : Nat) : Int)).toNat = xs.length by omega, List.getElem?_append_right (Nat.le_refl _), Nat.sub_self]
  rfl
theorem cols {m : Nat} {f g : Addr} {c : Int} {zs xs : List Int} (hz : zs.length = m) (hx : xs.length = m) : (List.range (m + 1)).map (col [(f, c :: zs), (g, 0 :: xs)]) = (c + 0) :: List.zipWith (· + ·) zs xs := by
  apply List.ext_getElem?
  intro i
  cases i with
  | zero => simp [List.range_succ_eq_map, col]
  | succ i =>
    rw [List.getElem?_map, List.getElem?_cons_succ, List.getElem?_zipWith]
    by_cases h : i < m
    · rw [List.getElem?_range (by omega), List.getElem?_eq_getElem (show i < zs.length by omega), List.getElem?_eq_getElem (show i < xs.length by omega)]
      simp [col, List.getD_eq_getElem?_getD, List.getElem?_eq_getElem (show i < zs.length by omega), List.getElem?_eq_getElem (show i < xs.length by omega)]
    · rw [List.getElem?_eq_none (by rw [List.length_range]; omega), List.getElem?_eq_none (by omega)]
      rfl
section
variable {P : Program} {w : World} {K : PySem.W.Frag} {mg : Str → Option Value} {base : Heap} {f : Addr} {fd : FuncData}
theorem ok_addP (F : FnP K "add_power" sAddP f fd) (o_plain : Ok P w K mg base "is_plain" 1 ["form"] spPlainQ) (o_sum : Ok P w K mg base "sum_of_forms" 1 ["many", "forms"] spSum) : FnOk P w K mg base CX0 2 f fd ["many", "done", "word", "form"] spAddP := by
  have nd := scAddP.nd
  refine F.ok scAddP (fun vs H Q E h => ?_) (fun cdv A outer s H vs Q E hr h => ?_)
  · obtain ⟨m, k, D, f, w, c, xs, done, rfl, _⟩ := h
    rfl
  · obtain ⟨m, k, D, fa, w0, c, xs, done, rfl, hm, hk, ⟨ys, hD, hP⟩, h500, hz, hf, hx, sx, q⟩ := h
    have ly := hP.len
    have szl := sizeLine_eq
    have r1 : Room 1 (A.deeper (envOfC "add_power" (defScope sAddP) s.heap.objs.size f cdv)) := hr.mono (by decide)
    have hu66 : (A.deeper (envOfC "add_power" (defScope sAddP) s.heap.objs.size f cdv)).units + 66 < cLine := by
      have := hr.un
      omega
    refine ⟨_, PSs.nox (pss_cons (ps_set (i := 4) nd rfl (Or.inl rfl) (pe_op op_catS (pe_tup (pa_cons pe_int pa_nil)) (pe_slice sl_tupS (pv 3) (po_some pe_int) po_none)))
 (C8.pss_cut (ps_if (PW.pt (pw_and (pt_cmpR (op_neE hu66) (pv 1) (pe_lst pa_nil) (nomark _)) (pw_and (pt_cmpR op_eq (pe_ix ix_tup (pe_ix ix_list (pv 1) (pe_un un_neg pe_int) (fun _ _ => rfl)) pe_int (fun _ _ => rfl)) (pv 2) (nomark _)) (pw_and1 (pt_not (pt_val (pe_callO o_plain r1 (by rfl) (pa_cons (pe_ix ix_tup (pe_ix ix_list (pv 1) (pe_un un_neg pe_int) (fun _ _ => rfl)) pe_int (fun _ _ => rfl)) pa_nil))))))))
    (pss_one (ps_set (i := 4) nd rfl (Or.inl rfl) (pe_callO o_sum r1 (by rfl) (pa_cons (pv 0) (pa_cons (pe_lst (pa_cons (pe_ix ix_tup (pe_bm0 PySem.F.plainAttrs_list PySem.F.slot_list_pop PySem.F.type_list_pop mt_pop (pv 1)) pe_int (fun _ _ => rfl)) (pa_cons (pv 4) pa_nil))) pa_nil))))) pss_nil)
 (pss_one (ps_expr (pe_bm PySem.F.plainAttrs_list PySem.F.slot_list_append PySem.F.type_list_append mt_append (pv 1) (pa_cons (pe_tup (pa_cons (pv 2) (pa_cons (pv 4) pa_nil))) pa_nil)))))), ?_⟩
    refine ⟨(by show 1 ≤ sizeLine; decide), fun t0 nt0 => ⟨_, rfl, _, rfl, fa, _, rfl, same_new nt0 _ _ hf, fun H1 t1 s1 ht1 => ?_⟩⟩
    have s01 := (same_new (o := .tup [.int 0]) nt0).trans s1
    have ht0 := s1 _ _ (upd_same (H := H) (a := t0) (o := .tup [.int 0]))
    rw [cut_rest] at ht1
    refine ⟨t0, t1, _, _, rfl, rfl, ht0, ht1, by rw [List.length_singleton, List.length_map]; omega, fun H2 pw0 s2 hp => ?_⟩
    have s02 := s01.trans s2
    have hp : H2 pw0 = some (.tup (((0 : Int) :: xs).map V.int)) := hp
    have hD2 := s02 _ _ hD
    have hP2 := hP.keep s02
    -- behind the if: what is at D, what is at power
    refine ⟨fun σ' H' => ∃ (d0 : List Pc) (ys0 : List V) (pf : Addr) (c' : Int) (xs' : List Int), σ' = [some (.int m), some (.ref D), some (.str w0), some (.ref fa), some (.ref pf)] ∧ Rest H H' D ∧ H' D = some (.lst ys0) ∧ Pcs H' ys0 d0 ∧ d0.length ≤ done.length ∧
      H' pf = some (.tup ((c' :: xs').map V.int)) ∧ AddP done (d0 ++ [(w0, c', xs')]) (cs w0) xs ∧ (∀ p ∈ d0, p ∈ done) ∧ Pz m (k + 1) (w0, c', xs'), ?_, ?_⟩
    · have plainWay : ∀ H', Same H2 H' → ∃ (d0 : List Pc) (ys0 : List V) (pf : Addr) (c' : Int) (xs' : List Int), ([some (.int m), some (.ref D), some (.str w0), some (.ref fa), some (.ref pw0)] : L2.St) = [some (.int m), some (.ref D), some (.str w0), some (.ref fa), some (.ref pf)] ∧ Rest H H' D ∧ H' D = some (.lst ys0) ∧ Pcs H' ys0 d0 ∧ d0.length ≤ done.length ∧
          H' pf = some (.tup ((c' :: xs').map V.int)) ∧ AddP done (d0 ++ [(w0, c', xs')]) (cs w0) xs ∧ (∀ p ∈ d0, p ∈ done) ∧ Pz m (k + 1) (w0, c', xs') := fun H' s' =>
        ⟨done, ys, pw0, 0, xs, rfl, (fun b o _ e => s' _ _ (s02 _ _ e)), s' _ _ hD2, hP2.keep s', Nat.le_refl _, s' _ _ hp, addP_new done w0 xs, fun p h => h, ⟨⟨Int.le_refl 0, Int.pow_pos (by decide)⟩, hx, fun x h => Sz.le (sx x h) (by omega)⟩⟩
      refine ⟨_, rfl, (by show 0 ≤ sizeLine; decide), fun e0 ne0 => ?_⟩
      have s3 := same_new (o := .lst []) ne0
      refine ⟨D, e0, ys, rfl, rfl, s3 _ _ hD2, upd_same, _, rfl, ?_⟩
      have hD3 := s3 _ _ hD2
      have hP3 := hP2.keep s3
      have hp3 := s3 _ _ hp
      generalize upd H2 e0 (.lst []) = H3 at *
      by_cases en : done = []
      · subst en
        cases hP
        exact iteF (iteF (plainWay H3 s3))
      · obtain ⟨ys0, y, d0, p, rfl, rfl, hP0, ⟨ta, tf, rfl, hta, htf⟩⟩ := hP3.last en
        have ne : (!(ys0 ++ [V.ref ta]).isEmpty) = true := by simp
        rw [ne]
        have aty : atI (ys0 ++ [V.ref ta]) (-1) = some (V.ref ta) := at_last _ _
        refine iteT ⟨_, rfl, _, rfl, D, _, _, _, rfl, rfl, SqL.of hD3, aty, ta, _, _, _, rfl, rfl, SqT.of hta, (show atI [V.str p.1, V.ref tf] ((0 : Nat) : Int) = _ from atI_nat rfl), _, rfl, rfl, _, rfl, ite2 (fun e => ?_) (fun _ => iteF (plainWay H3 s3))⟩
        have e : p.1 = w0 := V.str.inj (of_decide_eq_true e)
        have pz := hz p (by simp)
        refine ⟨_, rfl, _, rfl, D, _, _, _, rfl, rfl, SqL.of hD3, aty, ta, _, _, _, rfl, rfl, SqT.of hta, (show atI [V.str p.1, V.ref tf] ((1 : Nat) : Int) = _ from atI_nat rfl), tf, p.2.1, p.2.2, rfl, htf, by rw [pz.l]; omega, fun H4 s4 => ⟨_, rfl, ?_⟩⟩
        by_cases pl : ∀ x ∈ p.2.2, x = 0
        · rw [decide_eq_true pl]
          exact iteF (plainWay H4 (s3.trans s4))
        · rw [decide_eq_false pl]
          refine iteT ?_
          have hD4 := s4 _ _ hD3
          have hP4 := hP0.keep s4
          have hta4 := s4 _ _ hta
          have htf4 := s4 _ _ htf
          have hp4 := s4 _ _ hp3
          have rest4 : Rest H H4 D := fun b o _ h => s4 _ _ (s3 _ _ (s02 _ _ h))
          have hl0 : (ys0 ++ [V.ref ta])[(ys0 ++ [V.ref ta]).length - 1]? = some (V.ref ta) := by
            rw [List.length_append, List.length_singleton, Nat.add_sub_cancel, List.getElem?_append_right (Nat.le_refl _), Nat.sub_self]
            rfl
          refine ⟨_, rfl, _, rfl, .inl ⟨rfl, _, SqL.of hD4⟩, D, _, V.ref ta, rfl, rfl, hD4, hl0, ?_⟩
          rw [List.dropLast_concat]
          have nt : ta ≠ D := ne_of hta4 hD4 (by intro z; cases z)
          have nf : tf ≠ D := ne_of htf4 hD4 (by intro z; cases z)
          have np : pw0 ≠ D := ne_of hp4 hD4 (by intro z; cases z)
          have hta5 : (upd H4 D (.lst ys0)) ta = some (.tup [.str p.1, .ref tf]) := by rw [upd_ne nt]; exact hta4
          have htf5 : (upd H4 D (.lst ys0)) tf = some (.tup ((fm p).map V.int)) := by rw [upd_ne nf]; exact htf4
          have hp5 : (upd H4 D (.lst ys0)) pw0 = some (.tup (((0 : Int) :: xs).map V.int)) := by rw [upd_ne np]; exact hp4
          have hP5 : Pcs (upd H4 D (.lst ys0)) ys0 d0 := Pcs.updL hD4 hP4
          have hD5 : (upd H4 D (.lst ys0)) D = some (.lst ys0) := upd_same
          have rest5 : Rest H (upd H4 D (.lst ys0)) D := fun b o nb h => by rw [upd_ne nb]; exact rest4 b o nb h
          generalize upd H4 D (.lst ys0) = H5 at *
          refine ⟨ta, _, _, _, rfl, rfl, SqT.of hta5, (show atI [V.str p.1, V.ref tf] ((1 : Nat) : Int) = _ from atI_nat rfl), _, rfl, (by show 2 ≤ sizeLine; decide), fun l nl => ?_⟩
          have s6 := same_new (o := .lst [.ref tf, .ref pw0]) nl
          refine ⟨m, l, [(tf, fm p), (pw0, 0 :: xs)], rfl, upd_same, by omega, by show 2 ≤ 100; decide, fun z hz' => ?_, fun H6 r s7 nr hr6 => ?_⟩
          · rcases List.mem_cons.mp hz' with rfl | hz'
            · exact ⟨s6 _ _ htf5, by show p.2.2.length + 1 = m + 1; rw [pz.l]⟩
            · rcases List.mem_singleton.mp hz' with rfl
              exact ⟨s6 _ _ hp5, by show xs.length + 1 = m + 1; rw [hx]⟩
          · have s67 := s6.trans s7
            rw [show fm p = p.2.1 :: p.2.2 from rfl, cols pz.l hx] at hr6
            have lz : p.2.2.length = xs.length := by rw [pz.l, hx]
            refine ⟨d0, ys0, r, p.2.1 + 0, List.zipWith (· + ·) p.2.2 xs, rfl, fun b o nb h => s67 _ _ (rest5 b o nb h), s67 _ _ hD5, hP5.keep s67, by rw [List.length_append]; omega, hr6, ?_, fun z hz' => List.mem_append_left _ hz', ?_⟩
            · have j := addP_join d0 w0 p.2.1 p.2.2 xs pz.c.1 (fun x h => (pz.x x h).1) (fun x h => (sx x h).1) lz
              have ep : p = (w0, p.2.1, p.2.2) := by rw [← e]
              rw [← ep] at j
              exact j
            · refine ⟨by show Sz (k + 1) (p.2.1 + 0); rw [Int.add_zero]; exact Sz.le pz.c (by omega), by show (List.zipWith (· + ·) p.2.2 xs).length = m; rw [List.length_zipWith, lz, Nat.min_self, hx], fun x h => ?_⟩
              obtain ⟨i, hi⟩ := List.mem_iff_getElem?.mp h
              rw [List.getElem?_zipWith] at hi
              cases e1 : p.2.2[i]? with
              | none => rw [e1] at hi; cases hi
              | some a =>
                cases e2 : xs[i]? with
                | none => rw [e1, e2] at hi; cases hi
                | some b =>
                  rw [e1, e2] at hi
                  cases hi
                  exact Sz.add (pz.x a (List.mem_of_getElem? e1)) (sx b (List.mem_of_getElem? e2))
    · rintro σ' H' ⟨d0, ys0, pf, c', xs', rfl, hR, hD', hP', l0, hpf, hA, hmem, hpz⟩
      have l1 := hP'.len
      refine ⟨_, rfl, .inl ⟨rfl, _, SqL.of hD'⟩, _, rfl, _, rfl, (by show 2 ≤ sizeLine; decide), fun t nt => ?_⟩
      have s1 := same_new (o := .tup [.str w0, .ref pf]) nt
      have hD2' := s1 _ _ hD'
      refine ⟨D, ys0, _, rfl, rfl, hD2', small1000 (by omega), q _ (d0 ++ [(w0, c', xs')]) (fun b o nb e => ?_) ⟨_, upd_same, Pcs.updL hD2' (Pcs.snoc (m := (w0, c', xs')) ⟨t, pf, rfl, upd_same, s1 _ _ hpf⟩ (hP'.keep s1))⟩ hA (by rw [List.length_append, List.length_singleton]; omega) fun p hp => ?_⟩
      · rw [upd_ne nb]
        exact s1 _ _ (hR b o nb e)
      · rcases List.mem_append.mp hp with h | h
        · exact ⟨(hz p (hmem p h)).le (by omega), .inr ⟨p, hmem p h, rfl⟩⟩
        · rcases List.mem_singleton.mp h with rfl
          exact ⟨hpz, .inl rfl⟩
end
end K4
set_option Elab.async false
set_option linter.all false
set_option maxRecDepth 100000
set_option maxHeartbeats 8000000
namespace K4
open PySem PySem.Spec PyProof.Rows L2 XV NP
theorem lin_nn {m k0 : Nat} {ps : List Pc} (h : ∀ p ∈ ps, Pz m k0 p) (k : Nat → Bool) (j : Nat) : 0 ≤ lin k j ps := by
  induction ps with
  | nil => exact Int.le_refl 0
  | cons p ps ih =>
    have e : lin k j (p :: ps) = cn k p.1 * fj p j + lin k j ps := by
      unfold lin
      rw [List.map_cons, List.sum_cons]
    have z := h p List.mem_cons_self
    have a : 0 ≤ fj p j := by
      cases j with
      | zero => exact z.c.1
      | succ j => exact getD_nn (fun x hx => (z.x x hx).1) j
    have b : 0 ≤ cn k p.1 := by
      unfold cn
      omega
    have c := Int.mul_nonneg b a
    have d := ih fun q hq => h q (List.mem_cons_of_mem _ hq)
    rw [e]
    omega
def tt : Nat → Bool := fun _ => true
theorem cn_tt (w : Str) : cn tt w = ((cs w).length : Int) := by
  unfold cn tt
  rw [List.countP_true]
theorem mulOk {z : Str} {n : Int} (h0 : 0 ≤ n) (hz : cs z ≠ []) (hl : (cs z).length * n.toNat ≤ 100000) : MulOk z n := by
  have l1 : 1 ≤ (cs z).length := List.length_pos_iff.mpr hz
  have n1 : n.toNat ≤ 100000 := by
    have := Nat.mul_le_mul_right n.toNat l1
    omega
  refine ⟨?_, fun h _ => ?_, fun h _ => ?_⟩
  · rw [decide_eq_false (by omega), decide_eq_false (by omega)]
    rfl
  · rw [cs_len]
    have e : ((cs z).length : Int) * n ≤ 2 ^ 63 - 1 := by
      have e1 : (((cs z).length * n.toNat : Nat) : Int) = ((cs z).length : Int) * n := by rw [Int.natCast_mul, Int.toNat_of_nonneg h0]
      omega
    have := Int.le_ediv_of_mul_le (show 0 < n by omega) e
    omega
  · rw [cs_len]
    unfold Builtin.Str.tooLong
    exact decide_eq_false (by rw [sizeLine_eq]; omega)
theorem ab_sub {z : Str} {l : List Nat} (h : AB z) (s : ∀ c ∈ l, c ∈ cs z) : ∀ c ∈ l, c = 97 ∨ c = 98 := fun c hc => h c (s c hc)
theorem pw_mem {α : Type} {w : List α} {c : α} : ∀ {n : Nat}, c ∈ pw w n → c ∈ w
  | 0, h => by simp [pw_zero] at h
  | n + 1, h => by
    rw [pw_succ] at h
    rcases List.mem_append.mp h with h | h
    · exact h
    · exact pw_mem h
abbrev sNP : Stmt := top 39
abbrev nNP : List Str := ["many", "pieces", "done", "fixed", "word", "form", "root", "passing", "staying"]
theorem scNP : FnScope nNP ["many", "pieces"] (defScope sNP) := ⟨rfl, rfl, rfl, by decide +kernel, rfl, by decide +kernel, by decide +kernel⟩
/-- pieces that the law makes -/
structure Ps (m : Nat) (ps : List Pc) : Prop where
  z : ∀ p ∈ ps, Pz m 200 p
  w : ∀ p ∈ ps, AB p.1 ∧ (cs p.1).length ≤ 2000
  l : ps.length ≤ 20
  c : lin tt 0 ps ≤ 2000
/-- what is done so far -/
structure Dn (m k : Nat) (done : List Pc) : Prop where
  z : ∀ p ∈ done, Pz m k p
  w : ∀ p ∈ done, AB p.1 ∧ (cs p.1).length ≤ 4000
  e : ∀ p ∈ done, cs p.1 ≠ []
def spNP : Sp := fun vs H Q _ => ∃ (m : Nat) (pl : Addr) (ps : List Pc), vs = [.int m, .ref pl] ∧ m ≤ 3 ∧ PL H pl ps ∧ Ps m ps ∧
  ∀ (H' : Hp) (l : Addr) (done : List Pc), Same H H' → H l = none → PL H' l done → NI ps done [] → done.length ≤ 2 * ps.length + 1 → Dn m 400 done → Q (.ref l) H'
section
variable {P : Program} {w : World} {K : PySem.W.Frag} {mg : Str → Option Value} {base : Heap} {f : Addr} {fd : FuncData}
theorem ok_np (F : FnP K "normal_pieces" sNP f fd) (o_plain : Ok P w K mg base "is_plain" 1 ["form"] spPlainQ) (o_root : Ok P w K mg base "root_of" 1 ["word"] spRoot) (o_times : Ok P w K mg base "form_times" 1 ["form", "times"] spTimes)
    (o_common : Ok P w K mg base "common_end" 1 ["text", "word"] spCommon) (o_turned : Ok P w K mg base "turned" 1 ["word", "letters"] spTurned) (o_fixed : Ok P w K mg base "add_fixed" 2 ["many", "done", "word"] spAddF) (o_power : Ok P w K mg base "add_power" 2 ["many", "done", "word", "form"] spAddP)
    (z_any : mg "any" = none) (z_len : mg "len" = none) : FnOk P w K mg base CX0 3 f fd ["many", "pieces"] spNP := by
  have nd := scNP.nd
  refine F.ok scNP (fun vs H Q E h => ?_) (fun cdv A outer s H vs Q E hr h => ?_)
  · obtain ⟨m, pl, ps, rfl, _⟩ := h
    rfl
  · obtain ⟨m, pl, ps, rfl, hm, ⟨xs, hp, hP⟩, hPs, q⟩ := h
    have lx := hP.len
    have l20 := hPs.l
    have szl := sizeLine_eq
    refine ⟨_, PSs.nox (pss_cons (ps_set (i := 2) nd rfl (Or.inl rfl) (pe_lst pa_nil))
 (pss_cons (ps_set (i := 3) nd rfl (Or.inl rfl) pe_str)
 (pss_cons (ps_for PassesOwn.never rfl (pi_list (pv 1)) (pg_tup rfl (pgs_cons (pg_name (i := 4) nd rfl (Or.inl rfl)) (pgs_cons (pg_name (i := 5) nd rfl (Or.inl rfl)) pgs_nil))) (pss_cons (ps_if (PW.pt (pw_or (pt_cmpR op_eq (pv 4) pe_str (nomark _)) (pw_or1 (pt_not (pt_val (pe_callB (call_anyT rfl) (by rfl) z_any (by decide +kernel) (pa_cons (pv 5) pa_nil))))))) (pss_one (ps_continue)) pss_nil)
 (pss_cons (ps_if (pt_val (pe_callO o_plain (hr.mono (by decide)) (by rfl) (pa_cons (pv 5) pa_nil))) (pss_cons (ps_aug (i := 3) nd rfl (Or.inl rfl) (pe_op op_mulS (pv 4) (pe_ix ix_tup (pv 5) pe_int (fun _ _ => rfl))) ip_addS)
 (pss_one (ps_continue))) pss_nil)
 (pss_cons (ps_set (i := 6) nd rfl (Or.inl rfl) (pe_callO o_root (hr.mono (by decide)) (by rfl) (pa_cons (pv 4) pa_nil)))
 (pss_cons (ps_set (i := 5) nd rfl (Or.inl rfl) (pe_callO o_times (hr.mono (by decide)) (by rfl) (pa_cons (pv 5) (pa_cons (pe_op op_fdivN (pe_callB call_len (by rfl) z_len boot_len (pa_cons (pv 4) pa_nil)) (pe_callB call_len (by rfl) z_len boot_len (pa_cons (pv 6) pa_nil))) pa_nil))))
 (pss_cons (ps_set (i := 7) nd rfl (Or.inl rfl) (pe_callO o_common (hr.mono (by decide)) (by rfl) (pa_cons (pv 3) (pa_cons (pv 6) pa_nil))))
 (pss_cons (ps_set (i := 8) nd rfl (Or.inl rfl) (pe_slice sl_str (pv 3) po_none (po_some (pe_op op_sub (pe_callB call_len (by rfl) z_len boot_len (pa_cons (pv 3) pa_nil)) (pv 7)))))
 (pss_cons (ps_expr (pe_callO o_fixed (hr.mono (by decide)) (by rfl) (pa_cons (pv 0) (pa_cons (pv 2) (pa_cons (pv 8) pa_nil)))))
 (pss_cons (ps_expr (pe_callO o_power (hr.mono (by decide)) (by rfl) (pa_cons (pv 0) (pa_cons (pv 2) (pa_cons (pe_callO o_turned (hr.mono (by decide)) (by rfl) (pa_cons (pv 6) (pa_cons (pv 7) pa_nil))) (pa_cons (pv 5) pa_nil))))))
 (pss_one (ps_set (i := 3) nd rfl (Or.inl rfl) (pe_op op_add_str (pe_slice sl_str (pv 3) (po_some (pe_callB call_len (by rfl) z_len boot_len (pa_cons (pv 8) pa_nil))) po_none) (pe_op op_mulS (pv 6) (pe_ix ix_tup (pv 5) pe_int (fun _ _ => rfl)))))))))))))))
 (pss_cons (ps_expr (pe_callO o_fixed (hr.mono (by decide)) (by rfl) (pa_cons (pv 0) (pa_cons (pv 2) (pa_cons (pv 3) pa_nil)))))
 (pss_one (ps_ret (pv 2))))))), ?_⟩
    refine ⟨(by show 0 ≤ sizeLine; decide), fun D nD => ?_⟩
    have s1 := same_new (o := .lst []) nD
    have sR : ∀ {H1 H2 : Hp}, Same H H1 → Rest H1 H2 D → Same H H2 := fun s r b o e => r b o (ne_of_none e nD) (s b o e)
    refine ⟨_, rfl, pl, rfl, ⟨_, SqL.of (s1 _ _ hp)⟩, for_list (K := K) (a := pl) (xs := xs) (fun i σ H' => Same H H' ∧ ∃ (fx : Str) (done : List Pc) (x4 x5 x6 x7 x8 : Option V), σ = [some (.int m), some (.ref pl), some (.ref D), some (.str fx), x4, x5, x6, x7, x8] ∧
      PL H' D done ∧ NI (ps.take i) done (cs fx) ∧ done.length ≤ 2 * i ∧ Dn m (300 + i) done ∧ AB fx) ⟨s1, "", [], _, _, _, _, _, rfl, ⟨[], upd_same, .nil⟩, NI.nil, Nat.le_refl _, ⟨fun p hp => (by cases hp), fun p hp => (by cases hp), fun p hp => (by cases hp)⟩, fun c hc => (by
        have e : cs ("" : Str) = [] := by decide +kernel
        rw [e] at hc
        cases hc)⟩ (fun i σ H' _ z => SqL.of (z.1 _ _ hp)) ?_ ?_⟩
    · rintro i y σ H1 hi ⟨sm, fx, done, x4, x5, x6, x7, x8, rfl, hL, ni, ld, dn, afx⟩
      obtain ⟨p, ep, ⟨a, f1, rfl, ha, hf⟩⟩ := (hP.keep sm).get hi
      have li : i < 20 := by
        have := (List.getElem?_eq_some_iff.mp ep).1
        omega
      have pz := hPs.z p (List.mem_of_getElem? ep)
      obtain ⟨abp, l2000⟩ := hPs.w p (List.mem_of_getElem? ep)
      have etk : ps.take (i + 1) = ps.take i ++ [p] := by rw [List.take_add_one, ep]; rfl
      -- how long the fixed word is
      have total : lin tt 0 (ps.take (i + 1)) ≤ 2000 := by
        have e : lin tt 0 ps = lin tt 0 (ps.take (i + 1)) + lin tt 0 (ps.drop (i + 1)) := by rw [← lin_app, List.take_append_drop]
        have n := lin_nn (fun p hp => hPs.z p (List.mem_of_mem_drop hp)) tt 0 (ps := ps.drop (i + 1))
        have := hPs.c
        omega
      have parts : ((cs fx).length : Int) + ((cs p.1).length : Int) * p.2.1 ≤ 2000 := by
        rw [etk, lin_app, lin_one, ni.n, if_pos rfl, cn_tt] at total
        have n := lin_nn dn.z tt 0
        have e : (cs fx).countP tt = (cs fx).length := by
            show (cs fx).countP (fun _ => true) = _
            rw [List.countP_true]
        rw [e] at total
        have : fj p 0 = p.2.1 := rfl
        rw [this] at total
        omega
      have c0 := pz.c.1
      have pos2 : 0 ≤ ((cs p.1).length : Int) * p.2.1 := Int.mul_nonneg (by omega) c0
      have lfx : (cs fx).length ≤ 2000 := by omega
      have dp : ∀ (H0 : Hp) (l : List Int), DpAll K H0 (l.map V.int) (l.map PyData.int) := fun H0 l => by
        induction l with
        | nil => exact .nil
        | cons x l ih => exact .cons (.int x) ih
      have pa : ∀ l : List Int, PyData.plainAll (l.map PyData.int) = true := fun l => by
        induction l with
        | nil => simp [PyData.plainAll]
        | cons x xs ih => simp [PyData.plainAll, PyData.plain, ih]
      have tr : ∀ l : List Int, ((l.map PyData.int).any PyData.truthy) = decide (¬ ∀ x ∈ l, x = 0) := fun l => by
        induction l with
        | nil => simp
        | cons x xs ih =>
          rw [List.map_cons, List.any_cons, ih]
          by_cases h : x = 0
          · simp [PyData.truthy, h]
          · simp [PyData.truthy, h]
      refine ⟨a, _, rfl, SqT.of ha, rfl, _, _, rfl, _, _, rfl, rfl, ?_⟩
      refine ⟨_, rfl, rfl, _, rfl, ite2 (fun e => ?_) (fun e => ?_)⟩
      · have e : p.1 = "" := V.str.inj (of_decide_eq_true e)
        refine iteT ⟨sm, fx, done, _, _, _, _, _, rfl, hL, ?_, by omega, ⟨fun q hq => (dn.z q hq).le (by omega), dn.w, dn.e⟩, afx⟩
        rw [etk]
        exact ni.skip p (.inl (by rw [e]; decide +kernel))
      have ne : cs p.1 ≠ [] := fun z => e (by rw [cs_nil z]; exact decide_eq_true rfl)
      refine ⟨_, rfl, f1, _, (fm p).map PyData.int, rfl, SqT.of hf, dp _ _, pa _, ?_, _, rfl, ?_⟩
      · intro d hd
        obtain ⟨x, _, rfl⟩ := List.mem_map.mp hd
        trivial
      rw [tr]
      by_cases az : ∀ x ∈ fm p, x = 0
      · rw [decide_eq_false (fun z => z az)]
        refine iteT ⟨sm, fx, done, _, _, _, _, _, rfl, hL, ?_, by omega, ⟨fun q hq => (dn.z q hq).le (by omega), dn.w, dn.e⟩, afx⟩
        rw [etk]
        exact ni.skip p (.inr ⟨az _ List.mem_cons_self, fun x hx => az x (List.mem_cons_of_mem _ hx)⟩)
      rw [decide_eq_true az]
      refine iteF ⟨_, rfl, f1, p.2.1, p.2.2, rfl, hf, by rw [pz.l]; omega, fun H2 s2 => ⟨_, rfl, ?_⟩⟩
      have hf2 := s2 _ _ hf
      have sm2 := sm.trans s2
      have hL2 : PL H2 D done := by
        obtain ⟨ys, h1, h2⟩ := hL
        exact ⟨ys, s2 _ _ h1, h2.keep s2⟩
      have at0 : ∀ (c : Int) (l : List Int), atI ((c :: l).map V.int) ((0 : Nat) : Int) = some (V.int c) := fun c l => atI_nat rfl
      by_cases pl0 : ∀ x ∈ p.2.2, x = 0
      · rw [decide_eq_true pl0]
        have lm : (cs p.1).length * p.2.1.toNat ≤ 2000 := by
          have e1 : (((cs p.1).length * p.2.1.toNat : Nat) : Int) = ((cs p.1).length : Int) * p.2.1 := by rw [Int.natCast_mul, Int.toNat_of_nonneg c0]
          omega
        refine iteT ⟨_, rfl, _, rfl, _, rfl, f1, _, _, _, rfl, rfl, SqT.of hf2, at0 _ _, _, _, rfl, rfl, mulOk c0 ne (by omega), _, _, rfl, rfl, ?_, ?_⟩
        · rw [cs_len, cs_len, cs_mul _ c0, pw_len]
          rw [Nat.mul_comm] at lm
          omega
        · refine ⟨sm2, _, done, _, _, _, _, _, rfl, hL2, ?_, by omega, ⟨fun q hq => (dn.z q hq).le (by omega), dn.w, dn.e⟩, fun c hc => ?_⟩
          · rw [etk, cs_app, cs_mul _ c0]
            exact ni.plain p c0 pl0
          · rw [cs_app, cs_mul _ c0] at hc
            rcases List.mem_append.mp hc with h | h
            · exact afx c h
            · exact abp c (pw_mem h)
      rw [decide_eq_false pl0]
      refine iteF ⟨_, rfl, p.1, rfl, ne, by omega, fun r n hr0 hlen hpw => ?_⟩
      have nr : cs r ≠ [] := List.length_pos_iff.mp hr0
      have n1 : 1 ≤ n := by
        by_cases z : n = 0
        · rw [z, Nat.zero_mul] at hlen
          exact absurd (List.length_eq_zero_iff.mp hlen) ne
        · omega
      have lr : (cs r).length ≤ 2000 := by
        have := Nat.mul_le_mul_right (cs r).length n1
        omega
      have ln : n ≤ 2000 := by
        have := Nat.mul_le_mul_left n (show 1 ≤ (cs r).length by omega)
        omega
      have div : Int.fdiv ((cs p.1).length : Int) ((cs r).length : Int) = (n : Int) := by
        rw [← Int.ofNat_fdiv, hlen, Nat.mul_div_cancel _ hr0]
      have abr : AB r := fun c hc => abp c (by
        rw [hpw]
        obtain ⟨k, rfl⟩ : ∃ k, n = k + 1 := ⟨n - 1, by omega⟩
        rw [pw_succ]
        exact List.mem_append_left _ hc)
      have pm : ∀ x : Int, Sz 200 x → Sz 300 (x * (n : Int)) := fun x h => by
        have := Sz.mul (k := 200) (l := 100) h (y := (n : Int)) ⟨by omega, Int.lt_of_le_of_lt (b := 2000) (by omega) (by decide)⟩
        exact this
      refine ⟨_, rfl, _, rfl, _, (cs p.1).length, rfl, ⟨by rw [cs_len]; omega, cs_len _⟩, _, rfl, _, (cs r).length, rfl, ⟨by rw [cs_len]; omega, cs_len _⟩, _, _, rfl, rfl, ⟨by omega, by omega⟩, f1, (n : Int), fm p, by rw [← div]; rfl, hf2, by show p.2.2.length + 1 ≤ 100; rw [pz.l]; omega, ?_, ⟨by omega, Int.lt_of_le_of_lt (b := 2000) (by omega) (by decide +kernel)⟩, fun H3 g s3 ng hg => ?_⟩
      · intro x hx
        rcases List.mem_cons.mp hx with rfl | hx
        · exact Sz.le pz.c (by decide)
        · exact Sz.le (pz.x x hx) (by decide)
      have hg : H3 g = some (.tup (((p.2.1 * (n : Int)) :: p.2.2.map (· * (n : Int))).map V.int)) := hg
      refine ⟨_, rfl, _, rfl, fx, r, rfl, nr, by omega, by omega, fun same hs hend => ?_⟩
      have sm3 := sm2.trans s3
      obtain ⟨ys, hD3, hP3⟩ : PL H3 D done := by
        obtain ⟨ys, h1, h2⟩ := hL2
        exact ⟨ys, s3 _ _ h1, h2.keep s3⟩
      have esub : ((cs fx).length : Int) - (same : Int) = (((cs fx).length - same : Nat) : Int) := by omega
      refine ⟨_, rfl, _, rfl, _, (cs fx).length, rfl, ⟨by rw [cs_len]; omega, cs_len _⟩, _, rfl, _, _, rfl, rfl, _, rfl, _, rfl, by rw [cs_len]; omega, ?_⟩
      have est : cs (cutS fx none (some (((cs fx).length : Int) - (same : Int)))) = (cs fx).take ((cs fx).length - same) := by rw [esub, cut_to _ _ (by omega)]
      have lst : (cs (cutS fx none (some (((cs fx).length : Int) - (same : Int))))).length = (cs fx).length - same := by rw [est, List.length_take]; omega
      refine ⟨_, rfl, _, rfl, _, rfl, m, D, _, done, rfl, hm, ⟨ys, hD3, hP3⟩, by omega, fun H4 d1 R4 hL4 A1 l1 mem1 => ?_⟩
      have A1 : AddF m done d1 ((cs fx).take ((cs fx).length - same)) := by
        rw [← est]
        exact A1
      have sm4 := sR sm3 R4
      have hg4 : H4 g = some (.tup (((p.2.1 * (n : Int)) :: p.2.2.map (· * (n : Int))).map V.int)) := R4 _ _ (ne_of hg hD3 (by intro z; cases z)) hg
      have abst : AB (cutS fx none (some (((cs fx).length : Int) - (same : Int)))) := fun c hc => afx c (by
        rw [est] at hc
        exact List.mem_of_mem_take hc)
      have dz1 : ∀ q ∈ d1, Pz m (300 + i) q := fun q hq => by
        rcases mem1 q hq with h | ⟨rfl, _⟩
        · exact dn.z q h
        · refine ⟨⟨by show (0 : Int) ≤ 1; decide, ?_⟩, List.length_replicate, fun x hx => ?_⟩
          · show (1 : Int) < 2 ^ (300 + i)
            exact (Sz.le (k := 1) (l := 300 + i) (x := 1) ⟨by decide, by decide⟩ (by omega)).2
          · rw [(List.mem_replicate.mp hx).2]
            exact ⟨Int.le_refl 0, Int.pow_pos (by decide)⟩
      refine ⟨_, rfl, _, rfl, _, rfl, _, rfl, r, same, rfl, nr, by omega, fun tr0 htr => ⟨_, rfl, m, 300 + i, D, g, tr0, _, _, d1, rfl, hm, by omega, hL4, by omega, dz1, hg4, by rw [List.length_map, pz.l], ?_, fun H5 d2 R5 hL5 A2 l2 mem2 => ?_⟩⟩
      · intro x hx
        obtain ⟨x0, hx0, rfl⟩ := List.mem_map.mp hx
        exact Sz.le (pm x0 (pz.x x0 hx0)) (by omega)
      have sm5 := sR sm4 R5
      obtain ⟨ys4, hD4, _⟩ := id hL4
      have hg5 := R5 _ _ (ne_of hg4 hD4 (by intro z; cases z)) hg4
      rw [htr] at A2
      have nn : 0 ≤ p.2.1 * (n : Int) := Int.mul_nonneg c0 (by omega)
      have lm : (cs r).length * (p.2.1 * (n : Int)).toNat ≤ 2000 := by
        have e1 : (((cs r).length * (p.2.1 * (n : Int)).toNat : Nat) : Int) = ((cs p.1).length : Int) * p.2.1 := by
          rw [Int.natCast_mul, Int.toNat_of_nonneg nn, hlen, Int.natCast_mul, Int.mul_comm p.2.1, ← Int.mul_assoc, Int.mul_comm ((cs r).length : Int)]
        omega
      refine ⟨_, rfl, _, rfl, _, (cs fx).length - same, rfl, ⟨by rw [cs_len, lst]; omega, by rw [cs_len, lst]⟩, _, rfl, _, rfl, by rw [cs_len]; omega, ?_⟩
      have edr : cs (cutS fx (some (((cs fx).length - same : Nat) : Int)) none) = (cs fx).drop ((cs fx).length - same) := cut_from _ _ (by omega)
      refine ⟨_, rfl, _, rfl, g, _, _, _, rfl, rfl, SqT.of hg5, at0 _ _, _, _, rfl, rfl, mulOk nn nr (by omega), _, _, rfl, rfl, ?_, ?_⟩
      · rw [cs_len, cs_len, edr, cs_mul _ nn, pw_len, List.length_drop]
        rw [Nat.mul_comm] at lm
        omega
      · refine ⟨sm5, _, d2, _, _, _, _, _, rfl, hL5, ?_, by omega, ⟨fun q hq => (mem2 q hq).1, fun q hq => ?_, fun q hq => ?_⟩, fun c hc => ?_⟩
        · rw [etk, cs_app, edr, cs_mul _ nn]
          exact ni.power p c0 (fun x hx => (pz.x x hx).1) hr0 hpw hs hend A1 A2
        · have base1 : ∀ q ∈ d1, AB q.1 ∧ (cs q.1).length ≤ 4000 := fun q hq => by
            rcases mem1 q hq with h | ⟨rfl, _⟩
            · exact dn.w q h
            · exact ⟨abst, by show (cs (cutS fx none _)).length ≤ 4000; rw [lst]; omega⟩
          rcases (mem2 q hq).2 with e | ⟨q', hq', e⟩
          · rw [e]
            refine ⟨fun c hc => abr c ?_, ?_⟩
            · rw [htr] at hc
              rcases List.mem_append.mp hc with h | h
              · exact List.mem_of_mem_drop h
              · exact List.mem_of_mem_take h
            · rw [htr]
              unfold turnW
              rw [List.length_append, List.length_drop, List.length_take]
              omega
          · rw [e]
            exact base1 q' hq'
        · rcases (mem2 q hq).2 with e | ⟨q', hq', e⟩
          · rw [e, htr]
            refine List.length_pos_iff.mp ?_
            unfold turnW
            rw [List.length_append, List.length_drop, List.length_take]
            omega
          · rw [e]
            rcases mem1 q' hq' with h | ⟨rfl, ne⟩
            · exact dn.e q' h
            · exact ne
        · rw [cs_app, edr, cs_mul _ nn] at hc
          rcases List.mem_append.mp hc with h | h
          · exact afx c (List.mem_of_mem_drop h)
          · exact abr c (pw_mem h)
    · rintro σ H1 ⟨sm, fx, done, x4, x5, x6, x7, x8, rfl, hL, ni, ld, dn, afx⟩
      rw [lx, List.take_length] at ni
      refine ⟨_, rfl, _, rfl, _, rfl, m, D, fx, done, rfl, hm, hL, by omega, fun H2 d2 R2 hL2 A2 l2 mem2 => ⟨_, rfl, q H2 D d2 (sR sm R2) nD hL2 ⟨fun ys hy => ?_, fun k j => ?_⟩ (by omega) ⟨fun p hp => ?_, fun p hp => ?_, fun p hp => ?_⟩⟩⟩
      · rw [ni.v ys hy, A2.1 ys hy, List.append_nil]
      · rw [ni.n, A2.2]
        cases j with
        | zero => simp
        | succ j => simp
      · rcases mem2 p hp with h | ⟨rfl, _⟩
        · exact (dn.z p h).le (by omega)
        · refine ⟨⟨by show (0 : Int) ≤ 1; decide, ?_⟩, List.length_replicate, fun x hx => ?_⟩
          · exact (Sz.le (k := 1) (l := 400) (x := 1) ⟨by decide, by decide⟩ (by omega)).2
          · rw [(List.mem_replicate.mp hx).2]
            exact ⟨Int.le_refl 0, Int.pow_pos (by decide)⟩
      · rcases mem2 p hp with h | ⟨rfl, _⟩
        · exact dn.w p h
        · refine ⟨afx, ?_⟩
          have total := hPs.c
          rw [ni.n, if_pos rfl] at total
          have n := lin_nn dn.z tt 0
          have e : (cs fx).countP tt = (cs fx).length := by
            show (cs fx).countP (fun _ => true) = _
            rw [List.countP_true]
          rw [e] at total
          show (cs fx).length ≤ 4000
          omega
      · rcases mem2 p hp with h | ⟨rfl, ne⟩
        · exact dn.e p h
        · exact ne
end
end K4
set_option Elab.async false
set_option linter.all false
set_option maxRecDepth 100000
set_option maxHeartbeats 4000000
namespace K4
open PySem PySem.Spec PyProof.Rows L2 XV
/-- whether a value is a form for m unknowns -/
def IsF (H : Hp) (m : Nat) (v : V) (b : Bool) : Prop := (∃ a xs, v = .ref a ∧ H a = some (.tup xs) ∧ xs.length ≤ 100 ∧ (∀ x ∈ xs, Kn H x) ∧ b = (decide (xs.length = m + 1) && xs.all cntV)) ∨
  (((∃ a xs, v = .ref a ∧ H a = some (.lst xs)) ∨ (∃ i, v = .int i) ∨ v = .non ∨ (∃ z, v = .bl z) ∨ ∃ z, v = .str z) ∧ b = false)
/-- whether it is a list of m counts -/
def IsP (H : Hp) (m : Nat) (v : V) (b : Bool) : Prop := (∃ a xs, v = .ref a ∧ H a = some (.lst xs) ∧ xs.length ≤ 100 ∧ (∀ x ∈ xs, Kn H x) ∧ b = (decide (xs.length = m) && xs.all cntV)) ∨
  (((∃ a xs, v = .ref a ∧ H a = some (.tup xs)) ∨ (∃ i, v = .int i) ∨ v = .non ∨ (∃ z, v = .bl z) ∨ ∃ z, v = .str z) ∧ b = false)
theorem IsF.keep {H H' : Hp} (s : Same H H') {m : Nat} {v : V} {b : Bool} (h : IsF H m v b) : IsF H' m v b := by
  rcases h with ⟨a, xs, e, h1, h2, h3, h4⟩ | ⟨h, e⟩
  · exact .inl ⟨a, xs, e, s _ _ h1, h2, fun x hx => (h3 x hx).keep s, h4⟩
  · refine .inr ⟨?_, e⟩
    rcases h with ⟨a, xs, e, h⟩ | h
    · exact .inl ⟨a, xs, e, s _ _ h⟩
    · exact .inr h
theorem IsP.keep {H H' : Hp} (s : Same H H') {m : Nat} {v : V} {b : Bool} (h : IsP H m v b) : IsP H' m v b := by
  rcases h with ⟨a, xs, e, h1, h2, h3, h4⟩ | ⟨h, e⟩
  · exact .inl ⟨a, xs, e, s _ _ h1, h2, fun x hx => (h3 x hx).keep s, h4⟩
  · refine .inr ⟨?_, e⟩
    rcases h with ⟨a, xs, e, h⟩ | h
    · exact .inl ⟨a, xs, e, s _ _ h⟩
    · exact .inr h
def spHasForm : Sp := fun vs H Q _ => ∃ (m : Nat) (v : V) (b : Bool), vs = [.int m, v] ∧ IsF H m v b ∧ ∀ H', Same H H' → Q (.bl b) H'
def spIsPoint : Sp := fun vs H Q _ => ∃ (m : Nat) (v : V) (b : Bool), vs = [.int m, v] ∧ IsP H m v b ∧ ∀ H', Same H H' → Q (.bl b) H'
theorem nat_dec (x y : Nat) : decide (V.int (x : Int) = V.int (y : Int)) = decide (x = y) := by
  by_cases e : x = y
  · rw [e, decide_eq_true rfl, decide_eq_true rfl]
  · rw [decide_eq_false e, decide_eq_false]
    intro z
    have := V.int.inj z
    omega
section
variable {P : Program} {w : World} {K : PySem.W.Frag} {mg : Str → Option Value} {base : Heap} {f : Addr} {fd : FuncData}
theorem ok_hasForm (F : FnP K "has_form" sHasForm f fd) (o_is_count : Ok P w K mg base "is_count" 2 ["value"] spCount) (z_isinstance : mg "isinstance" = none) (z_tuple : mg "tuple" = none) (z_len : mg "len" = none) (z_all : mg "all" = none) :
    FnOk P w K mg base CX0 3 f fd ["many", "item"] spHasForm := by
  have nd := scHasForm.nd
  refine F.ok scHasForm (fun vs H Q E h => ?_) (fun cdv A outer s H vs Q E hr h => ?_)
  · obtain ⟨m, v, b, rfl, _⟩ := h
    rfl
  · obtain ⟨m, v, b, rfl, hF, q⟩ := h
    have hr2 : Room 2 (A.deeper (envOfC "has_form" (defScope sHasForm) s.heap.objs.size f cdv)) := hr
    refine ⟨_, PSs.nox (pss_one (ps_ret (pe_and (pe_callB call_isi (by rfl) z_isinstance (by decide +kernel) (pa_cons (pv 1) (pa_cons (pe_bltn (v := .ty "tuple") (by rfl) z_tuple (by decide +kernel) rfl) pa_nil))) (pe_and (pe_cmpR op_eq (pe_callB call_len (by rfl) z_len boot_len (pa_cons (pv 1) pa_nil)) (pe_op op_add (pv 0) pe_int) (nomark _)) (pe_one (pe_callB (cr_all rfl) (by rfl) z_all (by decide +kernel) (pa_cons
      (pe_lc (own := [("number", 2)]) (g := gName 2) (by rfl) nd (pi_tup (pv 1)) (blkOk_by (N := ["many", "item", "number"]) (sc := defScope sHasForm) (own := [("number", 2)]) (by decide +kernel)) (fun _ _ _ _ _ => pg_name (i := 2) nd rfl (Or.inl rfl)) (fun _ _ _ _ _ => pts_nil) (fun _ _ _ _ _ => pe_callO o_is_count hr2 (by rfl) (pa_cons (pv 2) pa_nil))) pa_nil))))))), ?_⟩
    rcases hF with ⟨a, xs, rfl, hf, h100, kn, rfl⟩ | ⟨h, rfl⟩
    · refine ⟨_, rfl, _, _, _, _, true, rfl, .ty "tuple", .base (.tup hf), kit_ty (by decide +kernel), true, rfl, .ref a, rfl, _, xs.length, rfl, .inr ⟨_, SqT.of hf, rfl⟩, _, rfl, _, _, rfl, rfl, rfl, decide (xs.length = m + 1), congrArg V.bl (nat_dec xs.length (m + 1)), ?_⟩
      by_cases c : xs.length = m + 1
      · rw [decide_eq_true c] at q ⊢
        refine iteT ⟨_, rfl, a, rfl, ⟨_, SqT.of hf⟩, fun D nD => lc_tup (K := K) (a := a) (xs := xs) (fun k H' => Same H H' ∧ H' D = some (.lst (((xs.map cntV).take k).map V.bl))) ⟨same_new nD, upd_same⟩ (fun k H' _ p => SqT.ext (SqT.of hf) p.1) ?_ ?_⟩
        · rintro k y H' hk ⟨sm, hD⟩
          have li : k < xs.length := (List.getElem?_eq_some_iff.mp hk).1
          refine ⟨rfl, ?_⟩
          refine ⟨_, rfl, y, rfl, (kn y (List.mem_of_getElem? hk)).keep sm, _, hD, ?_, fun b o e => ?_, ?_⟩
          · rw [List.length_map]
            exact small1000 (Nat.le_trans (List.length_take_le _ _) (by omega))
          · rw [upd_ne (ne_of_none (H := H) e nD)]
            exact sm _ _ e
          · rw [upd_same, List.take_add_one, List.getElem?_map, hk, List.map_append]
            rfl
        · rintro H' ⟨sm, hD⟩
          have el : (xs.map cntV).take xs.length = xs.map cntV := List.take_of_length_le (by simp)
          rw [el] at hD
          refine ⟨D, _, rfl, SqL.of hD, ?_⟩
          have e : (xs.map cntV).all id = xs.all cntV := by rw [List.all_map]; rfl
          rw [e]
          exact q H' sm
      · rw [decide_eq_false c] at q ⊢
        exact iteF (q H (Same.refl H))
    · rcases h with ⟨a, xs, rfl, h⟩ | ⟨i, rfl⟩ | rfl | ⟨z, rfl⟩ | ⟨z, rfl⟩
      · exact ⟨_, rfl, _, _, _, _, false, rfl, .ty "tuple", .base (.lst h), kit_ty (by decide +kernel), false, rfl, iteF (q H (Same.refl H))⟩
      · exact ⟨_, rfl, _, _, _, _, false, rfl, .ty "tuple", .base (.int i), kit_ty (by decide +kernel), false, rfl, iteF (q H (Same.refl H))⟩
      · exact ⟨_, rfl, _, _, _, _, false, rfl, .ty "tuple", .base .non, kit_ty (by decide +kernel), false, rfl, iteF (q H (Same.refl H))⟩
      · exact ⟨_, rfl, _, _, _, _, false, rfl, .ty "tuple", .base (.bl z), kit_ty (by decide +kernel), false, rfl, iteF (q H (Same.refl H))⟩
      · exact ⟨_, rfl, _, _, _, _, false, rfl, .ty "tuple", .base (.str z), kit_ty (by decide +kernel), false, rfl, iteF (q H (Same.refl H))⟩
end
end K4
set_option Elab.async false
set_option linter.all false
set_option maxRecDepth 100000
set_option maxHeartbeats 4000000
namespace K4
open PySem PySem.Spec PyProof.Rows L2 XV NP
abbrev sReqMany : Stmt := top 15
abbrev sNormal : Stmt := top 35
abbrev sIsPiece : Stmt := top 36
abbrev sMeasure : Stmt := top 37
abbrev sReqMeas : Stmt := top 38
abbrev sInit : Stmt := inClass (top 43) 0
abbrev sManyT : Stmt := inClass (top 43) 1
abbrev sPiecesT : Stmt := inClass (top 43) 2
theorem scReqMany : FnScope ["many"] ["many"] (defScope sReqMany) := ⟨rfl, rfl, rfl, by decide +kernel, rfl, by decide +kernel, by decide +kernel⟩
theorem scNormal : FnScope ["many", "pieces", "item"] ["many", "pieces"] (defScope sNormal) := ⟨rfl, rfl, rfl, by decide +kernel, rfl, by decide +kernel, by decide +kernel⟩
theorem scIsPiece : FnScope ["many", "item", "word", "form"] ["many", "item"] (defScope sIsPiece) := ⟨rfl, rfl, rfl, by decide +kernel, rfl, by decide +kernel, by decide +kernel⟩
theorem scMeasure : FnScope ["pieces", "word", "form"] ["pieces"] (defScope sMeasure) := ⟨rfl, rfl, rfl, by decide +kernel, rfl, by decide +kernel, by decide +kernel⟩
theorem scReqMeas : FnScope ["number"] ["number"] (defScope sReqMeas) := ⟨rfl, rfl, rfl, by decide +kernel, rfl, by decide +kernel, by decide +kernel⟩
theorem scInit : FnScope ["self", "many", "pieces"] ["self", "many", "pieces"] (defScope sInit) := ⟨rfl, rfl, rfl, by decide +kernel, rfl, by decide +kernel, by decide +kernel⟩
theorem scManyT : FnScope ["self"] ["self"] (defScope sManyT) := ⟨rfl, rfl, rfl, by decide +kernel, rfl, by decide +kernel, by decide +kernel⟩
theorem scPiecesT : FnScope ["self"] ["self"] (defScope sPiecesT) := ⟨rfl, rfl, rfl, by decide +kernel, rfl, by decide +kernel, by decide +kernel⟩
def spReqMany : Sp := fun vs H Q _ => ∃ m : Nat, vs = [.int m] ∧ m ≤ 3 ∧ Q .non H
def me1 (p : Pc) : Int := (p.1.length : Int) * (p.2.1 + if (∀ x ∈ p.2.2, x = 0) then 0 else 1)
def meas (ps : List Pc) : Int := (ps.map me1).sum
def spIsPiece : Sp := fun vs H Q _ => ∃ (m : Nat) (v : V) (p : Pc), vs = [.int m, v] ∧ m ≤ 3 ∧ IsPc H v p ∧ Pz m 200 p ∧ AB p.1 ∧ (cs p.1).length ≤ 2000 ∧ ∀ H', Same H H' → Q (.bl true) H'
def spMeasure : Sp := fun vs H Q _ => ∃ (m : Nat) (pl : Addr) (ps : List Pc), vs = [.ref pl] ∧ m ≤ 3 ∧ PL H pl ps ∧ Ps m ps ∧ ∀ H', Same H H' → Q (.int (meas ps)) H'
def spReqMeas : Sp := fun vs H Q _ => ∃ n : Int, vs = [.int n] ∧ n ≤ 2000 ∧ Q .non H
def spNormal : Sp := fun vs H Q _ => ∃ (m : Nat) (pl : Addr) (ps : List Pc), vs = [.int m, .ref pl] ∧ m ≤ 3 ∧ PL H pl ps ∧ Ps m ps ∧ meas ps ≤ 2000 ∧
  ∀ (H' : Hp) (l : Addr) (done : List Pc), Same H H' → H l = none → PL H' l done → NI ps done [] → done.length ≤ 2 * ps.length + 1 → Dn m 400 done → Q (.ref l) H'
theorem PL.keep {H H' : Hp} (s : Same H H') {a : Addr} {ps : List Pc} (h : PL H a ps) : PL H' a ps := by
  obtain ⟨xs, e, r⟩ := h
  exact ⟨xs, s _ _ e, r.keep s⟩
section
variable {P : Program} {w : World} {K : PySem.W.Frag} {mg : Str → Option Value} {base : Heap} {f : Addr} {fd : FuncData}
theorem ok_reqMany (F : FnP K "require_many" sReqMany f fd) (o_below : Ok P w K mg base "is_count_below" 3 ["bound", "value"] spBelow) {tM : Tok} (h_MU : mg "MOST_UNKNOWNS" = some (.int 3 tM)) : FnOk P w K mg base CX0 4 f fd ["many"] spReqMany := by
  refine F.ok scReqMany (fun vs H Q E h => ?_) (fun cdv A outer s H vs Q E hr h => ?_)
  · obtain ⟨m, rfl, _⟩ := h
    rfl
  · obtain ⟨m, rfl, hm, q⟩ := h
    refine ⟨_, PSs.nox (pss_one (ps_if (pt_not (pt_val (pe_callO o_below (hr.mono (by decide)) (by rfl) (pa_cons (pe_op op_add (pe_glob (v := .int 3) (by rfl) h_MU ⟨_, rfl⟩) pe_int) (pa_cons (pv 0) pa_nil))))) (pss_one ps_never) pss_nil)), ?_⟩
    refine ⟨_, _, rfl, rfl, _, rfl, 4, .int m, rfl, .int _, true, ?_, iteF q⟩
    show V.bl (decide (0 ≤ (m : Int)) && decide ((m : Int) < 4)) = V.bl true
    rw [decide_eq_true (by omega), decide_eq_true (by omega)]
    rfl
theorem ok_isPiece (F : FnP K "is_piece" sIsPiece f fd) (o_letters : Ok P w K mg base "is_string_of_letters" 1 ["value"] spLetters) (o_form : Ok P w K mg base "has_form" 3 ["many", "item"] spHasForm) (z_isinstance : mg "isinstance" = none) (z_tuple : mg "tuple" = none) (z_len : mg "len" = none) {tM : Tok} (h_L : mg "LONGEST_PIECE" = some (.int 2000 tM)) :
    FnOk P w K mg base CX0 4 f fd ["many", "item"] spIsPiece := by
  have nd := scIsPiece.nd
  refine F.ok scIsPiece (fun vs H Q E h => ?_) (fun cdv A outer s H vs Q E hr h => ?_)
  · obtain ⟨m, v, p, rfl, _⟩ := h
    rfl
  · obtain ⟨m, v, p, rfl, hm, ⟨a, f1, rfl, ha, hf⟩, pz, ab, l2, q⟩ := h
    have szl := sizeLine_eq
    refine ⟨_, PSs.nox (pss_cons (ps_if (PW.pt (pw_or (pt_not (pt_val (pe_callB call_isi (by rfl) z_isinstance (by decide +kernel) (pa_cons (pv 1) (pa_cons (pe_bltn (v := .ty "tuple") (by rfl) z_tuple (by decide +kernel) rfl) pa_nil))))) (pw_or1 (pt_cmpR op_ne (pe_callB call_len (by rfl) z_len boot_len (pa_cons (pv 1) pa_nil)) pe_int (nomark _))))) (pss_one (ps_ret pe_bl)) pss_nil)
      (pss_cons (ps_asg (pv 1) (pg_tup rfl (pgs_cons (pg_name (i := 2) nd rfl (Or.inl rfl)) (pgs_cons (pg_name (i := 3) nd rfl (Or.inl rfl)) pgs_nil))))
      (pss_one (ps_ret (pe_and (pe_callO o_letters (hr.mono (by decide)) (by rfl) (pa_cons (pv 2) pa_nil)) (pe_and (pe_cmpR op_le (pe_callB call_len (by rfl) z_len boot_len (pa_cons (pv 2) pa_nil)) (pe_glob (v := .int 2000) (by rfl) h_L ⟨_, rfl⟩) (nomark _)) (pe_one (pe_callO o_form hr (by rfl) (pa_cons (pv 0) (pa_cons (pv 3) pa_nil)))))))))), ?_⟩
    refine ⟨_, rfl, _, _, _, _, true, rfl, .ty "tuple", .base (.tup ha), kit_ty (by decide +kernel), true, rfl, iteF ⟨_, rfl, _, 2, rfl, .inr ⟨_, SqT.of ha, rfl⟩, rfl, false, rfl, iteF ?_⟩⟩
    refine ⟨_, rfl, a, _, rfl, SqT.of ha, rfl, _, _, rfl, _, _, rfl, rfl, ?_⟩
    refine ⟨_, rfl, p.1, rfl, ab, true, rfl, iteT ⟨_, rfl, _, (cs p.1).length, rfl, ⟨by rw [cs_len]; omega, cs_len _⟩, _, _, rfl, rfl, true, congrArg V.bl (decide_eq_true (by omega)), iteT ?_⟩⟩
    refine ⟨_, rfl, _, rfl, m, .ref f1, true, rfl, .inl ⟨f1, _, rfl, hf, by rw [List.length_map]; show p.2.2.length + 1 ≤ 100; rw [pz.l]; omega, fun x hx => ?_, ?_⟩, q⟩
    · obtain ⟨i, _, rfl⟩ := List.mem_map.mp hx
      exact .int i
    · have e1 : ((fm p).map V.int).all cntV = true := by
        rw [List.all_eq_true]
        intro x hx
        obtain ⟨i, hi, rfl⟩ := List.mem_map.mp hx
        show decide (0 ≤ i) = true
        rcases List.mem_cons.mp hi with rfl | hi
        · exact decide_eq_true pz.c.1
        · exact decide_eq_true (pz.x i hi).1
      rw [e1, Bool.and_true]
      exact (decide_eq_true (by rw [List.length_map]; show p.2.2.length + 1 = m + 1; rw [pz.l])).symm
theorem ok_measure (F : FnP K "measure" sMeasure f fd) (o_plain : Ok P w K mg base "is_plain" 1 ["form"] spPlainQ) (z_sum : mg "sum" = none) (z_len : mg "len" = none) : FnOk P w K mg base CX0 2 f fd ["pieces"] spMeasure := by
  have nd := scMeasure.nd
  refine F.ok scMeasure (fun vs H Q E h => ?_) (fun cdv A outer s H vs Q E hr h => ?_)
  · obtain ⟨m, pl, ps, rfl, _⟩ := h
    rfl
  · obtain ⟨m, pl, ps, rfl, hm, ⟨xs, hp, hP⟩, hPs, q⟩ := h
    have lx := hP.len
    have l20 := hPs.l
    have szl := sizeLine_eq
    have r1 : Room 1 (A.deeper (envOfC "measure" (defScope sMeasure) s.heap.objs.size f cdv)) := hr
    refine ⟨_, PSs.nox (pss_one (ps_ret (pe_callB (cr_sum rfl) (by rfl) z_sum (by decide +kernel) (pa_cons
      (pe_lc (own := [("word", 1), ("form", 2)]) (g := gTup K 2 (gCons (gName 1) (gCons (gName 2) gNil))) (by rfl) nd (pi_list (pv 0)) (blkOk_by (N := ["pieces", "word", "form"]) (sc := defScope sMeasure) (own := [("word", 1), ("form", 2)]) (by decide +kernel))
        (fun _ _ _ _ _ => pg_tup rfl (pgs_cons (pg_name (i := 1) nd rfl (Or.inl rfl)) (pgs_cons (pg_name (i := 2) nd rfl (Or.inl rfl)) pgs_nil))) (fun _ _ _ _ _ => pts_nil)
        (fun _ _ _ _ _ => pe_op op_mul (pe_callB call_len_str (by rfl) z_len boot_len (pa_cons (pv 1) pa_nil)) (pe_op op_add (pe_ix (ix_tupK (K := K) rfl) (pv 2) pe_int (fun _ _ => rfl)) (pe_ifExp (pt_val (pe_callO o_plain r1 (by rfl) (pa_cons (pv 2) pa_nil))) pe_int pe_int)))) pa_nil)))), ?_⟩
    refine ⟨_, rfl, pl, rfl, ⟨_, SqL.of hp⟩, fun D nD => lc_list (K := K) (a := pl) (xs := xs) (fun k H' => Same H H' ∧ H' D = some (.lst (((ps.take k).map me1).map V.int))) ⟨same_new nD, upd_same⟩ (fun k H' _ p => SqL.of (p.1 _ _ hp)) ?_ ?_⟩
    · rintro k y H' hk ⟨sm, hD⟩
      obtain ⟨p, ep, ⟨a, f1, rfl, ha, hf⟩⟩ := hP.get hk
      have pz := hPs.z p (List.mem_of_getElem? ep)
      obtain ⟨_, l2⟩ := hPs.w p (List.mem_of_getElem? ep)
      have li : k < 20 := by
        have := (List.getElem?_eq_some_iff.mp ep).1
        omega
      have ha1 := sm _ _ ha
      have hf1 := sm _ _ hf
      have at0 : atI ((p.2.1 :: p.2.2).map V.int) ((0 : Nat) : Int) = some (V.int p.2.1) := atI_nat rfl
      refine ⟨a, _, rfl, SqT.of ha1, rfl, _, _, rfl, _, _, rfl, rfl, rfl, ?_⟩
      refine ⟨_, rfl, p.1, rfl, by rw [cs_len]; omega, _, rfl, f1, _, _, _, rfl, rfl, SqT.of hf1, at0, _, rfl, f1, p.2.1, p.2.2, rfl, hf1, by rw [pz.l]; omega, fun H2 s2 => ⟨_, rfl, ?_⟩⟩
      have lz := cs_len p.1
      have fin : ∀ z : Int, z = (if (∀ x ∈ p.2.2, x = 0) then 0 else 1) → ∃ i j : Int, V.int p.2.1 = .int i ∧ V.int z = .int j ∧ ∃ i' j' : Int, V.int ((p.1.length : Nat) : Int) = .int i' ∧ V.int (i + j) = .int j' ∧ CMul i' j' ∧ ∃ acc, H2 D = some (.lst acc) ∧ acc.length < sizeLine ∧ (Same H (upd H2 D (.lst (acc ++ [.int (i' * j')]))) ∧ (upd H2 D (.lst (acc ++ [.int (i' * j')]))) D = some (.lst (((ps.take (k + 1)).map me1).map V.int))) := by
        rintro z rfl
        refine ⟨_, _, rfl, rfl, _, _, rfl, rfl, .inl ⟨by omega, by omega⟩, _, s2 _ _ hD, ?_, fun b o e => ?_, ?_⟩
        · rw [List.length_map, List.length_map]
          exact small1000 (Nat.le_trans (List.length_take_le _ _) (by omega))
        · rw [upd_ne (ne_of_none (H := H) e nD)]
          exact s2 _ _ (sm _ _ e)
        · rw [upd_same, List.take_add_one, ep, List.map_append, List.map_append]
          rfl
      by_cases pl0 : ∀ x ∈ p.2.2, x = 0
      · rw [decide_eq_true pl0]
        exact iteT (fin 0 (by rw [if_pos pl0]))
      · rw [decide_eq_false pl0]
        exact iteF (fin 1 (by rw [if_neg pl0]))
    · rintro H' ⟨sm, hD⟩
      rw [lx, List.take_length] at hD
      exact ⟨D, _, rfl, SqL.of hD, q H' sm⟩
theorem ok_reqMeas (F : FnP K "require_measure" sReqMeas f fd) {tM : Tok} (h_M : mg "MOST_MEASURE" = some (.int 2000 tM)) : FnOk P w K mg base CX0 1 f fd ["number"] spReqMeas := by
  refine F.ok scReqMeas (fun vs H Q E h => ?_) (fun cdv A outer s H vs Q E hr h => ?_)
  · obtain ⟨n, rfl, _⟩ := h
    rfl
  · obtain ⟨n, rfl, hn, q⟩ := h
    refine ⟨_, PSs.nox (pss_one (ps_if (pt_cmpR op_gt (pv 0) (pe_glob (v := .int 2000) (by rfl) h_M ⟨_, rfl⟩) (nomark _)) (pss_one ps_never) pss_nil)), ?_⟩
    exact ⟨_, rfl, _, _, rfl, rfl, false, congrArg V.bl (decide_eq_false (by omega)), iteF q⟩
theorem ok_normal (F : FnP K "normal" sNormal f fd) (o_many : Ok P w K mg base "require_many" 4 ["many"] spReqMany) (o_piece : Ok P w K mg base "is_piece" 4 ["many", "item"] spIsPiece) (o_measure : Ok P w K mg base "measure" 2 ["pieces"] spMeasure) (o_reqM : Ok P w K mg base "require_measure" 1 ["number"] spReqMeas)
    (o_np : Ok P w K mg base "normal_pieces" 3 ["many", "pieces"] spNP) (z_isinstance : mg "isinstance" = none) (z_list : mg "list" = none) (z_len : mg "len" = none) {tM : Tok} (h_M : mg "MOST_PIECES" = some (.int 5000 tM)) : FnOk P w K mg base CX0 5 f fd ["many", "pieces"] spNormal := by
  have nd := scNormal.nd
  refine F.ok scNormal (fun vs H Q E h => ?_) (fun cdv A outer s H vs Q E hr h => ?_)
  · obtain ⟨m, pl, ps, rfl, _⟩ := h
    rfl
  · obtain ⟨m, pl, ps, rfl, hm, hL, hPs, hme, q⟩ := h
    obtain ⟨xs, hp, hP⟩ := id hL
    have lx := hP.len
    have l20 := hPs.l
    refine ⟨_, PSs.nox (pss_cons (ps_expr (pe_callO o_many hr (by rfl) (pa_cons (pv 0) pa_nil)))
      (pss_cons (ps_if (PW.pt (pw_or (pt_not (pt_val (pe_callB call_isi (by rfl) z_isinstance (by decide +kernel) (pa_cons (pv 1) (pa_cons (pe_bltn (v := .ty "list") (by rfl) z_list (by decide +kernel) rfl) pa_nil))))) (pw_or1 (pt_cmpR op_gt (pe_callB call_len (by rfl) z_len boot_len (pa_cons (pv 1) pa_nil)) (pe_glob (v := .int 5000) (by rfl) h_M ⟨_, rfl⟩) (nomark _))))) (pss_one ps_never) pss_nil)
      (pss_cons (ps_for PassesOwn.never rfl (pi_list (pv 1)) (pg_name (i := 2) nd rfl (Or.inl rfl)) (pss_one (ps_if (pt_not (pt_val (pe_callO o_piece hr (by rfl) (pa_cons (pv 0) (pa_cons (pv 2) pa_nil))))) (pss_one ps_never) pss_nil)))
      (pss_cons (ps_expr (pe_callO o_reqM (hr.mono (by decide)) (by rfl) (pa_cons (pe_callO o_measure (hr.mono (by decide)) (by rfl) (pa_cons (pv 1) pa_nil)) pa_nil)))
      (pss_one (ps_ret (pe_callO o_np (hr.mono (by decide)) (by rfl) (pa_cons (pv 0) (pa_cons (pv 1) pa_nil))))))))), ?_⟩
    refine ⟨_, rfl, m, rfl, hm, ?_⟩
    refine ⟨_, rfl, _, _, _, _, true, rfl, .ty "list", .base (.lst hp), kit_ty (by decide +kernel), true, rfl, iteF ⟨_, rfl, _, xs.length, rfl, .inl ⟨_, SqL.of hp, rfl⟩, _, _, rfl, rfl, false, congrArg V.bl (decide_eq_false (by omega)), iteF ?_⟩⟩
    refine ⟨_, rfl, pl, rfl, ⟨_, SqL.of hp⟩, for_list (K := K) (a := pl) (xs := xs) (fun i σ H' => Same H H' ∧ ∃ x, σ = [some (.int m), some (.ref pl), x]) ⟨Same.refl _, _, rfl⟩ (fun i σ H' _ z => SqL.of (z.1 _ _ hp)) ?_ ?_⟩
    · rintro i y σ H' hi ⟨sm, x, rfl⟩
      obtain ⟨p, ep, ip⟩ := (hP.keep sm).get hi
      obtain ⟨ab, l2⟩ := hPs.w p (List.mem_of_getElem? ep)
      exact ⟨_, rfl, _, rfl, m, y, p, rfl, hm, ip, hPs.z p (List.mem_of_getElem? ep), ab, l2, fun H2 s2 => ⟨true, rfl, iteF ⟨sm.trans s2, _, rfl⟩⟩⟩
    · rintro σ H' ⟨sm, x, rfl⟩
      refine ⟨_, rfl, m, pl, ps, rfl, hm, hL.keep sm, hPs, fun H2 s2 => ⟨_, rfl, hme, ?_⟩⟩
      have S := sm.trans s2
      refine ⟨_, rfl, _, rfl, m, pl, ps, rfl, hm, hL.keep S, hPs, fun H3 l done s3 nl hl ni ld dn => q H3 l done (S.trans s3) ?_ hl ni ld dn⟩
      cases e : H l with
      | none => rfl
      | some o =>
        rw [S _ _ e] at nl
        cases nl
end
end K4
set_option Elab.async false
set_option linter.all false
set_option maxRecDepth 100000
set_option maxHeartbeats 4000000
namespace K4
open PySem PySem.Spec PyProof.Rows L2 XV
section
variable {P : Program} {w : World} {K : PySem.W.Frag} {mg : Str → Option Value} {base : Heap} {f : Addr} {fd : FuncData}
theorem ok_isPoint (F : FnP K "is_point" sIsPoint f fd) (o_is_count : Ok P w K mg base "is_count" 2 ["value"] spCount) (z_isinstance : mg "isinstance" = none) (z_list : mg "list" = none) (z_len : mg "len" = none) (z_all : mg "all" = none) :
    FnOk P w K mg base CX0 3 f fd ["many", "value"] spIsPoint := by
  have nd := scIsPoint.nd
  refine F.ok scIsPoint (fun vs H Q E h => ?_) (fun cdv A outer s H vs Q E hr h => ?_)
  · obtain ⟨m, v, b, rfl, _⟩ := h
    rfl
  · obtain ⟨m, v, b, rfl, hF, q⟩ := h
    have hr2 : Room 2 (A.deeper (envOfC "is_point" (defScope sIsPoint) s.heap.objs.size f cdv)) := hr
    refine ⟨_, PSs.nox (pss_one (ps_ret (pe_and (pe_callB call_isi (by rfl) z_isinstance (by decide +kernel) (pa_cons (pv 1) (pa_cons (pe_bltn (v := .ty "list") (by rfl) z_list (by decide +kernel) rfl) pa_nil))) (pe_and (pe_cmpR op_eq (pe_callB call_len (by rfl) z_len boot_len (pa_cons (pv 1) pa_nil)) (pv 0) (nomark _)) (pe_one (pe_callB (cr_all rfl) (by rfl) z_all (by decide +kernel) (pa_cons
      (pe_lc (own := [("number", 2)]) (g := gName 2) (by rfl) nd (pi_list (pv 1)) (blkOk_by (N := ["many", "value", "number"]) (sc := defScope sIsPoint) (own := [("number", 2)]) (by decide +kernel)) (fun _ _ _ _ _ => pg_name (i := 2) nd rfl (Or.inl rfl)) (fun _ _ _ _ _ => pts_nil) (fun _ _ _ _ _ => pe_callO o_is_count hr2 (by rfl) (pa_cons (pv 2) pa_nil))) pa_nil))))))), ?_⟩
    rcases hF with ⟨a, xs, rfl, hf, h100, kn, rfl⟩ | ⟨h, rfl⟩
    · refine ⟨_, rfl, _, _, _, _, true, rfl, .ty "list", .base (.lst hf), kit_ty (by decide +kernel), true, rfl, .ref a, rfl, _, xs.length, rfl, .inl ⟨_, SqL.of hf, rfl⟩, _, rfl, rfl, decide (xs.length = m), congrArg V.bl (nat_dec xs.length m), ?_⟩
      by_cases c : xs.length = m
      · rw [decide_eq_true c] at q ⊢
        refine iteT ⟨_, rfl, a, rfl, ⟨_, SqL.of hf⟩, fun D nD => lc_list (K := K) (a := a) (xs := xs) (fun k H' => Same H H' ∧ H' D = some (.lst (((xs.map cntV).take k).map V.bl))) ⟨same_new nD, upd_same⟩ (fun k H' _ p => SqL.of (p.1 _ _ hf)) ?_ ?_⟩
        · rintro k y H' hk ⟨sm, hD⟩
          have li : k < xs.length := (List.getElem?_eq_some_iff.mp hk).1
          refine ⟨rfl, ?_⟩
          refine ⟨_, rfl, y, rfl, (kn y (List.mem_of_getElem? hk)).keep sm, _, hD, ?_, fun b o e => ?_, ?_⟩
          · rw [List.length_map]
            exact small1000 (Nat.le_trans (List.length_take_le _ _) (by omega))
          · rw [upd_ne (ne_of_none (H := H) e nD)]
            exact sm _ _ e
          · rw [upd_same, List.take_add_one, List.getElem?_map, hk, List.map_append]
            rfl
        · rintro H' ⟨sm, hD⟩
          have el : (xs.map cntV).take xs.length = xs.map cntV := List.take_of_length_le (by simp)
          rw [el] at hD
          refine ⟨D, _, rfl, SqL.of hD, ?_⟩
          have e : (xs.map cntV).all id = xs.all cntV := by rw [List.all_map]; rfl
          rw [e]
          exact q H' sm
      · rw [decide_eq_false c] at q ⊢
        exact iteF (q H (Same.refl H))
    · rcases h with ⟨a, xs, rfl, h⟩ | ⟨i, rfl⟩ | rfl | ⟨z, rfl⟩ | ⟨z, rfl⟩
      · exact ⟨_, rfl, _, _, _, _, false, rfl, .ty "list", .base (.tup h), kit_ty (by decide +kernel), false, rfl, iteF (q H (Same.refl H))⟩
      · exact ⟨_, rfl, _, _, _, _, false, rfl, .ty "list", .base (.int i), kit_ty (by decide +kernel), false, rfl, iteF (q H (Same.refl H))⟩
      · exact ⟨_, rfl, _, _, _, _, false, rfl, .ty "list", .base .non, kit_ty (by decide +kernel), false, rfl, iteF (q H (Same.refl H))⟩
      · exact ⟨_, rfl, _, _, _, _, false, rfl, .ty "list", .base (.bl z), kit_ty (by decide +kernel), false, rfl, iteF (q H (Same.refl H))⟩
      · exact ⟨_, rfl, _, _, _, _, false, rfl, .ty "list", .base (.str z), kit_ty (by decide +kernel), false, rfl, iteF (q H (Same.refl H))⟩
end
end K4
set_option Elab.async false
set_option linter.all false
set_option maxRecDepth 100000
set_option maxHeartbeats 4000000
namespace K4
open PySem PySem.Spec PyProof.Rows L2 XV NP
/-! ### the class OpenText -/
def tys : List String := ["NoneType", "int", "str", "list", "tuple"]
structure TT (K : PySem.W.Frag) (mg : Str → Option Value) (C : Addr) : Prop where
  ic : C8.InsC K C
  nP : NoAttr K C "_pieces"
  nM : NoAttr K C "_many"
  g : mg "OpenText" = some (.ref C)
  kt : ∀ T ∈ tys, PySem.W.kitOne K (.type T) (.ref C) = some false
theorem TT.ty {K : PySem.W.Frag} {mg : Str → Option Value} {C : Addr} (T : TT K mg C) {H : Hp} {a dx : Addr} {fs : List (Str × V)} (e : H a = some (.ins C dx fs)) : TyX K H (.ref a) (.ref C) := .base (.ins e T.ic.cl T.ic.ha T.ic.hn T.ic.htk T.ic.hm)
theorem kpm : ¬ (("_pieces" : Str) = "_many") := by decide +kernel
theorem kmp : ¬ (("_many" : Str) = "_pieces") := by decide +kernel
def flds (l : Addr) (m : Nat) : List (Str × V) := putF "_many" (.int m) (putF "_pieces" (.ref l) [])
theorem flds_p (l : Addr) (m : Nat) : (flds l m).lookup ("_pieces" : Str) = some (.ref l) := by
  unfold flds
  rw [lookup_putF, if_neg kpm, lookup_putF, if_pos rfl]
theorem flds_m (l : Addr) (m : Nat) : (flds l m).lookup ("_many" : Str) = some (.int m) := by
  unfold flds
  rw [lookup_putF, if_pos rfl]
theorem flds_no (l : Addr) (m : Nat) {x : Str} (h1 : ¬ x = "_many") (h2 : ¬ x = "_pieces") : (flds l m).lookup x = none := by
  unfold flds
  rw [lookup_putF, if_neg h1, lookup_putF, if_neg h2]
  rfl
/-- an open text stands at x -/
def Tx (C : Addr) (H : Hp) (x : Addr) (m : Nat) (done : List Pc) : Prop := ∃ dx l, H x = some (.ins C dx (flds l m)) ∧ PL H l done
theorem Tx.keep {C : Addr} {H H' : Hp} (s : Same H H') {x : Addr} {m : Nat} {done : List Pc} (h : Tx C H x m done) : Tx C H' x m done := by
  obtain ⟨dx, l, e, r⟩ := h
  exact ⟨dx, l, s _ _ e, r.keep s⟩
theorem Pcs.updI {H : Hp} {x : Addr} {C dx : Addr} {fs : List (Str × V)} {o : HO} (hx : H x = some (.ins C dx fs)) : ∀ {xs : List V} {P : List Pc}, Pcs H xs P → Pcs (upd H x o) xs P
  | _, _, .nil => .nil
  | _, _, .cons h r => .cons (by
      obtain ⟨a, f, e, t, u⟩ := h
      refine ⟨a, f, e, ?_, ?_⟩
      · rw [upd_ne (ne_of t hx (by intro z; cases z))]
        exact t
      · rw [upd_ne (ne_of u hx (by intro z; cases z))]
        exact u) (Pcs.updI hx r)
theorem PL.updI {H : Hp} {x l : Addr} {C dx : Addr} {fs : List (Str × V)} {o : HO} {ps : List Pc} (hx : H x = some (.ins C dx fs)) (h : PL H l ps) : PL (upd H x o) l ps := by
  obtain ⟨xs, e, r⟩ := h
  refine ⟨xs, ?_, r.updI hx⟩
  rw [upd_ne (ne_of e hx (by intro z; cases z))]
  exact e
abbrev FnM (K : PySem.W.Frag) (m q : Str) (st : Stmt) (f : Addr) (fd : FuncData) : Prop := FunD K m q (defArgs st) (defBody st) (defScope st) [] [] f fd
def spInit (C : Addr) : Sp := fun vs H Q _ => ∃ (x dx : Addr) (m : Nat) (pl : Addr) (ps : List Pc), vs = [.ref x, .int m, .ref pl] ∧ H x = some (.ins C dx []) ∧ m ≤ 3 ∧ PL H pl ps ∧ Ps m ps ∧ meas ps ≤ 2000 ∧
  ∀ (H' : Hp) (done : List Pc), (∀ b o, b ≠ x → H b = some o → H' b = some o) → Tx C H' x m done → NI ps done [] → done.length ≤ 2 * ps.length + 1 → Dn m 400 done → Q .non H'
def spManyT (C : Addr) : Sp := fun vs H Q _ => ∃ (x : Addr) (m : Nat) (done : List Pc), vs = [.ref x] ∧ Tx C H x m done ∧ Q (.int (m : Int)) H
def spPiecesT (C : Addr) : Sp := fun vs H Q _ => ∃ (x : Addr) (m : Nat) (done : List Pc), vs = [.ref x] ∧ Tx C H x m done ∧ ∀ (H' : Hp) (p : Addr), Same H H' → H p = none → PL H' p done → Q (.ref p) H'
abbrev sRuns : Stmt := top 50
abbrev sLetR : Stmt := top 30
abbrev sLtr : Stmt := top 51
theorem scRuns : FnScope ["pieces", "point", "word", "form"] ["pieces", "point"] (defScope sRuns) := ⟨rfl, rfl, rfl, by decide +kernel, rfl, by decide +kernel, by decide +kernel⟩
theorem scLetR : FnScope ["runs", "word", "times"] ["runs"] (defScope sLetR) := ⟨rfl, rfl, rfl, by decide +kernel, rfl, by decide +kernel, by decide +kernel⟩
theorem scLtr : FnScope ["runs", "at", "word", "times"] ["runs", "at"] (defScope sLtr) := ⟨rfl, rfl, rfl, by decide +kernel, rfl, by decide +kernel, by decide +kernel⟩
/-! ### runs: words and how often -/
abbrev Rn := Str × Int
def IsRn (H : Hp) (x : V) (r : Rn) : Prop := ∃ a, x = .ref a ∧ H a = some (.tup [.str r.1, .int r.2])
inductive Rns (H : Hp) : List V → List Rn → Prop
  | nil : Rns H [] []
  | cons {x : V} {xs : List V} {r : Rn} {R : List Rn} : IsRn H x r → Rns H xs R → Rns H (x :: xs) (r :: R)
theorem Rns.keep {H H' : Hp} (s : Same H H') : ∀ {xs : List V} {R : List Rn}, Rns H xs R → Rns H' xs R
  | _, _, .nil => .nil
  | _, _, .cons h r => .cons (by
      obtain ⟨a, e, t⟩ := h
      exact ⟨a, e, s _ _ t⟩) (Rns.keep s r)
theorem Rns.len {H : Hp} : ∀ {xs : List V} {R : List Rn}, Rns H xs R → xs.length = R.length
  | _, _, .nil => rfl
  | _, _, .cons _ r => congrArg (· + 1) (Rns.len r)
theorem Rns.get {H : Hp} : ∀ {xs : List V} {R : List Rn} {i : Nat} {x : V}, Rns H xs R → xs[i]? = some x → ∃ r, R[i]? = some r ∧ IsRn H x r
  | _, _, i, x, .nil, h => by simp at h
  | _, _, 0, x, .cons a r, h => by
    cases h
    exact ⟨_, rfl, a⟩
  | _, _, i + 1, x, .cons a r, h => by
    obtain ⟨l, e, z⟩ := Rns.get (i := i) r (by simpa using h)
    exact ⟨l, by simpa using e, z⟩
theorem Rns.snoc {H : Hp} {y : V} {m : Rn} (hy : IsRn H y m) : ∀ {xs : List V} {R : List Rn}, Rns H xs R → Rns H (xs ++ [y]) (R ++ [m])
  | _, _, .nil => .cons hy .nil
  | _, _, .cons h r => .cons h (Rns.snoc hy r)
theorem Rns.updL {H : Hp} {D : Addr} {ys : List V} {o : HO} (hD : H D = some (.lst ys)) : ∀ {xs : List V} {R : List Rn}, Rns H xs R → Rns (upd H D o) xs R
  | _, _, .nil => .nil
  | _, _, .cons h r => .cons (by
      obtain ⟨a, e, t⟩ := h
      refine ⟨a, e, ?_⟩
      rw [upd_ne (ne_of t hD (by intro z; cases z))]
      exact t) (Rns.updL hD r)
/-- the runs of pieces at a point -/
def rn (ys : List Int) (p : Pc) : Rn := (p.1, tms p ys)
def toR (R : List Rn) : List (List Nat × Nat) := R.map fun r => (cs r.1, r.2.toNat)
def lenR (R : List Rn) : Int := (R.map fun r => (r.1.length : Int) * r.2).sum
theorem wr_rn (ys : List Int) (ps : List Pc) : wr (toR (ps.map (rn ys))) = NP.V ys ps := by
  unfold wr toR NP.V
  rw [List.map_map, List.flatMap_map]
  rfl
theorem lenR_eq {R : List Rn} (h : ∀ r ∈ R, 0 ≤ r.2) : lenR R = ((lettersR (toR R) : Nat) : Int) := by
  induction R with
  | nil => rfl
  | cons r R ih =>
    have e1 : lenR (r :: R) = (r.1.length : Int) * r.2 + lenR R := by
      unfold lenR
      rw [List.map_cons, List.sum_cons]
    have e2 : lettersR (toR (r :: R)) = (cs r.1).length * r.2.toNat + lettersR (toR R) := by
      unfold lettersR toR
      rw [List.map_cons, List.map_cons, List.sum_cons]
    rw [e1, e2, ih fun q hq => h q (List.mem_cons_of_mem _ hq), Int.natCast_add, Int.natCast_mul, Int.toNat_of_nonneg (h r List.mem_cons_self), cs_len]
def spRuns : Sp := fun vs H Q _ => ∃ (m : Nat) (a b : Addr) (ps : List Pc) (ys : List Int), vs = [.ref a, .ref b] ∧ m ≤ 3 ∧ PL H a ps ∧ Dn m 400 ps ∧ ps.length ≤ 100 ∧ H b = some (.lst (ys.map V.int)) ∧ ys.length = m ∧ (∀ y ∈ ys, Sz 400 y) ∧
  ∀ (H' : Hp) (r : Addr) (xs : List V), Same H H' → H' r = some (.lst xs) → Rns H' xs (ps.map (rn ys)) → Q (.ref r) H'
def spLetR : Sp := fun vs H Q _ => ∃ (a : Addr) (xs : List V) (R : List Rn), vs = [.ref a] ∧ H a = some (.lst xs) ∧ Rns H xs R ∧ R.length ≤ 100 ∧ (∀ r ∈ R, (cs r.1).length ≤ 4000) ∧ ∀ H', Same H H' → Q (.int (lenR R)) H'
def spLtr : Sp := fun vs H Q _ => ∃ (a : Addr) (xs : List V) (R : List Rn) (i c : Nat), vs = [.ref a, .int i] ∧ H a = some (.lst xs) ∧ Rns H xs R ∧ R.length ≤ 100 ∧ (∀ r ∈ R, (cs r.1).length ≤ 4000 ∧ 0 ≤ r.2) ∧ letterR (toR R) i = some c ∧ Q (.str ⟨#[c]⟩) H
section
variable {P : Program} {w : World} {K : PySem.W.Frag} {mg : Str → Option Value} {base : Heap} {f : Addr} {fd : FuncData} {C : Addr}
theorem ok_init (F : FnM K "__init__" "OpenText.__init__" sInit f fd) (T : TT K mg C) (o_normal : Ok P w K mg base "normal" 5 ["many", "pieces"] spNormal) : FnOk P w K mg base CX0 6 f fd ["self", "many", "pieces"] (spInit C) := by
  refine F.ok scInit (fun vs H Q E h => ?_) (fun cdv A outer s H vs Q E hr h => ?_)
  · obtain ⟨x, dx, m, pl, ps, rfl, _⟩ := h
    rfl
  · obtain ⟨x, dx, m, pl, ps, rfl, hx, hm, hL, hPs, hme, q⟩ := h
    refine ⟨_, PSs.nox (pss_cons (ps_fld (pv 0) (pe_callO o_normal hr (by rfl) (pa_cons (pv 1) (pa_cons (pv 2) pa_nil))) rfl) (pss_one (ps_fld (pv 0) (pv 1) rfl))), ?_⟩
    refine ⟨_, rfl, _, rfl, m, pl, ps, rfl, hm, hL, hPs, hme, fun H1 l done s1 nl hl ni ld dn => ?_⟩
    have hx1 := s1 _ _ hx
    refine ⟨_, rfl, x, C, dx, _, rfl, hx1, T.ic.cl, T.nP, (by show 0 < 1000; decide), ?_⟩
    refine ⟨_, rfl, _, rfl, x, C, dx, _, rfl, upd_same, T.ic.cl, T.nM, (by show 1 < 1000; decide), ?_⟩
    refine q _ done (fun b o nb e => ?_) ⟨dx, l, upd_same, PL.updI upd_same (PL.updI hx1 hl)⟩ ni ld dn
    rw [upd_ne nb, upd_ne nb]
    exact s1 _ _ e
theorem ok_manyT (F : FnM K "many" "OpenText.many" sManyT f fd) (T : TT K mg C) : FnOk P w K mg base CX0 1 f fd ["self"] (spManyT C) := by
  refine F.ok scManyT (fun vs H Q E h => ?_) (fun cdv A outer s H vs Q E hr h => ?_)
  · obtain ⟨x, m, done, rfl, _⟩ := h
    rfl
  · obtain ⟨x, m, done, rfl, ⟨dx, l, hx, hL⟩, q⟩ := h
    refine ⟨_, PSs.nox (pss_one (ps_ret (pe_fld (pv 0) rfl))), ?_⟩
    exact ⟨_, rfl, x, C, dx, _, _, rfl, hx, T.ic.cl, T.nM, flds_m l m, q⟩
theorem ok_piecesT (F : FnM K "pieces" "OpenText.pieces" sPiecesT f fd) (T : TT K mg C) (z_list : mg "list" = none) : FnOk P w K mg base CX0 1 f fd ["self"] (spPiecesT C) := by
  refine F.ok scPiecesT (fun vs H Q E h => ?_) (fun cdv A outer s H vs Q E hr h => ?_)
  · obtain ⟨x, m, done, rfl, _⟩ := h
    rfl
  · obtain ⟨x, m, done, rfl, ⟨dx, l, hx, xs, hl, hL⟩, q⟩ := h
    refine ⟨_, PSs.nox (pss_one (ps_ret (pe_callTy call_list_of (by rfl) z_list (by decide +kernel) (pa_cons (pe_fld (pv 0) rfl) pa_nil)))), ?_⟩
    exact ⟨_, rfl, x, C, dx, _, _, rfl, hx, T.ic.cl, T.nP, flds_p l m, l, xs, rfl, .inl (SqL.of hl), fun p np => q _ p (same_new np) np ⟨xs, upd_same, hL.keep (same_new np)⟩⟩
theorem ok_runs (F : FnP K "runs_at" sRuns f fd) (o_val : Ok P w K mg base "form_value" 1 ["form", "point"] spFormValue) : FnOk P w K mg base CX0 2 f fd ["pieces", "point"] spRuns := by
  have nd := scRuns.nd
  refine F.ok scRuns (fun vs H Q E h => ?_) (fun cdv A outer s H vs Q E hr h => ?_)
  · obtain ⟨m, a, b, ps, ys, rfl, _⟩ := h
    rfl
  · obtain ⟨m, a, b, ps, ys, rfl, hm, ⟨xs, ha, hP⟩, dn, l100, hb, ly, sy, q⟩ := h
    have lx := hP.len
    have r1 : Room 1 (A.deeper (envOfC "runs_at" (defScope sRuns) s.heap.objs.size f cdv)) := hr
    refine ⟨_, PSs.nox (pss_one (ps_ret (pe_lc (own := [("word", 2), ("form", 3)]) (g := gTup K 2 (gCons (gName 2) (gCons (gName 3) gNil))) (by rfl) nd (pi_list (pv 0)) (blkOk_by (N := ["pieces", "point", "word", "form"]) (sc := defScope sRuns) (own := [("word", 2), ("form", 3)]) (by decide +kernel))
        (fun _ _ _ _ _ => pg_tup rfl (pgs_cons (pg_name (i := 2) nd rfl (Or.inl rfl)) (pgs_cons (pg_name (i := 3) nd rfl (Or.inl rfl)) pgs_nil))) (fun _ _ _ _ _ => pts_nil)
        (fun _ _ _ _ _ => pe_tup (pa_cons (pv 2) (pa_cons (pe_callO o_val r1 (by rfl) (pa_cons (pv 3) (pa_cons (pv 1) pa_nil))) pa_nil)))))), ?_⟩
    refine ⟨_, rfl, a, rfl, ⟨_, SqL.of ha⟩, fun D nD => lc_list (K := K) (a := a) (xs := xs) (fun k H' => Same H H' ∧ ∃ acc, H' D = some (.lst acc) ∧ Rns H' acc ((ps.take k).map (rn ys))) ⟨same_new nD, [], upd_same, .nil⟩ (fun k H' _ p => SqL.of (p.1 _ _ ha)) ?_ ?_⟩
    · rintro k y H' hk ⟨sm, acc, hD, hA⟩
      obtain ⟨p, ep, ⟨t, f1, rfl, ht, hf⟩⟩ := hP.get hk
      have pz := dn.z p (List.mem_of_getElem? ep)
      have li : k < 100 := by
        have := (List.getElem?_eq_some_iff.mp ep).1
        omega
      refine ⟨t, _, rfl, SqT.of (sm _ _ ht), rfl, _, _, rfl, _, _, rfl, rfl, rfl, ?_⟩
      refine ⟨_, rfl, _, rfl, _, rfl, f1, b, p.2.1, p.2.2, ys, rfl, sm _ _ hf, sm _ _ hb, by rw [pz.l, ly], by rw [pz.l]; omega, fun x hx => Sz.le (pz.x x hx) (by decide), fun y hy => Sz.le (sy y hy) (by decide), fun H2 s2 => ⟨(by show 2 ≤ sizeLine; decide), fun u nu => ?_⟩⟩
      have su := same_new (o := .tup [.str p.1, .int (p.2.1 + K4.dot p.2.2 ys)]) nu
      have hD2 := su _ _ (s2 _ _ hD)
      have hA2 := (hA.keep s2).keep su
      have la := hA.len
      rw [List.length_map, List.length_take] at la
      refine ⟨acc, hD2, small1000 (by omega), fun b' o e => ?_, acc ++ [.ref u], upd_same, ?_⟩
      · rw [upd_ne (ne_of_none (H := H) e nD)]
        exact su _ _ (s2 _ _ (sm _ _ e))
      · rw [List.take_add_one, ep, List.map_append]
        exact Rns.updL hD2 (Rns.snoc (m := rn ys p) ⟨u, rfl, upd_same⟩ hA2)
    · rintro H' ⟨sm, acc, hD, hA⟩
      rw [lx, List.take_length] at hA
      exact q H' D acc sm hD hA
end
end K4
set_option Elab.async false
set_option linter.all false
set_option maxRecDepth 100000
set_option maxHeartbeats 4000000
namespace K4
open PySem PySem.Spec PyProof.Rows L2 XV NP
theorem toR_drop (R : List Rn) (i : Nat) : toR (R.drop i) = (toR R).drop i := by
  unfold toR
  rw [List.map_drop]
section
variable {P : Program} {w : World} {K : PySem.W.Frag} {mg : Str → Option Value} {base : Heap} {f : Addr} {fd : FuncData}
theorem ok_letR (F : FnP K "letters_of_runs" sLetR f fd) (z_sum : mg "sum" = none) (z_len : mg "len" = none) : FnOk P w K mg base CX0 1 f fd ["runs"] spLetR := by
  have nd := scLetR.nd
  refine F.ok scLetR (fun vs H Q E h => ?_) (fun cdv A outer s H vs Q E hr h => ?_)
  · obtain ⟨a, xs, R, rfl, _⟩ := h
    rfl
  · obtain ⟨a, xs, R, rfl, ha, hR, l100, hw, q⟩ := h
    have lx := hR.len
    have szl := sizeLine_eq
    refine ⟨_, PSs.nox (pss_one (ps_ret (pe_callB (cr_sum rfl) (by rfl) z_sum (by decide +kernel) (pa_cons
      (pe_lc (own := [("word", 1), ("times", 2)]) (g := gTup K 2 (gCons (gName 1) (gCons (gName 2) gNil))) (by rfl) nd (pi_list (pv 0)) (blkOk_by (N := ["runs", "word", "times"]) (sc := defScope sLetR) (own := [("word", 1), ("times", 2)]) (by decide +kernel))
        (fun _ _ _ _ _ => pg_tup rfl (pgs_cons (pg_name (i := 1) nd rfl (Or.inl rfl)) (pgs_cons (pg_name (i := 2) nd rfl (Or.inl rfl)) pgs_nil))) (fun _ _ _ _ _ => pts_nil)
        (fun _ _ _ _ _ => pe_op op_mul (pe_callB call_len_str (by rfl) z_len boot_len (pa_cons (pv 1) pa_nil)) (pv 2))) pa_nil)))), ?_⟩
    refine ⟨_, rfl, a, rfl, ⟨_, SqL.of ha⟩, fun D nD => lc_list (K := K) (a := a) (xs := xs) (fun k H' => Same H H' ∧ H' D = some (.lst (((R.take k).map fun r => (r.1.length : Int) * r.2).map V.int))) ⟨same_new nD, upd_same⟩ (fun k H' _ p => SqL.of (p.1 _ _ ha)) ?_ ?_⟩
    · rintro k y H' hk ⟨sm, hD⟩
      obtain ⟨r, er, ⟨t, rfl, ht⟩⟩ := hR.get hk
      have li : k < 100 := by
        have := (List.getElem?_eq_some_iff.mp er).1
        omega
      have lw := hw r (List.mem_of_getElem? er)
      have lz := cs_len r.1
      refine ⟨t, _, rfl, SqT.of (sm _ _ ht), rfl, _, _, rfl, _, _, rfl, rfl, rfl, ?_⟩
      refine ⟨_, rfl, r.1, rfl, by omega, _, rfl, _, _, rfl, rfl, .inl ⟨by omega, by omega⟩, _, hD, ?_, fun b o e => ?_, ?_⟩
      · rw [List.length_map, List.length_map]
        exact small1000 (Nat.le_trans (List.length_take_le _ _) (by omega))
      · rw [upd_ne (ne_of_none (H := H) e nD)]
        exact sm _ _ e
      · rw [upd_same, List.take_add_one, er, List.map_append, List.map_append]
        rfl
    · rintro H' ⟨sm, hD⟩
      rw [lx, List.take_length] at hD
      exact ⟨D, _, rfl, SqL.of hD, q H' sm⟩
theorem ok_ltr (F : FnP K "letter_of_runs" sLtr f fd) (z_len : mg "len" = none) : FnOk P w K mg base CX0 1 f fd ["runs", "at"] spLtr := by
  have nd := scLtr.nd
  refine F.ok scLtr (fun vs H Q E h => ?_) (fun cdv A outer s H vs Q E hr h => ?_)
  · obtain ⟨a, xs, R, i, c, rfl, _⟩ := h
    rfl
  · obtain ⟨a, xs, R, i0, c, rfl, ha, hR, l100, hw, hc, q⟩ := h
    have lx := hR.len
    have szl := sizeLine_eq
    refine ⟨_, PSs.nox (pss_cons (ps_for PassesOwn.never rfl (pi_list (pv 0)) (pg_tup rfl (pgs_cons (pg_name (i := 2) nd rfl (Or.inl rfl)) (pgs_cons (pg_name (i := 3) nd rfl (Or.inl rfl)) pgs_nil)))
        (pss_cons (ps_if (pt_cmpR op_lt (pv 1) (pe_op op_mul (pe_callB call_len_str (by rfl) z_len boot_len (pa_cons (pv 2) pa_nil)) (pv 3)) (nomark _)) (pss_one (ps_ret (pe_ix ix_str (pv 2) (pe_op op_mod (pv 1) (pe_callB call_len_str (by rfl) z_len boot_len (pa_cons (pv 2) pa_nil))) (fun _ _ => rfl)))) pss_nil)
        (pss_one (ps_aug (i := 1) nd rfl (Or.inl rfl) (pe_op op_mul (pe_callB call_len_str (by rfl) z_len boot_len (pa_cons (pv 2) pa_nil)) (pv 3)) ip_sub))))
      (pss_one (ps_ret pe_str))), ?_⟩
    refine ⟨_, rfl, a, rfl, ⟨_, SqL.of ha⟩, for_list (K := K) (a := a) (xs := xs) (fun i σ H' => H' = H ∧ ∃ (at_ : Nat) (x2 x3 : Option V), σ = [some (.ref a), some (.int (at_ : Int)), x2, x3] ∧ letterR ((toR R).drop i) at_ = some c) ⟨rfl, i0, _, _, rfl, hc⟩ (fun i σ H' _ p => p.1 ▸ SqL.of ha) ?_ ?_⟩
    · rintro i y σ H' hi ⟨rfl, n, x2, x3, rfl, hn⟩
      obtain ⟨r, er, ⟨t, rfl, ht⟩⟩ := hR.get hi
      obtain ⟨lw, r0⟩ := hw r (List.mem_of_getElem? er)
      have lz := cs_len r.1
      have et : (toR R)[i]? = some (cs r.1, r.2.toNat) := by
        unfold toR
        rw [List.getElem?_map, er]
        rfl
      have ed : (toR R).drop i = (cs r.1, r.2.toNat) :: (toR R).drop (i + 1) := by
        obtain ⟨lt, e⟩ := List.getElem?_eq_some_iff.mp et
        rw [List.drop_eq_getElem_cons lt, e]
      rw [ed] at hn
      have hn : (if n < (cs r.1).length * r.2.toNat then (cs r.1)[n % (cs r.1).length]? else letterR ((toR R).drop (i + 1)) (n - (cs r.1).length * r.2.toNat)) = some c := hn
      have em : ((r.1.length : Int) * r.2) = (((cs r.1).length * r.2.toNat : Nat) : Int) := by
        rw [Int.natCast_mul, Int.toNat_of_nonneg r0, lz]
      refine ⟨t, _, rfl, SqT.of ht, rfl, _, _, rfl, _, _, rfl, rfl, ?_⟩
      refine ⟨_, rfl, _, rfl, r.1, rfl, by omega, _, rfl, _, _, rfl, rfl, .inl ⟨by omega, by omega⟩, _, _, rfl, rfl, _, rfl, ite2 (fun e => ?_) (fun e => ?_)⟩
      · have e : (n : Int) < (r.1.length : Int) * r.2 := of_decide_eq_true e
        rw [em] at e
        have e : n < (cs r.1).length * r.2.toNat := by omega
        rw [if_pos e] at hn
        have lp : 0 < (cs r.1).length := by
          by_cases z : (cs r.1).length = 0
          · rw [z, Nat.zero_mul] at e
            omega
          · omega
        refine ⟨_, rfl, _, rfl, _, rfl, r.1, rfl, by omega, _, _, rfl, rfl, (by show (0 : Int) < (r.1.length : Int); omega), r.1, _, c, rfl, rfl, by omega, ?_, q⟩
        rw [lz, ← Int.natCast_emod]
        exact atI_nat hn
      · have e : ¬ (n : Int) < (r.1.length : Int) * r.2 := fun z => e (decide_eq_true z)
        rw [em] at e
        have e : ¬ n < (cs r.1).length * r.2.toNat := by omega
        rw [if_neg e] at hn
        refine ⟨_, rfl, _, rfl, r.1, rfl, by omega, _, rfl, _, _, rfl, rfl, .inl ⟨by omega, by omega⟩, _, _, rfl, rfl, rfl, n - (cs r.1).length * r.2.toNat, some (.str r.1), some (.int r.2), ?_, hn⟩
        show [some (V.ref a), some (V.int ((n : Int) - (r.1.length : Int) * r.2)), some (V.str r.1), some (V.int r.2)] = _
        rw [em, show (n : Int) - (((cs r.1).length * r.2.toNat : Nat) : Int) = ((n - (cs r.1).length * r.2.toNat : Nat) : Int) by omega]
    · rintro σ H' ⟨rfl, n, x2, x3, rfl, hn⟩
      rw [List.drop_eq_nil_of_le (by unfold toR; rw [List.length_map]; omega)] at hn
      cases hn
end
end K4
set_option Elab.async false
set_option linter.all false
set_option maxRecDepth 100000
set_option maxHeartbeats 4000000
namespace K4
open PySem PySem.Spec PyProof.Rows L2 XV NP
/-! ### the errors -/
def nm4 (i : Nat) : Str := (["InvalidText", "InvalidPoint", "InvalidWord", "InvalidNumber", "TooLong"] : List Str).getD i "LoopError"
abbrev C4 (K : PySem.W.Frag) (i : Nat) : Addr := He.ga K (nm4 i)
structure Cl4 (P : Program) (w : World) (K : PySem.W.Frag) (mg : Str → Option Value) (base : Heap) : Prop where
  x : ∀ i, i < 5 → ∃ fI fd, XCls P w K mg base (nm4 i) "value" (C4 K i) fI fd
  g : ∀ i, i < 6 → mg (nm4 i) = some (.ref (C4 K i))
  e : ∀ i, i < 5 → ExcC K (C4 K i)
  f : ∀ i, i < 5 → XF K (C4 K i) "value"
  kit : ∀ i, i < 5 → ∀ j, j < 5 → PySem.W.kitOne K (.ref (C4 K i)) (.ref (C4 K j)) = some (decide (i = j))
  exm : ∀ i, i < 5 → PySem.W.exmOne K (.ref (C4 K i)) (.ref (C4 K 5)) = some true
  own : ∀ i, i < 5 → PySem.W.exmOne K (.ref (C4 K i)) (.ref (C4 K i)) = some true
/-- the wish: an error of the class at C with the value v -/
def Rz (E : XK) (H : Hp) (C : Addr) (v : L2.V) : Prop := ∀ (H' : Hp) (d : Addr), Same H H' → H' d = none → E (.ref C) (some d) (upd H' d (.xd [("value", v)]))
theorem Rz.at {E : XK} {H H1 : Hp} {C : Addr} {v : L2.V} (h : Rz E H C v) (s : Same H H1) : Rz E H1 C v := fun H' d s1 n => h H' d (s.trans s1) n
def NoT (K : PySem.W.Frag) (H : Hp) (v : L2.V) : Prop := ∃ T ∈ tys, TyX K H v (.type T)
/-! ### the methods -/
structure OkMt (P : Program) (w : World) (K : PySem.W.Frag) (mg : Str → Option Value) (base : Heap) (C : Addr) (m : Str) (sp : Sp) : Prop where
  ex : ∃ f fd, FnOk P w K mg base CX0 1 f fd ["self"] sp ∧ Meth K C m f ∧ Binds K fd ["self"] []
section
variable {X : Cx} {C : Addr} {e : Expr} {te : TE} {apos pos : Pos}
theorem pe_manyT {pl : Sem Bool} (o : OkMt X.prog X.w X.K X.mg X.base C "many" (spManyT C)) (T : TT X.K X.mg C) (he : PE X e te) (hr : Room 1 X.A) (ht : eval (.Call (.Attribute e "many" apos) [] [] pos) X.env = (do
      let ov ← eval e X.env
      standAt apos.atName
      let (f, first) ← holding [ov] (getMethod ov "many" pl)
      callWith pos f first (backTo pos (starEach [] X.env)) (backToKw pos (keywordEach [] X.env))) := by rfl) :
    PE X (.Call (.Attribute e "many" apos) [] [] pos) (fun σ H Q => te σ H fun x H1 => ∃ a m done, x = .ref a ∧ Tx C H1 a m done ∧ Q (.int (m : Int)) H1) := by
  obtain ⟨f, fd, F, hm, b⟩ := o.ex
  refine PE.le (pe_meth0 (pl := pl) (pe_mono he) T.ic.cl hm F hr b .nil pass0 ht) fun σ H Q h => ⟨_, h, ?_⟩
  rintro x H1 ⟨a, m, done, rfl, hg, q⟩
  obtain ⟨dx, l, hx, hL⟩ := id hg
  exact ⟨a, dx, _, rfl, hx, flds_no _ _ (by decide +kernel) (by decide +kernel), a, m, done, rfl, hg, q⟩
theorem pe_piecesT {pl : Sem Bool} (o : OkMt X.prog X.w X.K X.mg X.base C "pieces" (spPiecesT C)) (T : TT X.K X.mg C) (he : PE X e te) (hr : Room 1 X.A) (ht : eval (.Call (.Attribute e "pieces" apos) [] [] pos) X.env = (do
      let ov ← eval e X.env
      standAt apos.atName
      let (f, first) ← holding [ov] (getMethod ov "pieces" pl)
      callWith pos f first (backTo pos (starEach [] X.env)) (backToKw pos (keywordEach [] X.env))) := by rfl) :
    PE X (.Call (.Attribute e "pieces" apos) [] [] pos) (fun σ H Q => te σ H fun x H1 => ∃ a m done, x = .ref a ∧ Tx C H1 a m done ∧ ∀ (H' : Hp) (p : Addr), Same H1 H' → H1 p = none → PL H' p done → Q (.ref p) H') := by
  obtain ⟨f, fd, F, hm, b⟩ := o.ex
  refine PE.le (pe_meth0 (pl := pl) (pe_mono he) T.ic.cl hm F hr b .nil pass0 ht) fun σ H Q h => ⟨_, h, ?_⟩
  rintro x H1 ⟨a, m, done, rfl, hg, q⟩
  obtain ⟨dx, l, hx, hL⟩ := id hg
  exact ⟨a, dx, _, rfl, hx, flds_no _ _ (by decide +kernel) (by decide +kernel), a, m, done, rfl, hg, q⟩
end
abbrev sReqText : Stmt := top 48
abbrev sReqTP : Stmt := top 49
abbrev sTLetter : Stmt := top 45
theorem scReqText : FnScope ["text"] ["text"] (defScope sReqText) := ⟨rfl, rfl, rfl, by decide +kernel, rfl, by decide +kernel, by decide +kernel⟩
theorem scReqTP : FnScope ["text", "point"] ["text", "point"] (defScope sReqTP) := ⟨rfl, rfl, rfl, by decide +kernel, rfl, by decide +kernel, by decide +kernel⟩
theorem scTLetter : FnScope ["text", "point", "at", "runs"] ["text", "point", "at"] (defScope sTLetter) := ⟨rfl, rfl, rfl, by decide +kernel, rfl, by decide +kernel, by decide +kernel⟩
def spReqText (K : PySem.W.Frag) (C : Addr) : Sp := fun vs H Q E => ∃ v, vs = [v] ∧ ((∃ x m done, v = .ref x ∧ Tx C H x m done ∧ Q .non H) ∨ (NoT K H v ∧ Rz E H (C4 K 0) v))
/-- a text and a point for it, or what is not -/
def TP (K : PySem.W.Frag) (C : Addr) (H : Hp) (u v : L2.V) (E : XK) (R : Addr → Nat → List Pc → Prop) : Prop := (NoT K H u ∧ Rz E H (C4 K 0) u) ∨ ∃ x m done b, u = .ref x ∧ Tx C H x m done ∧ IsP H m v b ∧ ((b = false ∧ Rz E H (C4 K 1) v) ∨ (b = true ∧ R x m done))
def spReqTP (K : PySem.W.Frag) (C : Addr) : Sp := fun vs H Q E => ∃ u v, vs = [u, v] ∧ TP K C H u v E fun _ _ _ => ∀ H', Same H H' → Q .non H'
section
variable {P : Program} {w : World} {K : PySem.W.Frag} {mg : Str → Option Value} {base : Heap} {f : Addr} {fd : FuncData} {C : Addr}
theorem ok_reqText (F : FnP K "require_text" sReqText f fd) (T : TT K mg C) (Z : Cl4 P w K mg base) (z_isinstance : mg "isinstance" = none) : FnOk P w K mg base (L2.CX P w) 3 f fd ["text"] (spReqText K C) := by
  refine F.ok scReqText (fun vs H Q E h => ?_) (fun cdv A outer s H vs Q E hr h => ?_)
  · obtain ⟨v, rfl, _⟩ := h
    rfl
  · obtain ⟨v, rfl, h⟩ := h
    obtain ⟨fI, fdI, XT⟩ := Z.x 0 (by decide)
    have XT : XCls P w K mg base "InvalidText" "value" (C4 K 0) fI fdI := XT
    refine ⟨_, pss_one (ps_if (pt_not (pt_val (pe_callB call_isi (by rfl) z_isinstance (by decide +kernel) (pa_cons (pv 0) (pa_cons (pe_glob (v := .ref C) (by rfl) T.g rfl) pa_nil))))) (pss_one (ps_raiseX (nm := "InvalidText") rfl XT hr (takes_of rfl rfl rfl rfl) (by rfl) (pv 0))) pss_nil), ?_⟩
    rcases h with ⟨x, m, done, rfl, ⟨dx, l, hx, hL⟩, q⟩ | ⟨⟨T', hT, ty⟩, r⟩
    · exact ⟨_, rfl, _, _, _, _, true, rfl, .own C, T.ty hx, T.ic.me, true, rfl, iteF q⟩
    · exact ⟨_, rfl, _, _, _, _, false, rfl, .own C, ty, T.kt T' hT, false, rfl, iteT ⟨_, rfl, fun d nd => r H d (Same.refl _) nd⟩⟩
theorem ok_reqTP (F : FnP K "require_text_point" sReqTP f fd) (T : TT K mg C) (Z : Cl4 P w K mg base) (o_text : OkX P w K mg base "require_text" 3 ["text"] (spReqText K C)) (o_many : OkMt P w K mg base C "many" (spManyT C)) (o_point : Ok P w K mg base "is_point" 3 ["many", "value"] spIsPoint) :
    FnOk P w K mg base (L2.CX P w) 4 f fd ["text", "point"] (spReqTP K C) := by
  refine F.ok scReqTP (fun vs H Q E h => ?_) (fun cdv A outer s H vs Q E hr h => ?_)
  · obtain ⟨u, v, rfl, _⟩ := h
    rfl
  · obtain ⟨u, v, rfl, h⟩ := h
    obtain ⟨fI, fdI, XT⟩ := Z.x 1 (by decide)
    have XT : XCls P w K mg base "InvalidPoint" "value" (C4 K 1) fI fdI := XT
    refine ⟨_, pss_cons (ps_expr (pe_callX (E := E) o_text (takes_of rfl rfl rfl rfl) hr (by rfl) (pa_cons (pv 0) pa_nil)))
      (pss_one (ps_if (pt_not (pt_val (pe_callO o_point hr (by rfl) (pa_cons (pe_manyT o_many T (pv 0) (hr.mono (by decide))) (pa_cons (pv 1) pa_nil))))) (pss_one (ps_raiseX (nm := "InvalidPoint") rfl XT (hr.mono (by decide)) (takes_of rfl rfl rfl rfl) (by rfl) (pv 1))) pss_nil)), ?_⟩
    rcases h with ⟨n, r⟩ | ⟨x, m, done, b, rfl, hx, hp, h⟩
    · exact ⟨_, rfl, _, rfl, .inr ⟨n, r⟩⟩
    refine ⟨_, rfl, _, rfl, .inl ⟨x, m, done, rfl, hx, ?_⟩⟩
    refine ⟨_, rfl, x, m, done, rfl, hx, _, rfl, m, v, b, rfl, hp, fun H1 s1 => ⟨b, rfl, ?_⟩⟩
    rcases h with ⟨rfl, r⟩ | ⟨rfl, q⟩
    · exact iteT ⟨_, rfl, fun d nd => r H1 d s1 nd⟩
    · exact iteF (q H1 s1)
end
end K4
set_option Elab.async false
set_option linter.all false
set_option maxRecDepth 100000
set_option maxHeartbeats 4000000
namespace K4
open PySem PySem.Spec PyProof.Rows L2 XV NP
abbrev sLength : Stmt := top 46
theorem scLength : FnScope ["text", "word", "form"] ["text"] (defScope sLength) := ⟨rfl, rfl, rfl, by decide +kernel, rfl, by decide +kernel, by decide +kernel⟩
theorem tms_nn {m k : Nat} {p : Pc} (h : Pz m k p) {ys : List Int} (hy : ∀ y ∈ ys, 0 ≤ y) : 0 ≤ tms p ys := by
  have a := h.c.1
  have b := NP.dot_nn (xs := p.2.2) (fun x hx => (h.x x hx).1) hy
  unfold tms
  omega
theorem lenR_V {m k : Nat} {done : List Pc} (h : ∀ p ∈ done, Pz m k p) {ys : List Int} (hy : ∀ y ∈ ys, 0 ≤ y) : lenR (done.map (rn ys)) = (((NP.V ys done).length : Nat) : Int) := by
  rw [lenR_eq fun r hr => ?_, ← wr_len, wr_rn]
  obtain ⟨p, hp, rfl⟩ := List.mem_map.mp hr
  exact tms_nn (h p hp) hy
/-- a text and a point: what is asked where both are right -/
structure Gd (H : Hp) (v : L2.V) (bp : Addr) (ys : List Int) (m : Nat) (done : List Pc) : Prop where
  e : v = .ref bp
  h : H bp = some (.lst (ys.map L2.V.int))
  l : ys.length = m
  m3 : m ≤ 3
  s : ∀ y ∈ ys, Sz 400 y
  d : Dn m 400 done
  n : done.length ≤ 90
def spTLetter (K : PySem.W.Frag) (C : Addr) : Sp := fun vs H Q E => ∃ u v a_, vs = [u, v, a_] ∧ TP K C H u v E fun x m done => ∃ bp ys, Gd H v bp ys m done ∧ Kn H a_ ∧
  (belV (lenR (done.map (rn ys))) a_ = true → ∀ (H' : Hp) (i c : Nat), Same H H' → a_ = .int i → (NP.V ys done)[i]? = some c → Q (.str ⟨#[c]⟩) H') ∧ (belV (lenR (done.map (rn ys))) a_ = false → Rz E H (C4 K 3) a_)
def spLength (K : PySem.W.Frag) (C : Addr) : Sp := fun vs H Q E => ∃ v, vs = [v] ∧ ((NoT K H v ∧ Rz E H (C4 K 0) v) ∨ ∃ x m done, v = .ref x ∧ Tx C H x m done ∧ m ≤ 3 ∧ Dn m 400 done ∧ done.length ≤ 90 ∧
  ∀ (H' : Hp) (r : Addr), Same H H' → H' r = some (.tup (((List.range (m + 1)).map fun j => lin tt j done).map L2.V.int)) → Q (.ref r) H')
theorem col_snoc (fs : List (Addr × List Int)) (a : Addr) (l : List Int) (j : Nat) : col (fs ++ [(a, l)]) j = col fs j + l.getD j 0 := by
  unfold col
  rw [List.map_append, List.sum_append, List.map_cons, List.map_nil, List.sum_cons, List.sum_nil, Int.add_zero]
theorem fm_getD (p : Pc) (t : Int) (j : Nat) : ((fm p).map (· * t)).getD j 0 = fj p j * t := by
  rw [getD_scale]
  cases j <;> rfl
section
variable {P : Program} {w : World} {K : PySem.W.Frag} {mg : Str → Option Value} {base : Heap} {f : Addr} {fd : FuncData} {C : Addr}
theorem ok_tletter (F : FnP K "text_letter" sTLetter f fd) (T : TT K mg C) (Z : Cl4 P w K mg base) (o_tp : OkX P w K mg base "require_text_point" 4 ["text", "point"] (spReqTP K C)) (o_pieces : OkMt P w K mg base C "pieces" (spPiecesT C)) (o_runs : Ok P w K mg base "runs_at" 2 ["pieces", "point"] spRuns)
    (o_letR : Ok P w K mg base "letters_of_runs" 1 ["runs"] spLetR) (o_ltr : Ok P w K mg base "letter_of_runs" 1 ["runs", "at"] spLtr) (o_below : Ok P w K mg base "is_count_below" 3 ["bound", "value"] spBelow) : FnOk P w K mg base (L2.CX P w) 5 f fd ["text", "point", "at"] (spTLetter K C) := by
  have nd := scTLetter.nd
  refine F.ok scTLetter (fun vs H Q E h => ?_) (fun cdv A outer s H vs Q E hr h => ?_)
  · obtain ⟨u, v, a_, rfl, _⟩ := h
    rfl
  · obtain ⟨u, v, a_, rfl, h⟩ := h
    obtain ⟨fI, fdI, XT⟩ := Z.x 3 (by decide)
    have XT : XCls P w K mg base "InvalidNumber" "value" (C4 K 3) fI fdI := XT
    have r4 : Room 4 (A.deeper (envOfC "text_letter" (defScope sTLetter) s.heap.objs.size f cdv)) := hr
    have r3 := r4.mono (by decide : 3 ≤ 4)
    have r2 := r4.mono (by decide : 2 ≤ 4)
    have r1 := r4.mono (by decide : 1 ≤ 4)
    refine ⟨_, pss_cons (ps_expr (pe_callX (E := E) o_tp (takes_of rfl rfl rfl rfl) r4 (by rfl) (pa_cons (pv 0) (pa_cons (pv 1) pa_nil))))
      (pss_cons (ps_set (i := 3) nd rfl (Or.inl rfl) (pe_callO o_runs r2 (by rfl) (pa_cons (pe_piecesT o_pieces T (pv 0) r1) (pa_cons (pv 1) pa_nil))))
      (pss_cons (ps_if (pt_not (pt_val (pe_callO o_below r3 (by rfl) (pa_cons (pe_callO o_letR r1 (by rfl) (pa_cons (pv 3) pa_nil)) (pa_cons (pv 2) pa_nil))))) (pss_one (ps_raiseX (nm := "InvalidNumber") rfl XT r2 (takes_of rfl rfl rfl rfl) (by rfl) (pv 2))) pss_nil)
      (pss_one (ps_ret (pe_callO o_ltr r1 (by rfl) (pa_cons (pv 3) (pa_cons (pv 2) pa_nil))))))), ?_⟩
    rcases h with h | ⟨x, m, done, b, rfl, hx, hp, h⟩
    · exact ⟨_, rfl, _, rfl, u, v, rfl, .inl h⟩
    rcases h with h | ⟨rfl, bp, ys, g, kn, q, r⟩
    · exact ⟨_, rfl, _, rfl, .ref x, v, rfl, .inr ⟨x, m, done, b, rfl, hx, hp, .inl h⟩⟩
    refine ⟨_, rfl, _, rfl, .ref x, v, rfl, .inr ⟨x, m, done, true, rfl, hx, hp, .inr ⟨rfl, fun H1 s1 => ?_⟩⟩⟩
    have nn : ∀ y ∈ ys, 0 ≤ y := fun y hy => (g.s y hy).1
    have eL := lenR_V g.d.z nn
    obtain rfl := g.e
    refine ⟨_, rfl, x, m, done, rfl, hx.keep s1, fun H2 l s2 nl hl => ⟨_, rfl, m, l, bp, done, ys, rfl, g.m3, hl, g.d, by have := g.n; omega, s2 _ _ (s1 _ _ g.h), g.l, g.s, fun H3 rr xs s3 hr3 hR => ?_⟩⟩
    have lR : (done.map (rn ys)).length ≤ 100 := by
      have := g.n
      rw [List.length_map]
      omega
    have wR : ∀ r ∈ done.map (rn ys), (cs r.1).length ≤ 4000 ∧ 0 ≤ r.2 := fun r hr => by
      obtain ⟨p, hp, rfl⟩ := List.mem_map.mp hr
      exact ⟨(g.d.w p hp).2, tms_nn (g.d.z p hp) nn⟩
    refine ⟨_, rfl, rr, xs, _, rfl, hr3, hR, lR, fun r hr => (wR r hr).1, fun H4 s4 => ?_⟩
    have S := ((s1.trans s2).trans s3).trans s4
    refine ⟨_, rfl, _, a_, rfl, kn.keep S, _, rfl, ?_⟩
    cases e : belV (lenR (done.map (rn ys))) a_ with
    | false => exact iteT ⟨_, rfl, fun d nd => r e H4 d S nd⟩
    | true =>
      refine iteF ?_
      cases kn with
      | int z =>
        have e2 : (decide (0 ≤ z) && decide (z < lenR (done.map (rn ys)))) = true := e
        rw [Bool.and_eq_true, decide_eq_true_eq, decide_eq_true_eq] at e2
        obtain ⟨i, rfl⟩ := Int.eq_ofNat_of_zero_le e2.1
        have li : i < (NP.V ys done).length := by
          have := e2.2
          rw [eL] at this
          omega
        have gc : (NP.V ys done)[i]? = some (NP.V ys done)[i] := List.getElem?_eq_getElem li
        refine ⟨_, rfl, _, rfl, rr, xs, _, i, _, rfl, s4 _ _ hr3, hR.keep s4, lR, wR, ?_, q e H4 i _ S rfl gc⟩
        rw [letterR_eq, wr_rn]
        exact gc
      | non => cases e
      | bl b => cases e
      | str z => cases e
      | lst h => cases e
      | tup h => cases e
theorem ok_length (F : FnP K "length" sLength f fd) (T : TT K mg C) (o_text : OkX P w K mg base "require_text" 3 ["text"] (spReqText K C)) (o_many : OkMt P w K mg base C "many" (spManyT C)) (o_pieces : OkMt P w K mg base C "pieces" (spPiecesT C)) (o_times : Ok P w K mg base "form_times" 1 ["form", "times"] spTimes)
    (o_sum : Ok P w K mg base "sum_of_forms" 1 ["many", "forms"] spSum) (z_len : mg "len" = none) : FnOk P w K mg base (L2.CX P w) 4 f fd ["text"] (spLength K C) := by
  have nd := scLength.nd
  refine F.ok scLength (fun vs H Q E h => ?_) (fun cdv A outer s H vs Q E hr h => ?_)
  · obtain ⟨v, rfl, _⟩ := h
    rfl
  · obtain ⟨v, rfl, h⟩ := h
    have szl := sizeLine_eq
    have r3 : Room 3 (A.deeper (envOfC "length" (defScope sLength) s.heap.objs.size f cdv)) := hr
    have r1 := r3.mono (by decide : 1 ≤ 3)
    refine ⟨_, pss_cons (ps_expr (pe_callX (E := E) o_text (takes_of rfl rfl rfl rfl) r3 (by rfl) (pa_cons (pv 0) pa_nil)))
      (pss_one (ps_ret (pe_callO o_sum r1 (by rfl) (pa_cons (pe_manyT o_many T (pv 0) r1) (pa_cons
        (pe_lc (own := [("word", 1), ("form", 2)]) (g := gTup K 2 (gCons (gName 1) (gCons (gName 2) gNil))) (by rfl) nd (pi_list (pe_piecesT o_pieces T (pv 0) r1)) (blkOk_by (N := ["text", "word", "form"]) (sc := defScope sLength) (own := [("word", 1), ("form", 2)]) (by decide +kernel))
          (fun _ _ _ _ _ => pg_tup rfl (pgs_cons (pg_name (i := 1) nd rfl (Or.inl rfl)) (pgs_cons (pg_name (i := 2) nd rfl (Or.inl rfl)) pgs_nil))) (fun _ _ _ _ _ => pts_nil)
          (fun _ _ _ _ _ => pe_callO o_times r1 (by rfl) (pa_cons (pv 2) (pa_cons (pe_callB call_len_str (by rfl) z_len boot_len (pa_cons (pv 1) pa_nil)) pa_nil)))) pa_nil))))), ?_⟩
    rcases h with ⟨n, r⟩ | ⟨x, m, done, rfl, hx, hm, dn, l90, q⟩
    · exact ⟨_, rfl, v, rfl, .inr ⟨n, r⟩⟩
    refine ⟨_, rfl, .ref x, rfl, .inl ⟨x, m, done, rfl, hx, ?_⟩⟩
    refine ⟨_, rfl, x, m, done, rfl, hx, _, rfl, x, m, done, rfl, hx, fun H1 l s1 nl ⟨xs, hl, hP⟩ => ⟨l, rfl, ⟨_, SqL.of hl⟩, fun D nD => ?_⟩⟩
    have lx := hP.len
    refine lc_list (K := K) (a := l) (xs := xs) (fun k H' => Same H1 H' ∧ ∃ fs : List (Addr × List Int), H' D = some (.lst (fs.map fun p => L2.V.ref p.1)) ∧ fs.length = k ∧ (∀ p ∈ fs, H' p.1 = some (.tup (p.2.map L2.V.int)) ∧ p.2.length = m + 1) ∧ ∀ j, col fs j = lin tt j (done.take k)) ⟨same_new nD, [], upd_same, rfl, fun p hp => (by cases hp), fun j => rfl⟩ (fun k H' _ p => SqL.of (p.1 _ _ hl)) ?_ ?_
    · rintro k y H' hk ⟨sm, fs, hD, lf, hf, hc⟩
      obtain ⟨p, ep, ⟨t, f1, rfl, ht, hf1⟩⟩ := hP.get hk
      have pz := dn.z p (List.mem_of_getElem? ep)
      have l4 := (dn.w p (List.mem_of_getElem? ep)).2
      have lz := cs_len p.1
      have li : k < 100 := by
        have := (List.getElem?_eq_some_iff.mp ep).1
        omega
      refine ⟨t, _, rfl, SqT.of (sm _ _ ht), rfl, _, _, rfl, _, _, rfl, rfl, rfl, ?_⟩
      refine ⟨_, rfl, _, rfl, p.1, rfl, by omega, f1, (p.1.length : Int), fm p, rfl, sm _ _ hf1, by show p.2.2.length + 1 ≤ 100; rw [pz.l]; omega, ?_, ⟨by omega, Int.lt_of_le_of_lt (b := 4000) (by omega) (by decide +kernel)⟩, fun H2 g s2 ng hg => ?_⟩
      · intro z hz
        rcases List.mem_cons.mp hz with rfl | hz
        · exact Sz.le pz.c (by decide)
        · exact Sz.le (pz.x z hz) (by decide)
      have hD2 := s2 _ _ hD
      refine ⟨_, hD2, ?_, fun b o e => ?_, fs ++ [(g, (fm p).map (· * (p.1.length : Int)))], ?_, by rw [List.length_append, lf]; rfl, fun z hz => ?_, fun j => ?_⟩
      · rw [List.length_map, lf]
        exact small1000 (by omega)
      · rw [upd_ne (ne_of_none e nD)]
        exact s2 _ _ (sm _ _ e)
      · rw [upd_same, List.map_append]
        rfl
      · rcases List.mem_append.mp hz with hz | hz
        · obtain ⟨h1, h2⟩ := hf z hz
          refine ⟨?_, h2⟩
          have h3 := s2 _ _ h1
          rw [upd_ne (ne_of h3 hD2 (by intro z; cases z))]
          exact h3
        · rcases List.mem_singleton.mp hz with rfl
          refine ⟨?_, by show ((fm p).map _).length = m + 1; rw [List.length_map]; show p.2.2.length + 1 = m + 1; rw [pz.l]⟩
          rw [upd_ne (ne_of hg hD2 (by intro z; cases z))]
          exact hg
      · rw [col_snoc, hc, List.take_add_one, ep]
        show lin tt j (done.take k) + ((fm p).map (· * (p.1.length : Int))).getD j 0 = lin tt j (done.take k ++ [p])
        rw [lin_app, lin_one, fm_getD, cn_tt, lz, Int.mul_comm]
    · rintro H' ⟨sm, fs, hD, lf, hf, hc⟩
      rw [lx, List.take_length] at hc
      refine ⟨m, D, fs, rfl, hD, by omega, by omega, hf, fun H2 r s2 nr hr2 => q H2 r ((s1.trans sm).trans s2) ?_⟩
      have e : (List.range (m + 1)).map (col fs) = (List.range (m + 1)).map fun j => lin tt j done := congrArg (fun f => (List.range (m + 1)).map f) (funext hc)
      rw [e] at hr2
      exact hr2
end
end K4
set_option Elab.async false
set_option linter.all false
set_option maxRecDepth 100000
set_option maxHeartbeats 4000000
/-! f(k = v, ..) in a try, the names in the parameters' order turned round; f may raise. -/
namespace XV
open PySem PySem.Spec PyProof.Rows L2
structure OkKX (P : Program) (w : World) (K : PySem.W.Frag) (mg : Str → Option Value) (base : Heap) (x : Str) (k : Nat) (ps : List Str) (sp : Sp) : Prop where
  ex : ∃ f fd, FnOk P w K mg base (L2.CX P w) k f fd ps sp ∧ mg x = some (.ref f) ∧ PySem.W.keepIn K (.ref f) = true ∧ KBn K fd ps 0 ps.reverse (fun _ ws => ws.reverse) (fun _ zs => zs.reverse)
theorem OkKX.mk' {P : Program} {w : World} {K : PySem.W.Frag} {mg : Str → Option Value} {base : Heap} {x : Str} {k : Nat} {ps : List Str} {sp : Sp} {body : List Stmt} {params : Arguments} {scope : Scope} {f : Addr} {fd : FuncData}
    (F : FunD K x x params body scope [] [] f fd) (g : mg x = some (.ref f)) (b : ∀ (kV doc pm : Value) (an : Option Addr) (cdv ct : Value) (ws : List Value), ws.length = ps.length → bindArgs (PySem.W.fnOf x x params body scope .none kV doc pm an cdv ct) ⟨[], ps.reverse.zip ws⟩ = pure (ps.zip ws.reverse))
    (ok : FnOk P w K mg base (L2.CX P w) k f fd ps sp) : OkKX P w K mg base x k ps sp := by
  refine ⟨f, fd, ok, g, F.kp, ⟨fun s us ws _ l1 l2 => ?_, fun _ r => vals_rev r⟩⟩
  obtain ⟨oc, od, dV, kV, doc, pm, an, cdv, ct, osl, rfl, lk, hcd, hD, hK⟩ := F.ex
  rcases hD with ⟨_, rfl⟩ | ⟨e, _⟩
  · obtain rfl := List.length_eq_zero_iff.mp l1
    exact .of_eq (b kV doc pm an cdv ct ws (by rw [l2, List.length_reverse]))
  · exact absurd rfl e
theorem OkKX.calm {P : Program} {w : World} {K : PySem.W.Frag} {mg : Str → Option Value} {base : Heap} {x : Str} {k : Nat} {ps : List Str} {sp : Sp} (o : OkKX P w K mg base x k ps sp) : OkK P w K mg base x k ps (cm sp) := by
  obtain ⟨f, fd, F, h1, h2, h3⟩ := o.ex
  exact ⟨f, fd, FnOk.calm F, h1, h2, h3⟩
section
variable {X : Cx} {CX : CXT} {k n : Nat} {f : Addr} {fd : FuncData} {ps ks : List Str} {sp : Sp} {E : L2.St → XK} {x : Str} {p pos : Pos} {kws : List Keyword} {tk : TA} {g : List Value → List Value → List Value} {gV : List V → List V → List V} {W : WX}
theorem run_fnNS {pins : List (Addr × Obj)} {σ : L2.St} {H : Hp} {s : Shared} {Q : VK} {us ws : List Value} {vs zs : List V} (F : FnOk X.prog X.w X.K X.mg X.base CX k f fd ps sp) (hr : Room k X.A) (hb : KBn X.K fd ps n ks g gV) (hx : PassesAt CX X σ (E σ))
    (I : Inv X pins σ H s) (r : Vals vs us) (rz : Vals zs ws) (l1 : vs.length = n) (l2 : zs.length = ks.length) (h : sp (gV vs zs) H Q (E σ)) : wpAny (model X.prog X.w) X.A (call (.ref f) us (ks.zip ws)) (EP X pins σ Q) X.xe s := by
  have r2 := hb.rel r rz
  refine wpAny_call (codeAny_mono (F.run X.A X.stack s H ⟨us, ks.zip ws⟩ (g us ws) (gV vs zs) Q (E σ) hr I.env0 (hb.to s us ws I.kIn (r.length.symm.trans l1) (rz.length.symm.trans l2)) r2 h) fun r s' hq => ?_)
  cases r with
  | error e => exact hx pins H s e s' I hq
  | ok fl =>
    cases fl with
    | ret u => exact I.after hq
    | next => exact False.elim hq
    | brk => exact False.elim hq
    | cont => exact False.elim hq
theorem pe_callKT (o : OkKX X.prog X.w X.K X.mg X.base x k ps sp) (tk_ : Takes X W) (hr : Room k X.A) (hg : Gl X x) (hk : PK X kws tk) (hdb : (x == ("__debug__" : Str)) = false := by decide)
    (hall : (backToKw pos (keywordEach kws X.env)).all (·.1.isSome) = true := by rfl) (hks : (backToKw pos (keywordEach kws X.env)).filterMap (·.1) = ps.reverse := by rfl)
    (hpl : ((backTo pos (starEach [] X.env)).any (·.1) || (backToKw pos (keywordEach kws X.env)).any (·.1.isNone)) = false := by rfl) :
    PE X (.Call (.Name x p) [] kws pos) (fun σ H Q => tk σ H fun zs H1 => zs.length = ps.reverse.length ∧ sp zs.reverse H1 Q (WE W σ)) := by
  obtain ⟨f, fd, F, hm, kp, B⟩ := o.ex
  refine ⟨fun pins s σ H Q I h => ?_⟩
  refine wpAny_Call_Name_kw (ld_glob I hg hm ?_ hdb)
  refine PySem.W.callWith_KW0 (h₀ := X.base) I.ok.mod.kin kp hall (thn (hk.run pos pins s σ H _ I h) fun ws s1 z => ?_) hpl
  obtain ⟨zs, H1, I1, r, l, q⟩ := z
  refine ⟨I1.kIn, ?_⟩
  rw [hks]
  exact run_fnNS (E := WE W) (us := []) (vs := []) F hr B (passAt tk_ σ) I1 .nil r rfl l q
end
end XV
set_option Elab.async false
set_option linter.all false
set_option maxRecDepth 100000
set_option maxHeartbeats 4000000
namespace K4
open PySem PySem.Spec PyProof.Rows L2 XV NP
/-! ### what is a letter, of any value -/
abbrev sIsLetter : Stmt := top 17
abbrev sWritten : Stmt := top 44
abbrev sLettersT : Stmt := top 47
theorem scIsLetter : FnScope ["value"] ["value"] (defScope sIsLetter) := ⟨rfl, rfl, rfl, by decide +kernel, rfl, by decide +kernel, by decide +kernel⟩
abbrev nWritten : List Str := ["text", "point", "runs", "letters_there", "word", "times"]
theorem scWritten : FnScope nWritten ["text", "point"] (defScope sWritten) := ⟨rfl, rfl, rfl, by decide +kernel, rfl, by decide +kernel, by decide +kernel⟩
theorem scLettersT : FnScope ["text", "letter", "word", "form"] ["text", "letter"] (defScope sLettersT) := ⟨rfl, rfl, rfl, by decide +kernel, rfl, by decide +kernel, by decide +kernel⟩
def lowS (z : Str) : Bool := decide (z = "") || (Txt.isascii z && (Txt.isalpha z && Txt.islower z))
def lowV : L2.V → Bool
  | .str z => lowS z
  | _ => false
def letV : L2.V → Bool
  | .str z => lowS z && decide (z.length = 1)
  | _ => false
def spLow : Sp := fun vs H Q _ => ∃ v, vs = [v] ∧ Kn H v ∧ Q (.bl (lowV v)) H
def spLet : Sp := fun vs H Q _ => ∃ v, vs = [v] ∧ Kn H v ∧ (∀ z, v = .str z → z.length ≤ 1000) ∧ Q (.bl (letV v)) H
theorem let_one {v : L2.V} (h : letV v = true) : ∃ c : Nat, v = .str ⟨#[c]⟩ := by
  cases v with
  | str z =>
    have e : (lowS z && decide (z.length = 1)) = true := h
    rw [Bool.and_eq_true, decide_eq_true_eq] at e
    have l : (cs z).length = 1 := by rw [← cs_len]; exact e.2
    obtain ⟨c, hc⟩ := List.length_eq_one_iff.mp l
    exact ⟨c, by rw [cs_ext (x := z) (y := ⟨#[c]⟩) hc]⟩
  | _ => cases h
theorem count_one (z : Str) (c : Nat) : Txt.count z ⟨#[c]⟩ = cn (fun x => decide (x = c)) z := by
  have e : ∀ l : List Nat, cnt c l = ((l.countP fun x => decide (x = c) : Nat) : Int) := fun l => by
    induction l with
    | nil => rfl
    | cons n r ih =>
      rw [cnt_cons, ih, List.countP_cons]
      by_cases h : n = c
      · rw [if_pos h, if_pos (decide_eq_true h)]
        omega
      · rw [if_neg h, if_neg (by simpa using h)]
        omega
  exact (count_is z c).trans (e _)
theorem join0 (ys : List Str) : cs (Txt.join "" ys) = ys.flatMap cs := by
  have e : ∀ L : List (List Nat), TL.joinL [] L = L.flatten := fun L => by
    induction L with
    | nil => rfl
    | cons p L ih =>
      cases L with
      | nil => simp [TL.joinL]
      | cons q r =>
        show p ++ ([] ++ TL.joinL [] (q :: r)) = _
        rw [ih]
        simp
  have h := TL.tl_join "" ys
  have t : TL.tl ("" : Str) = [] := by decide +kernel
  rw [TL.join_eq]
  show TL.tl (Str.join "" ys) = _
  rw [h, t, e, ← List.flatMap_def]
theorem sum_len (ys : List Str) : (ys.map (·.length)).sum = (ys.flatMap cs).length := by
  induction ys with
  | nil => rfl
  | cons y ys ih => rw [List.map_cons, List.sum_cons, ih, List.flatMap_cons, List.length_append, cs_len]
theorem lettersR_mem {α : Type} {rs : List (List α × Nat)} {r : List α × Nat} (h : r ∈ rs) : r.1.length * r.2 ≤ lettersR rs := by
  induction rs with
  | nil => cases h
  | cons q rs ih =>
    have e : lettersR (q :: rs) = q.1.length * q.2 + lettersR rs := by
      unfold lettersR
      rw [List.map_cons, List.sum_cons]
    rw [e]
    rcases List.mem_cons.mp h with rfl | h
    · omega
    · have := ih h
      omega
def spWritten (K : PySem.W.Frag) (C : Addr) : Sp := fun vs H Q E => ∃ u v, vs = [u, v] ∧ TP K C H u v E fun x m done => ∃ bp ys, Gd H v bp ys m done ∧
  (lenR (done.map (rn ys)) ≤ 20000 → ∀ (H' : Hp) (z : Str), Same H H' → cs z = NP.V ys done → Q (.str z) H') ∧ (20000 < lenR (done.map (rn ys)) → Rz E H (C4 K 4) (.int (lenR (done.map (rn ys)))))
def spLettersT (K : PySem.W.Frag) (C : Addr) : Sp := fun vs H Q E => ∃ v u, vs = [v, u] ∧ ((NoT K H v ∧ Rz E H (C4 K 0) v) ∨ ∃ x m done, v = .ref x ∧ Tx C H x m done ∧ Kn H u ∧ (∀ z, u = .str z → z.length ≤ 1000) ∧
  ((letV u = false ∧ Rz E H (C4 K 2) u) ∨ ∃ c : Nat, letV u = true ∧ u = .str ⟨#[c]⟩ ∧ m ≤ 3 ∧ Dn m 400 done ∧ done.length ≤ 90 ∧
    ∀ (H' : Hp) (r : Addr), Same H H' → H' r = some (.tup (((List.range (m + 1)).map fun j => lin (fun x => decide (x = c)) j done).map L2.V.int)) → Q (.ref r) H'))
section
variable {P : Program} {w : World} {K : PySem.W.Frag} {mg : Str → Option Value} {base : Heap} {f : Addr} {fd : FuncData} {C : Addr}
theorem ok_low (F : FnP K "is_string_of_letters" sLetters f fd) (z_isinstance : mg "isinstance" = none) (z_str : mg "str" = none) : FnOk P w K mg base CX0 1 f fd ["value"] spLow := by
  refine F.ok scLetters (fun vs H Q E h => ?_) (fun cdv A outer s H vs Q E hr h => ?_)
  · obtain ⟨v, rfl, _⟩ := h
    rfl
  · obtain ⟨v, rfl, kv, q⟩ := h
    refine ⟨_, PSs.nox (pss_cons (ps_if (pt_not (pt_val (pe_callB call_isi (by rfl) z_isinstance (by decide +kernel) (pa_cons (pv 0) (pa_cons (pe_bltn (v := .ty "str") (by rfl) z_str (by decide +kernel) rfl) pa_nil))))) (pss_one (ps_ret pe_bl)) pss_nil)
 (pss_one (ps_ret (pe_or (pe_cmpR op_eq (pv 0) pe_str (nomark _)) (pe_one (pe_and (pe_m0 PySem.F.slot_str_isascii PySem.F.type_str_isascii mt_isascii (pv 0)) (pe_and (pe_m0 PySem.F.slot_str_isalpha PySem.F.type_str_isalpha mt_isalpha (pv 0)) (pe_one (pe_m0 PySem.F.slot_str_islower PySem.F.type_str_islower mt_islower (pv 0)))))))))), ?_⟩
    cases kv with
    | int i => exact ⟨_, rfl, _, _, _, _, false, rfl, .ty "str", .base (.int i), kit_ty (by decide +kernel), false, rfl, iteT q⟩
    | bl b => exact ⟨_, rfl, _, _, _, _, false, rfl, .ty "str", .base (.bl b), kit_ty (by decide +kernel), false, rfl, iteT q⟩
    | non => exact ⟨_, rfl, _, _, _, _, false, rfl, .ty "str", .base .non, kit_ty (by decide +kernel), false, rfl, iteT q⟩
    | lst h => exact ⟨_, rfl, _, _, _, _, false, rfl, .ty "str", .base (.lst h), kit_ty (by decide +kernel), false, rfl, iteT q⟩
    | tup h => exact ⟨_, rfl, _, _, _, _, false, rfl, .ty "str", .base (.tup h), kit_ty (by decide +kernel), false, rfl, iteT q⟩
    | str z =>
      refine ⟨_, rfl, _, _, _, _, true, rfl, .ty "str", .base (.str z), kit_ty (by decide +kernel), true, rfl, iteF ⟨_, rfl, rfl, decide (V.str z = V.str ""), rfl, ?_⟩⟩
      by_cases e : z = ""
      · subst e
        rw [decide_eq_true rfl]
        exact iteT q
      · have ne : ¬ V.str z = V.str "" := fun x => e (V.str.inj x)
        have el : lowV (.str z) = (Txt.isascii z && (Txt.isalpha z && Txt.islower z)) := by
          show (decide (z = "") || _) = _
          rw [decide_eq_false e, Bool.false_or]
        rw [el] at q
        rw [decide_eq_false ne]
        refine iteF ⟨_, rfl, ⟨_, rfl⟩, _, rfl, rfl, trivial, Txt.isascii z, rfl, ?_⟩
        cases ea : Txt.isascii z with
        | false =>
          rw [ea] at q
          exact iteF q
        | true =>
          rw [ea, Bool.true_and] at q
          refine iteT ⟨_, rfl, ⟨_, rfl⟩, _, rfl, rfl, trivial, Txt.isalpha z, rfl, ?_⟩
          cases eb : Txt.isalpha z with
          | false =>
            rw [eb] at q
            exact iteF q
          | true =>
            rw [eb, Bool.true_and] at q
            exact iteT ⟨_, rfl, ⟨_, rfl⟩, _, rfl, rfl, trivial, q⟩
theorem ok_isLetter (F : FnP K "is_letter" sIsLetter f fd) (o_low : Ok P w K mg base "is_string_of_letters" 1 ["value"] spLow) (z_len : mg "len" = none) : FnOk P w K mg base CX0 2 f fd ["value"] spLet := by
  refine F.ok scIsLetter (fun vs H Q E h => ?_) (fun cdv A outer s H vs Q E hr h => ?_)
  · obtain ⟨v, rfl, _⟩ := h
    rfl
  · obtain ⟨v, rfl, kv, hl, q⟩ := h
    refine ⟨_, PSs.nox (pss_one (ps_ret (pe_and (pe_callO o_low (hr.mono (by decide)) (by rfl) (pa_cons (pv 0) pa_nil)) (pe_one (pe_cmpR op_eq (pe_callB call_len_str (by rfl) z_len boot_len (pa_cons (pv 0) pa_nil)) pe_int (nomark _)))))), ?_⟩
    have k2 := kv
    cases kv with
    | int i => exact ⟨_, rfl, _, rfl, k2, false, rfl, iteF q⟩
    | bl b => exact ⟨_, rfl, _, rfl, k2, false, rfl, iteF q⟩
    | non => exact ⟨_, rfl, _, rfl, k2, false, rfl, iteF q⟩
    | lst h => exact ⟨_, rfl, _, rfl, k2, false, rfl, iteF q⟩
    | tup h => exact ⟨_, rfl, _, rfl, k2, false, rfl, iteF q⟩
    | str z =>
      refine ⟨_, rfl, _, rfl, k2, lowS z, rfl, ?_⟩
      have q : Q (.bl (lowS z && decide (z.length = 1))) H := q
      cases e : lowS z with
      | false =>
        rw [e] at q
        exact iteF q
      | true =>
        rw [e, Bool.true_and] at q
        have szl := sizeLine_eq
        have lz := hl z rfl
        refine iteT ⟨_, rfl, z, rfl, by omega, rfl, ?_⟩
        have en := nat_dec z.length 1
        show Q (.bl (decide (V.int (z.length : Int) = V.int ((1 : Nat) : Int)))) H
        rw [en]
        exact q
theorem ok_written (F : FnP K "written" sWritten f fd) (T : TT K mg C) (Z : Cl4 P w K mg base) (o_tp : OkX P w K mg base "require_text_point" 4 ["text", "point"] (spReqTP K C)) (o_pieces : OkMt P w K mg base C "pieces" (spPiecesT C)) (o_runs : Ok P w K mg base "runs_at" 2 ["pieces", "point"] spRuns)
    (o_letR : Ok P w K mg base "letters_of_runs" 1 ["runs"] spLetR) {tM : Tok} (h_LW : mg "LONGEST_WORD" = some (.int 20000 tM)) : FnOk P w K mg base (L2.CX P w) 5 f fd ["text", "point"] (spWritten K C) := by
  have nd := scWritten.nd
  refine F.ok scWritten (fun vs H Q E h => ?_) (fun cdv A outer s H vs Q E hr h => ?_)
  · obtain ⟨u, v, rfl, _⟩ := h
    rfl
  · obtain ⟨u, v, rfl, h⟩ := h
    obtain ⟨fI, fdI, XT⟩ := Z.x 4 (by decide)
    have XT : XCls P w K mg base "TooLong" "value" (C4 K 4) fI fdI := XT
    have r4 : Room 4 (A.deeper (envOfC "written" (defScope sWritten) s.heap.objs.size f cdv)) := hr
    have r2 := r4.mono (by decide : 2 ≤ 4)
    have r1 := r4.mono (by decide : 1 ≤ 4)
    have szl := sizeLine_eq
    refine ⟨_, pss_cons (ps_expr (pe_callX (E := E) o_tp (takes_of rfl rfl rfl rfl) r4 (by rfl) (pa_cons (pv 0) (pa_cons (pv 1) pa_nil))))
      (pss_cons (ps_set (i := 2) nd rfl (Or.inl rfl) (pe_callO o_runs r2 (by rfl) (pa_cons (pe_piecesT o_pieces T (pv 0) r1) (pa_cons (pv 1) pa_nil))))
      (pss_cons (ps_set (i := 3) nd rfl (Or.inl rfl) (pe_callO o_letR r1 (by rfl) (pa_cons (pv 2) pa_nil)))
      (pss_cons (ps_if (pt_cmpR op_gt (pv 3) (pe_glob (v := .int 20000) (by rfl) h_LW ⟨_, rfl⟩) (nomark _)) (pss_one (ps_raiseX (nm := "TooLong") rfl XT r2 (takes_of rfl rfl rfl rfl) (by rfl) (pv 3))) pss_nil)
      (pss_one (ps_ret (pe_join pe_str (pe_lc (own := [("word", 4), ("times", 5)]) (g := gTup K 2 (gCons (gName 4) (gCons (gName 5) gNil))) (by rfl) nd (pi_list (pv 2)) (blkOk_by (N := nWritten) (sc := defScope sWritten) (own := [("word", 4), ("times", 5)]) (by decide +kernel))
          (fun _ _ _ _ _ => pg_tup rfl (pgs_cons (pg_name (i := 4) nd rfl (Or.inl rfl)) (pgs_cons (pg_name (i := 5) nd rfl (Or.inl rfl)) pgs_nil))) (fun _ _ _ _ _ => pts_nil)
          (fun _ _ _ _ _ => pe_op op_mulS (pv 4) (pv 5))))))))), ?_⟩
    rcases h with h | ⟨x, m, done, b, rfl, hx, hp, h⟩
    · exact ⟨_, rfl, _, rfl, u, v, rfl, .inl h⟩
    rcases h with h | ⟨rfl, bp, ys, g, q, r⟩
    · exact ⟨_, rfl, _, rfl, .ref x, v, rfl, .inr ⟨x, m, done, b, rfl, hx, hp, .inl h⟩⟩
    refine ⟨_, rfl, _, rfl, .ref x, v, rfl, .inr ⟨x, m, done, true, rfl, hx, hp, .inr ⟨rfl, fun H1 s1 => ?_⟩⟩⟩
    have nn : ∀ y ∈ ys, 0 ≤ y := fun y hy => (g.s y hy).1
    have eL := lenR_V g.d.z nn
    obtain rfl := g.e
    refine ⟨_, rfl, x, m, done, rfl, hx.keep s1, fun H2 l s2 nl hl => ⟨_, rfl, m, l, bp, done, ys, rfl, g.m3, hl, g.d, by have := g.n; omega, s2 _ _ (s1 _ _ g.h), g.l, g.s, fun H3 rr xs s3 hr3 hR => ?_⟩⟩
    have lR : (done.map (rn ys)).length ≤ 100 := by
      have := g.n
      rw [List.length_map]
      omega
    have wR : ∀ r ∈ done.map (rn ys), (cs r.1).length ≤ 4000 ∧ 0 ≤ r.2 ∧ cs r.1 ≠ [] := fun r hr => by
      obtain ⟨p, hp, rfl⟩ := List.mem_map.mp hr
      exact ⟨(g.d.w p hp).2, tms_nn (g.d.z p hp) nn, g.d.e p hp⟩
    refine ⟨_, rfl, rr, xs, _, rfl, hr3, hR, lR, fun r hr => (wR r hr).1, fun H4 s4 => ?_⟩
    have S := ((s1.trans s2).trans s3).trans s4
    refine ⟨_, rfl, _, _, rfl, rfl, _, rfl, ite2 (fun c => ?_) (fun c => ?_)⟩
    · exact ⟨_, rfl, fun d nd => r (by have := of_decide_eq_true c; omega) H4 d S nd⟩
    · have le : lenR (done.map (rn ys)) ≤ 20000 := by
        have : ¬ (lenR (done.map (rn ys)) > 20000) := fun z => c (decide_eq_true z)
        omega
      have hr4 := s4 _ _ hr3
      have hR4 := hR.keep s4
      have lx := hR4.len
      have eR : ((lettersR (toR (done.map (rn ys))) : Nat) : Int) ≤ 20000 := by
        rw [← lenR_eq fun r hr => (wR r hr).2.1]
        exact le
      refine ⟨⟨_, rfl⟩, _, rfl, rr, rfl, ⟨_, SqL.of hr4⟩, fun D nD => lc_list (K := K) (a := rr) (xs := xs) (fun k H' => Same H4 H' ∧ ∃ zs : List Str, H' D = some (.lst (zs.map V.str)) ∧ zs.map cs = ((toR (done.map (rn ys))).take k).map fun r => pw r.1 r.2) ⟨same_new nD, [], upd_same, rfl⟩ (fun k H' _ p => SqL.of (p.1 _ _ hr4)) ?_ ?_⟩
      · rintro k y H' hk ⟨sm, zs, hD, hz⟩
        obtain ⟨r, er, ⟨t, rfl, ht⟩⟩ := hR4.get hk
        obtain ⟨w1, w2, w3⟩ := wR r (List.mem_of_getElem? er)
        have li : k < 100 := by
          have := (List.getElem?_eq_some_iff.mp er).1
          omega
        have et : (toR (done.map (rn ys)))[k]? = some (cs r.1, r.2.toNat) := by
          unfold toR
          rw [List.getElem?_map, er]
          rfl
        have lz : (cs r.1).length * r.2.toNat ≤ 20000 := by
          have := lettersR_mem (List.mem_of_getElem? et)
          have : (cs r.1).length * r.2.toNat ≤ lettersR (toR (done.map (rn ys))) := this
          omega
        have lzs : zs.length ≤ 100 := by
          have := congrArg List.length hz
          rw [List.length_map, List.length_map, List.length_take] at this
          omega
        refine ⟨t, _, rfl, SqT.of (sm _ _ ht), rfl, _, _, rfl, _, _, rfl, rfl, rfl, ?_⟩
        refine ⟨_, rfl, _, rfl, _, _, rfl, rfl, mulOk w2 w3 (by omega), _, hD, ?_, fun b o e => ?_, zs ++ [Txt.mul r.1 r.2], ?_, ?_⟩
        · rw [List.length_map]
          exact small1000 (by omega)
        · rw [upd_ne (ne_of_none (H := H4) e nD)]
          exact sm _ _ e
        · rw [upd_same, List.map_append]
          rfl
        · rw [List.map_append, hz, List.take_add_one, et, List.map_append]
          show _ ++ [cs (Txt.mul r.1 r.2)] = _ ++ [pw (cs r.1) r.2.toNat]
          rw [cs_mul _ w2]
      · rintro H' ⟨sm, zs, hD, hz⟩
        have lt : (toR (done.map (rn ys))).take xs.length = toR (done.map (rn ys)) := List.take_of_length_le (by
          unfold toR
          rw [List.length_map, lx]
          exact Nat.le_refl _)
        rw [lt] at hz
        have ez : zs.flatMap cs = NP.V ys done := by
          rw [List.flatMap_def, hz, ← List.flatMap_def, ← wr_rn]
          rfl
        refine ⟨_, D, zs, rfl, rfl, .inl (SqL.of hD), ?_, q le H' _ (S.trans sm) ((join0 zs).trans ez)⟩
        rw [sum_len, ez, show ("" : Str).length = 0 by decide +kernel, Nat.mul_zero]
        omega
theorem ok_lettersT (F : FnP K "letters" sLettersT f fd) (T : TT K mg C) (Z : Cl4 P w K mg base) (o_text : OkX P w K mg base "require_text" 3 ["text"] (spReqText K C)) (o_letter : Ok P w K mg base "is_letter" 2 ["value"] spLet) (o_many : OkMt P w K mg base C "many" (spManyT C)) (o_pieces : OkMt P w K mg base C "pieces" (spPiecesT C)) (o_times : Ok P w K mg base "form_times" 1 ["form", "times"] spTimes)
    (o_sum : Ok P w K mg base "sum_of_forms" 1 ["many", "forms"] spSum) : FnOk P w K mg base (L2.CX P w) 4 f fd ["text", "letter"] (spLettersT K C) := by
  have nd := scLettersT.nd
  refine F.ok scLettersT (fun vs H Q E h => ?_) (fun cdv A outer s H vs Q E hr h => ?_)
  · obtain ⟨v, u, rfl, _⟩ := h
    rfl
  · obtain ⟨v, u, rfl, h⟩ := h
    obtain ⟨fI, fdI, XT⟩ := Z.x 2 (by decide)
    have XT : XCls P w K mg base "InvalidWord" "value" (C4 K 2) fI fdI := XT
    have szl := sizeLine_eq
    have r3 : Room 3 (A.deeper (envOfC "letters" (defScope sLettersT) s.heap.objs.size f cdv)) := hr
    have r2 := r3.mono (by decide : 2 ≤ 3)
    have r1 := r3.mono (by decide : 1 ≤ 3)
    refine ⟨_, pss_cons (ps_expr (pe_callX (E := E) o_text (takes_of rfl rfl rfl rfl) r3 (by rfl) (pa_cons (pv 0) pa_nil)))
      (pss_cons (ps_if (pt_not (pt_val (pe_callO o_letter r2 (by rfl) (pa_cons (pv 1) pa_nil)))) (pss_one (ps_raiseX (nm := "InvalidWord") rfl XT r2 (takes_of rfl rfl rfl rfl) (by rfl) (pv 1))) pss_nil)
      (pss_one (ps_ret (pe_callO o_sum r1 (by rfl) (pa_cons (pe_manyT o_many T (pv 0) r1) (pa_cons
        (pe_lc (own := [("word", 2), ("form", 3)]) (g := gTup K 2 (gCons (gName 2) (gCons (gName 3) gNil))) (by rfl) nd (pi_list (pe_piecesT o_pieces T (pv 0) r1)) (blkOk_by (N := ["text", "letter", "word", "form"]) (sc := defScope sLettersT) (own := [("word", 2), ("form", 3)]) (by decide +kernel))
          (fun _ _ _ _ _ => pg_tup rfl (pgs_cons (pg_name (i := 2) nd rfl (Or.inl rfl)) (pgs_cons (pg_name (i := 3) nd rfl (Or.inl rfl)) pgs_nil))) (fun _ _ _ _ _ => pts_nil)
          (fun _ _ _ _ _ => pe_callO o_times r1 (by rfl) (pa_cons (pv 3) (pa_cons (pe_m1 PySem.F.slot_str_count PySem.F.type_str_count mt_count (pv 2) (pv 1)) pa_nil)))) pa_nil)))))), ?_⟩
    rcases h with ⟨n, r⟩ | ⟨x, m, done, rfl, hx, kn, hl, h⟩
    · exact ⟨_, rfl, v, rfl, .inr ⟨n, r⟩⟩
    refine ⟨_, rfl, .ref x, rfl, .inl ⟨x, m, done, rfl, hx, ?_⟩⟩
    rcases h with ⟨e, r⟩ | ⟨c, e, rfl, hm, dn, l90, q⟩
    · exact ⟨_, rfl, u, rfl, kn, hl, false, congrArg V.bl e, iteT ⟨_, rfl, fun d nd => r H d (Same.refl _) nd⟩⟩
    refine ⟨_, rfl, _, rfl, kn, hl, true, congrArg V.bl e, iteF ?_⟩
    refine ⟨_, rfl, x, m, done, rfl, hx, _, rfl, x, m, done, rfl, hx, fun H1 l s1 nl ⟨xs, hl, hP⟩ => ⟨l, rfl, ⟨_, SqL.of hl⟩, fun D nD => ?_⟩⟩
    have lx := hP.len
    refine lc_list (K := K) (a := l) (xs := xs) (fun k H' => Same H1 H' ∧ ∃ fs : List (Addr × List Int), H' D = some (.lst (fs.map fun p => L2.V.ref p.1)) ∧ fs.length = k ∧ (∀ p ∈ fs, H' p.1 = some (.tup (p.2.map L2.V.int)) ∧ p.2.length = m + 1) ∧ ∀ j, col fs j = lin (fun x => decide (x = c)) j (done.take k)) ⟨same_new nD, [], upd_same, rfl, fun p hp => (by cases hp), fun j => rfl⟩ (fun k H' _ p => SqL.of (p.1 _ _ hl)) ?_ ?_
    · rintro k y H' hk ⟨sm, fs, hD, lf, hf, hc⟩
      obtain ⟨p, ep, ⟨t, f1, rfl, ht, hf1⟩⟩ := hP.get hk
      have pz := dn.z p (List.mem_of_getElem? ep)
      have l4 := (dn.w p (List.mem_of_getElem? ep)).2
      have lcn : 0 ≤ Txt.count p.1 ⟨#[c]⟩ ∧ Txt.count p.1 ⟨#[c]⟩ ≤ 4000 := by
        rw [count_one]
        unfold cn
        have := List.countP_le_length (p := fun x => decide (x = c)) (l := cs p.1)
        omega
      have li : k < 100 := by
        have := (List.getElem?_eq_some_iff.mp ep).1
        omega
      refine ⟨t, _, rfl, SqT.of (sm _ _ ht), rfl, _, _, rfl, _, _, rfl, rfl, rfl, ?_⟩
      refine ⟨_, rfl, _, rfl, ⟨_, rfl⟩, _, rfl, p.1, _, rfl, rfl, f1, Txt.count p.1 ⟨#[c]⟩, fm p, rfl, sm _ _ hf1, by show p.2.2.length + 1 ≤ 100; rw [pz.l]; omega, ?_, ⟨lcn.1, Int.lt_of_le_of_lt (b := 4000) lcn.2 (by decide +kernel)⟩, fun H2 g s2 ng hg => ?_⟩
      · intro z hz
        rcases List.mem_cons.mp hz with rfl | hz
        · exact Sz.le pz.c (by decide)
        · exact Sz.le (pz.x z hz) (by decide)
      have hD2 := s2 _ _ hD
      refine ⟨_, hD2, ?_, fun b o e => ?_, fs ++ [(g, (fm p).map (· * Txt.count p.1 ⟨#[c]⟩))], ?_, by rw [List.length_append, lf]; rfl, fun z hz => ?_, fun j => ?_⟩
      · rw [List.length_map, lf]
        exact small1000 (by omega)
      · rw [upd_ne (ne_of_none e nD)]
        exact s2 _ _ (sm _ _ e)
      · rw [upd_same, List.map_append]
        rfl
      · rcases List.mem_append.mp hz with hz | hz
        · obtain ⟨h1, h2⟩ := hf z hz
          refine ⟨?_, h2⟩
          have h3 := s2 _ _ h1
          rw [upd_ne (ne_of h3 hD2 (by intro z; cases z))]
          exact h3
        · rcases List.mem_singleton.mp hz with rfl
          refine ⟨?_, by show ((fm p).map _).length = m + 1; rw [List.length_map]; show p.2.2.length + 1 = m + 1; rw [pz.l]⟩
          rw [upd_ne (ne_of hg hD2 (by intro z; cases z))]
          exact hg
      · rw [col_snoc, hc, List.take_add_one, ep]
        show lin _ j (done.take k) + ((fm p).map (· * Txt.count p.1 ⟨#[c]⟩)).getD j 0 = lin _ j (done.take k ++ [p])
        rw [lin_app, lin_one, fm_getD, count_one, Int.mul_comm]
    · rintro H' ⟨sm, fs, hD, lf, hf, hc⟩
      rw [lx, List.take_length] at hc
      refine ⟨m, D, fs, rfl, hD, by omega, by omega, hf, fun H2 r s2 nr hr2 => q H2 r ((s1.trans sm).trans s2) ?_⟩
      have e : (List.range (m + 1)).map (col fs) = (List.range (m + 1)).map fun j => lin (fun x => decide (x = c)) j done := congrArg (fun f => (List.range (m + 1)).map f) (funext hc)
      rw [e] at hr2
      exact hr2
end
end K4
set_option Elab.async false
set_option linter.all false
set_option maxRecDepth 100000
set_option maxHeartbeats 4000000
namespace K4
open PySem PySem.Spec PyProof.Rows L2 XV NP
/-! ### the law's own: a value, a letter, a word -/
abbrev sLWord : Stmt := top 56
abbrev sLValue : Stmt := top 59
abbrev sLLetter : Stmt := top 61
theorem scLValue : FnScope ["_law_form", "_law_point", "_law_at"] ["_law_form", "_law_point"] (defScope sLValue) := ⟨rfl, rfl, rfl, by decide +kernel, rfl, by decide +kernel, by decide +kernel⟩
abbrev nLLetter : List Str := ["_law_pieces_here", "_law_point", "_law_place", "_law_left", "_law_piece_here", "_law_many"]
theorem scLLetter : FnScope nLLetter ["_law_pieces_here", "_law_point", "_law_place"] (defScope sLLetter) := ⟨rfl, rfl, rfl, by decide +kernel, rfl, by decide +kernel, by decide +kernel⟩
theorem scLWord : FnScope ["_law_generator_here", "_law_most", "_law_turn"] ["_law_generator_here", "_law_most"] (defScope sLWord) := ⟨rfl, rfl, rfl, by decide +kernel, rfl, by decide +kernel, by decide +kernel⟩
theorem dot_range {xs ys : List Int} (h : xs.length = ys.length) : ((List.range ys.length).map fun j => xs.getD j 0 * ys.getD j 0) = List.zipWith (· * ·) xs ys := by
  apply List.ext_getElem?
  intro i
  rw [List.getElem?_map, List.getElem?_zipWith]
  by_cases c : i < ys.length
  · rw [List.getElem?_range c, List.getElem?_eq_getElem (show i < xs.length by omega), List.getElem?_eq_getElem c]
    simp [List.getD_eq_getElem?_getD, List.getElem?_eq_getElem (show i < xs.length by omega), List.getElem?_eq_getElem c]
  · rw [List.getElem?_eq_none (by rw [List.length_range]; omega), List.getElem?_eq_none (by omega)]
    rfl
theorem at_ints {l : List Int} {j : Nat} (h : j < l.length) : atI (l.map L2.V.int) (j : Int) = some (.int (l.getD j 0)) := by
  refine atI_nat ?_
  rw [List.getElem?_map, List.getD_eq_getElem?_getD, List.getElem?_eq_getElem h]
  rfl
theorem Sz.zero (k : Nat) : Sz k 0 := ⟨Int.le_refl 0, Int.pow_pos (by decide)⟩
theorem sz_dotK {k l : Nat} : ∀ (xs ys : List Int), (∀ x ∈ xs, Sz k x) → (∀ y ∈ ys, Sz l y) → Sz (k + l + xs.length) (K4.dot xs ys)
  | [], ys, _, _ => Sz.zero _
  | x :: xs, [], _, _ => by
    unfold K4.dot
    rw [List.zipWith_nil_right]
    exact Sz.zero _
  | x :: xs, y :: ys, hx, hy => by
    have e : K4.dot (x :: xs) (y :: ys) = x * y + K4.dot xs ys := rfl
    rw [e]
    have a := Sz.le ((hx x List.mem_cons_self).mul (hy y List.mem_cons_self)) (Nat.le_add_right (k + l) xs.length)
    have b := sz_dotK xs ys (fun z hz => hx z (List.mem_cons_of_mem _ hz)) fun z hz => hy z (List.mem_cons_of_mem _ hz)
    exact Sz.add a b
def spLLetter : Sp := fun vs H Q _ => ∃ (m : Nat) (pl bp : Addr) (i c : Nat) (ps : List Pc) (ys : List Int), vs = [.ref pl, .ref bp, .int i] ∧ m ≤ 3 ∧ PL H pl ps ∧ Ps m ps ∧ H bp = some (.lst (ys.map L2.V.int)) ∧ ys.length = m ∧ (∀ y ∈ ys, Sz 400 y) ∧ (NP.V ys ps)[i]? = some c ∧
  ∀ H', Same H H' → Q (.str ⟨#[c]⟩) H'
def spLWord : Sp := fun vs H Q _ => ∃ (g : Addr) (n k : Nat), vs = [.ref g, .int k] ∧ Dr H g n ∧ n ≤ 900000 ∧ k ≤ 10 ∧ ∀ (H' : Hp) (z : Str), AB z → (cs z).length ≤ k → But H H' g → Dr H' g (n + 300) → Q (.str z) H'
section
variable {P : Program} {w : World} {K : PySem.W.Frag} {mg : Str → Option Value} {base : Heap} {f : Addr} {fd : FuncData}
theorem ok_lvalue (F : FnP K "_law_value" sLValue f fd) (z_sum : mg "sum" = none) (z_range : mg "range" = none) (z_len : mg "len" = none) : FnOk P w K mg base CX0 1 f fd ["_law_form", "_law_point"] spFormValue := by
  have nd := scLValue.nd
  refine F.ok scLValue (fun vs H Q E h => ?_) (fun cdv A outer s H vs Q E hr h => ?_)
  · obtain ⟨fa, pa, c, xs, ys, rfl, _⟩ := h
    rfl
  · obtain ⟨fa, pa, c, xs, ys, rfl, hf, hp, hl, h100, hx, hy, q⟩ := h
    refine ⟨_, PSs.nox (pss_one (ps_ret (pe_op op_add (pe_ix ix_tup (pv 0) pe_int (fun _ _ => rfl)) (pe_callB (cr_sum rfl) (by rfl) z_sum (by decide +kernel) (pa_cons
      (pe_lc (own := [("_law_at", 2)]) (g := gName 2) (by rfl) nd (pi_range1 (by rfl) z_range (pa_cons (pe_callB call_len (by rfl) z_len boot_len (pa_cons (pv 1) pa_nil)) pa_nil)) (blkOk_by (N := ["_law_form", "_law_point", "_law_at"]) (sc := defScope sLValue) (own := [("_law_at", 2)]) (by decide +kernel))
        (fun _ _ _ _ _ => pg_name (i := 2) nd rfl (Or.inl rfl)) (fun _ _ _ _ _ => pts_nil)
        (fun _ _ _ _ _ => pe_op op_mulW (pe_ix (ix_tupK (K := K) rfl) (pv 0) (pe_op op_add (pv 2) pe_int) (fun _ _ => rfl)) (pe_ix (ix_listK (K := K) rfl) (pv 1) (pv 2) (fun _ _ => rfl)))) pa_nil))))), ?_⟩
    refine ⟨_, rfl, fa, _, _, _, rfl, rfl, SqT.of hf, (show atI ((c :: xs).map V.int) ((0 : Nat) : Int) = some (V.int c) from atI_nat rfl), _, rfl, _, (ys.map V.int).length, rfl, .inl ⟨_, SqL.of hp, rfl⟩, _, rfl, by rw [List.length_map]; omega, by rw [List.length_map]; omega, fun D nD => ?_⟩
    have eN : (((ys.map V.int).length : Nat) : Int).toNat = ys.length := by rw [List.length_map]; omega
    rw [eN]
    refine lc_range (lo := 0) (n := ys.length) (fun k H' => Same H H' ∧ H' D = some (.lst (((List.range k).map fun j => xs.getD j 0 * ys.getD j 0).map V.int))) ⟨same_new nD, upd_same⟩ ?_ ?_
    · rintro j H' hj ⟨sm, hD⟩
      rw [Int.zero_add]
      have gx := at_ints (l := c :: xs) (j := j + 1) (by show j + 1 < xs.length + 1; omega)
      have gy := at_ints (l := ys) (j := j) hj
      have ex : (c :: xs).getD (j + 1) 0 = xs.getD j 0 := by simp [List.getD_eq_getElem?_getD]
      rw [ex] at gx
      have sx : Sz 1000 (xs.getD j 0) := by
        rw [List.getD_eq_getElem?_getD, List.getElem?_eq_getElem (show j < xs.length by omega)]
        exact hx _ (List.getElem_mem _)
      have sy : Sz 1000 (ys.getD j 0) := by
        rw [List.getD_eq_getElem?_getD, List.getElem?_eq_getElem hj]
        exact hy _ (List.getElem_mem _)
      refine ⟨rfl, ?_⟩
      refine ⟨_, rfl, _, rfl, _, _, rfl, rfl, fa, _, _, _, rfl, rfl, SqT.of (sm _ _ hf), gx, _, rfl, _, rfl, pa, _, _, _, rfl, rfl, SqL.of (sm _ _ hp), gy, _, _, rfl, rfl, sx.mulW sy (by decide), _, hD, ?_, fun b o e => ?_, ?_⟩
      · rw [List.length_map, List.length_map, List.length_range]
        exact small1000 (by omega)
      · rw [upd_ne (ne_of_none (H := H) e nD)]
        exact sm _ _ e
      · rw [upd_same, List.range_succ, List.map_append, List.map_append]
        rfl
    · rintro H' ⟨sm, hD⟩
      rw [dot_range hl] at hD
      exact ⟨D, _, rfl, SqL.of hD, _, _, rfl, rfl, q H' sm⟩
theorem ok_lletter (F : FnP K "_law_letter" sLLetter f fd) (o_val : Ok P w K mg base "_law_value" 1 ["_law_form", "_law_point"] spFormValue) (z_len : mg "len" = none) (z_int : mg "int" = none) : FnOk P w K mg base CX0 2 f fd ["_law_pieces_here", "_law_point", "_law_place"] spLLetter := by
  have nd := scLLetter.nd
  refine F.ok scLLetter (fun vs H Q E h => ?_) (fun cdv A outer s H vs Q E hr h => ?_)
  · obtain ⟨m, pl, bp, i, c, ps, ys, rfl, _⟩ := h
    rfl
  · obtain ⟨m, pl, bp, i0, c, ps, ys, rfl, hm, ⟨xs, hp, hP⟩, hPs, hb, ly, sy, hc, q⟩ := h
    have lx := hP.len
    have szl := sizeLine_eq
    have r1 : Room 1 (A.deeper (envOfC "_law_letter" (defScope sLLetter) s.heap.objs.size f cdv)) := hr
    refine ⟨_, PSs.nox (pss_cons (ps_set (i := 3) nd rfl (Or.inl rfl) (pv 2))
      (pss_cons (ps_for PassesOwn.never rfl (pi_list (pv 0)) (pg_name (i := 4) nd rfl (Or.inl rfl))
        (pss_cons (ps_set (i := 5) nd rfl (Or.inl rfl) (pe_op op_mulW (pe_callB call_len_str (by rfl) z_len boot_len (pa_cons (pe_ix ix_tup (pv 4) pe_int (fun _ _ => rfl)) pa_nil)) (pe_callO o_val r1 (by rfl) (pa_cons (pe_ix ix_tup (pv 4) pe_int (fun _ _ => rfl)) (pa_cons (pv 1) pa_nil)))))
        (pss_cons (ps_if (pt_cmpR op_lt (pv 3) (pv 5) (nomark _)) (pss_one (ps_ret (pe_ix ix_str (pe_ix ix_tup (pv 4) pe_int (fun _ _ => rfl)) (pe_op op_mod (pe_callTy call_int1 (by rfl) z_int (by decide +kernel) (pa_cons (pv 3) pa_nil)) (pe_callB call_len_str (by rfl) z_len boot_len (pa_cons (pe_ix ix_tup (pv 4) pe_int (fun _ _ => rfl)) pa_nil))) (fun _ _ => rfl)))) pss_nil)
        (pss_one (ps_set (i := 3) nd rfl (Or.inl rfl) (pe_op op_sub (pv 3) (pv 5)))))))
      (pss_one (ps_ret pe_non)))), ?_⟩
    have h0 : letterR (toR (ps.map (rn ys))) i0 = some c := by
      rw [letterR_eq, wr_rn]
      exact hc
    refine ⟨_, rfl, _, rfl, pl, rfl, ⟨_, SqL.of hp⟩, for_list (K := K) (a := pl) (xs := xs) (fun i σ H' => Same H H' ∧ ∃ (at_ : Nat) (x4 x5 : Option V), σ = [some (.ref pl), some (.ref bp), some (.int i0), some (.int (at_ : Int)), x4, x5] ∧ letterR ((toR (ps.map (rn ys))).drop i) at_ = some c) ⟨Same.refl _, i0, _, _, rfl, h0⟩ (fun i σ H' _ p => SqL.of (p.1 _ _ hp)) ?_ ?_⟩
    · rintro i y σ H' hi ⟨sm, n, x4, x5, rfl, hn⟩
      obtain ⟨p, ep, ⟨a, f1, rfl, ha, hf⟩⟩ := (hP.keep sm).get hi
      have pz := hPs.z p (List.mem_of_getElem? ep)
      have l2 := (hPs.w p (List.mem_of_getElem? ep)).2
      have lz := cs_len p.1
      have t0 : 0 ≤ tms p ys := tms_nn pz fun y hy => (sy y hy).1
      have et : (toR (ps.map (rn ys)))[i]? = some (cs p.1, (tms p ys).toNat) := by
        unfold toR
        rw [List.map_map, List.getElem?_map, ep]
        rfl
      have ed : (toR (ps.map (rn ys))).drop i = (cs p.1, (tms p ys).toNat) :: (toR (ps.map (rn ys))).drop (i + 1) := by
        obtain ⟨lt, e⟩ := List.getElem?_eq_some_iff.mp et
        rw [List.drop_eq_getElem_cons lt, e]
      rw [ed] at hn
      have hn : (if n < (cs p.1).length * (tms p ys).toNat then (cs p.1)[n % (cs p.1).length]? else letterR ((toR (ps.map (rn ys))).drop (i + 1)) (n - (cs p.1).length * (tms p ys).toNat)) = some c := hn
      have em : ((p.1.length : Int) * tms p ys) = (((cs p.1).length * (tms p ys).toNat : Nat) : Int) := by
        rw [Int.natCast_mul, Int.toNat_of_nonneg t0, lz]
      have at0 : atI [V.str p.1, V.ref f1] ((0 : Nat) : Int) = some (V.str p.1) := atI_nat rfl
      have at1 : atI [V.str p.1, V.ref f1] ((1 : Nat) : Int) = some (V.ref f1) := atI_nat rfl
      have szv : Sz 900 (tms p ys) := by
        have d : Sz 800 (K4.dot p.2.2 ys) := by
          have := sz_dotK (k := 200) (l := 400) p.2.2 ys pz.x sy
          rw [pz.l] at this
          exact Sz.le this (by omega)
        have := Sz.add (Sz.le pz.c (by decide : 200 ≤ 800)) d
        exact Sz.le this (by decide)
      refine ⟨_, rfl, a, _, _, _, rfl, rfl, SqT.of ha, at0, p.1, rfl, by omega, _, rfl, a, _, _, _, rfl, rfl, SqT.of ha, at1, _, rfl, f1, bp, p.2.1, p.2.2, ys, rfl, hf, sm _ _ hb, by rw [pz.l, ly], by rw [pz.l]; omega, fun x hx => Sz.le (pz.x x hx) (by decide), fun y hy => Sz.le (sy y hy) (by decide), fun H2 s2 => ?_⟩
      have ha2 := s2 _ _ ha
      have sl : Sz 20 ((p.1.length : Nat) : Int) := ⟨by omega, Int.lt_of_le_of_lt (b := 2000) (by omega) (by decide)⟩
      refine ⟨_, _, rfl, rfl, sl.mulW szv (by decide), _, rfl, _, rfl, _, _, rfl, rfl, _, rfl, ite2 (fun e => ?_) (fun e => ?_)⟩
      · have e : (n : Int) < (p.1.length : Int) * tms p ys := of_decide_eq_true e
        rw [em] at e
        have e : n < (cs p.1).length * (tms p ys).toNat := by omega
        rw [if_pos e] at hn
        have lp : 0 < (cs p.1).length := by
          by_cases z : (cs p.1).length = 0
          · rw [z, Nat.zero_mul] at e
            omega
          · omega
        refine ⟨_, rfl, a, _, _, _, rfl, rfl, SqT.of ha2, at0, _, rfl, .inl ⟨_, rfl, _, rfl, a, _, _, _, rfl, rfl, SqT.of ha2, at0, p.1, rfl, by omega, _, _, rfl, rfl, (by show (0 : Int) < (p.1.length : Int); omega), p.1, _, c, rfl, rfl, by omega, ?_, q _ (sm.trans s2)⟩⟩
        rw [lz, ← Int.natCast_emod]
        exact atI_nat hn
      · have e : ¬ (n : Int) < (p.1.length : Int) * tms p ys := fun z => e (decide_eq_true z)
        rw [em] at e
        have e : ¬ n < (cs p.1).length * (tms p ys).toNat := by omega
        rw [if_neg e] at hn
        refine ⟨_, rfl, _, rfl, _, _, rfl, rfl, sm.trans s2, n - (cs p.1).length * (tms p ys).toNat, some (V.ref a), some (V.int ((p.1.length : Int) * tms p ys)), ?_, hn⟩
        show [some (V.ref pl), some (V.ref bp), some (V.int (i0 : Int)), some (V.int ((n : Int) - (p.1.length : Int) * tms p ys)), some (V.ref a), some (V.int ((p.1.length : Int) * tms p ys))] = _
        rw [show (n : Int) - (p.1.length : Int) * tms p ys = ((n - (cs p.1).length * (tms p ys).toNat : Nat) : Int) by rw [em]; omega]
    · rintro σ H' ⟨sm, n, x4, x5, rfl, hn⟩
      rw [List.drop_eq_nil_of_le (by unfold toR; rw [List.length_map, List.length_map]; omega)] at hn
      cases hn
theorem ok_lword (F : FnP K "_law_word" sLWord f fd) (o_rand : Ok P w K mg base "_law_random" 2 ["_law_generator_here", "_law_bound"] spRand) (z_range : mg "range" = none) : FnOk P w K mg base CX0 3 f fd ["_law_generator_here", "_law_most"] spLWord := by
  have nd := scLWord.nd
  refine F.ok scLWord (fun vs H Q E h => ?_) (fun cdv A outer s H vs Q E hr h => ?_)
  · obtain ⟨g, n, k, rfl, _⟩ := h
    rfl
  · obtain ⟨g, n, k, rfl, hd, hn, hk, q⟩ := h
    have szl := sizeLine_eq
    have r2 : Room 2 (A.deeper (envOfC "_law_word" (defScope sLWord) s.heap.objs.size f cdv)) := hr
    refine ⟨_, PSs.nox (pss_one (ps_ret (pe_join pe_str (pe_lc (own := [("_law_turn", 2)]) (g := gName 2) (by rfl) nd (pi_range1 (by rfl) z_range (pa_cons (pe_callO o_rand r2 (by rfl) (pa_cons (pv 0) (pa_cons (pe_op op_add (pv 1) pe_int) pa_nil))) pa_nil)) (blkOk_by (N := ["_law_generator_here", "_law_most", "_law_turn"]) (sc := defScope sLWord) (own := [("_law_turn", 2)]) (by decide +kernel))
        (fun _ _ _ _ _ => pg_name (i := 2) nd rfl (Or.inl rfl)) (fun _ _ _ _ _ => pts_nil)
        (fun _ _ _ _ _ => pe_ix ix_str pe_str (pe_callO o_rand r2 (by rfl) (pa_cons (pv 0) (pa_cons pe_int pa_nil))) (fun _ _ => rfl)))))), ?_⟩
    refine ⟨⟨_, rfl⟩, _, rfl, _, rfl, _, _, rfl, rfl, g, n, (k : Int) + 1, rfl, hd, by omega, by omega, Int.lt_of_le_of_lt (b := 11) (by omega) (by decide +kernel), fun H1 r r0 rk b1 d1 => ⟨r, rfl, by omega, by omega, fun D nD => ?_⟩⟩
    have gD : g ≠ D := by
      obtain ⟨a, b, c, e, _⟩ := d1
      exact ne_of_none e nD
    refine lc_range (lo := 0) (n := r.toNat) (fun i H' => But H1 H' g ∧ ∃ zs : List Str, H' D = some (.lst (zs.map V.str)) ∧ zs.length = i ∧ (∀ z ∈ zs, AB z ∧ (cs z).length = 1) ∧ Dr H' g (n + 20 + 20 * i)) ⟨Same.but (same_new nD), [], upd_same, rfl, fun z hz => (by cases hz), (by
      obtain ⟨a, b, c, e, r⟩ := d1
      exact ⟨a, b, c, by rw [upd_ne gD]; exact e, r⟩)⟩ ?_ ?_
    · rintro i H' hi ⟨bt, zs, hD, lz, hz, hd2⟩
      refine ⟨rfl, ?_⟩
      refine ⟨_, rfl, g, n + 20 + 20 * i, 2, rfl, hd2, by omega, by decide, by decide +kernel, fun H2 x x0 x2 b2 d2 => ?_⟩
      obtain ⟨c, ec, hc⟩ : ∃ c : Nat, atI (cs ("ab" : Str)) x = some c ∧ (c = 97 ∨ c = 98) := by
        have e : x = 0 ∨ x = 1 := by omega
        rcases e with rfl | rfl
        · exact ⟨97, by decide +kernel, .inl rfl⟩
        · exact ⟨98, by decide +kernel, .inr rfl⟩
      have hD2 := b2 _ _ (Ne.symm gD) hD
      refine ⟨("ab" : Str), x, c, rfl, rfl, (by show (2 : Nat) ≤ sizeLine; omega), ec, _, hD2, ?_, fun b o nb e => ?_, zs ++ [⟨#[c]⟩], ?_, ?_, fun z hz2 => ?_, ?_⟩
      · rw [List.length_map]
        exact small1000 (by omega)
      · rw [upd_ne (ne_of_none (H := H1) e nD)]
        exact b2 _ _ nb (bt _ _ nb e)
      · rw [upd_same, List.map_append]
        rfl
      · rw [List.length_append, lz]
        rfl
      · rcases List.mem_append.mp hz2 with h | h
        · exact hz z h
        · rw [List.mem_singleton.mp h]
          refine ⟨fun c' hc' => ?_, rfl⟩
          have : c' = c := by simpa using hc'
          rw [this]
          exact hc
      · obtain ⟨a, b, c, e, r⟩ := d2
        exact ⟨a, b, c, by rw [upd_ne gD]; exact e, by have := r; omega⟩
    · rintro H' ⟨bt, zs, hD, lz, hz, hd2⟩
      have lf : (zs.flatMap cs).length = zs.length := by
        clear hD lz hd2 bt
        induction zs with
        | nil => rfl
        | cons z zs ih =>
          rw [List.flatMap_cons, List.length_append, (hz z List.mem_cons_self).2, ih fun y hy => hz y (List.mem_cons_of_mem _ hy), List.length_cons, Nat.add_comm]
      refine ⟨_, D, zs, rfl, rfl, .inl (SqL.of hD), ?_, q H' _ (fun c hc => ?_) ?_ (b1.trans bt) (hd2.mono (by omega))⟩
      · rw [sum_len, lf, show ("" : Str).length = 0 by decide +kernel, Nat.mul_zero]
        omega
      · rw [join0] at hc
        obtain ⟨z, h1, h2⟩ := List.mem_flatMap.mp hc
        exact (hz z h1).1 c h2
      · rw [join0, lf]
        omega
end
end K4
set_option Elab.async false
set_option linter.all false
set_option maxRecDepth 100000
set_option maxHeartbeats 4000000
namespace K4
open PySem PySem.Spec PyProof.Rows L2 XV NP
/-! ### the pieces that the law draws -/
abbrev sLPiece : Stmt := top 57
abbrev sLPieces : Stmt := top 58
abbrev nLPiece : List Str := ["_law_generator_here", "_law_base", "_law_many", "_law_great", "_law_kind", "_law_by", "_law_word_here", "_law_form", "_law_at", "_law_number"]
theorem scLPiece : FnScope nLPiece ["_law_generator_here", "_law_base", "_law_many", "_law_great"] (defScope sLPiece) := ⟨rfl, rfl, rfl, by decide +kernel, rfl, by decide +kernel, by decide +kernel⟩
abbrev nLPieces : List Str := ["_law_generator_here", "_law_many", "_law_most", "_law_great", "_law_base", "_law_turn"]
theorem scLPieces : FnScope nLPieces ["_law_generator_here", "_law_many", "_law_most", "_law_great"] (defScope sLPieces) := ⟨rfl, rfl, rfl, by decide +kernel, rfl, by decide +kernel, by decide +kernel⟩
theorem dr_neK {H : Hp} {g p : Addr} {n : Nat} (d : Dr H g n) (np : H p = none) : g ≠ p := by
  obtain ⟨a, b, c, e, r⟩ := d
  exact ne_of_none e np
theorem dr_updK {H : Hp} {g p : Addr} {n : Nat} {o : HO} (d : Dr H g n) (h : g ≠ p) : Dr (L2.upd H p o) g n := by
  obtain ⟨a, b, c, e, r⟩ := d
  exact ⟨a, b, c, by rw [upd_ne h]; exact e, r⟩
theorem dr_newK {H : Hp} {g p : Addr} {n : Nat} {o : HO} (d : Dr H g n) (np : H p = none) : Dr (L2.upd H p o) g n := dr_updK d (dr_neK d np)
theorem dr_same {H H' : Hp} {g : Addr} {n : Nat} (d : Dr H g n) (s : Same H H') : Dr H' g n := by
  obtain ⟨a, b, c, e, r⟩ := d
  exact ⟨a, b, c, s _ _ e, r⟩
theorem dr_tupK {H H' : Hp} {g p : Addr} {n : Nat} {xs : List L2.V} (d : Dr H g n) (b : But H H' g) (h : H p = some (.tup xs)) : H' p = some (.tup xs) := by
  obtain ⟨_, _, _, e, _⟩ := d
  exact b _ _ (fun z => by rw [z, e] at h; cases h) h
theorem IsPc.but {H H' : Hp} {g : Addr} {n : Nat} (d : Dr H g n) (b : But H H' g) {x : L2.V} {p : Pc} (h : IsPc H x p) : IsPc H' x p := by
  obtain ⟨a, f, e, t, u⟩ := h
  exact ⟨a, f, e, dr_tupK d b t, dr_tupK d b u⟩
theorem Pcs.but {H H' : Hp} {g : Addr} {n : Nat} (d : Dr H g n) (b : But H H' g) : ∀ {xs : List L2.V} {P : List Pc}, Pcs H xs P → Pcs H' xs P
  | _, _, .nil => .nil
  | _, _, .cons h r => .cons (h.but d b) (Pcs.but d b r)
/-- a piece that the law draws -/
structure Pk (m : Nat) (p : Pc) : Prop where
  w : AB p.1
  l : (cs p.1).length ≤ 10
  c0 : 0 ≤ p.2.1
  c2 : p.2.1 ≤ 2
  m : p.2.2.length = m
  x : ∀ x ∈ p.2.2, Sz 100 x
theorem Pk.pz {m : Nat} {p : Pc} (h : Pk m p) : Pz m 200 p := ⟨⟨h.c0, Int.lt_of_le_of_lt h.c2 (by decide +kernel)⟩, h.m, fun x hx => Sz.le (h.x x hx) (by decide)⟩
theorem sum_le {α : Type} {f : α → Int} {b : Int} : ∀ {ps : List α}, (∀ p ∈ ps, f p ≤ b) → (ps.map f).sum ≤ b * (ps.length : Int)
  | [], _ => by simp
  | p :: ps, h => by
    have a := h p List.mem_cons_self
    have r := sum_le (ps := ps) fun q hq => h q (List.mem_cons_of_mem _ hq)
    rw [List.map_cons, List.sum_cons, List.length_cons, Int.natCast_add, Int.mul_add]
    omega
theorem Pk.ten {m : Nat} {p : Pc} (h : Pk m p) {k : Int} (h0 : 0 ≤ k) : ((cs p.1).length : Int) * k ≤ 10 * k := Int.mul_le_mul_of_nonneg_right (by have := h.l; omega) h0
theorem pks_ps {m : Nat} {ps : List Pc} (h : ∀ p ∈ ps, Pk m p) (l : ps.length ≤ 5) : Ps m ps := by
  refine ⟨fun p hp => (h p hp).pz, fun p hp => ⟨(h p hp).w, by have := (h p hp).l; omega⟩, by omega, ?_⟩
  have := sum_le (f := fun p => cn tt p.1 * fj p 0) (b := 20) (ps := ps) fun p hp => by
    show cn tt p.1 * p.2.1 ≤ 20
    rw [cn_tt]
    have a := (h p hp).ten (h p hp).c0
    have b := (h p hp).c2
    omega
  show (ps.map fun p => cn tt p.1 * fj p 0).sum ≤ 2000
  omega
theorem pks_meas {m : Nat} {ps : List Pc} (h : ∀ p ∈ ps, Pk m p) (l : ps.length ≤ 5) : meas ps ≤ 2000 := by
  have := sum_le (f := me1) (b := 30) (ps := ps) fun p hp => by
    unfold me1
    rw [cs_len]
    have b := (h p hp).c2
    have c := (h p hp).c0
    split
    · have a := (h p hp).ten (k := p.2.1 + 0) (by omega)
      omega
    · have a := (h p hp).ten (k := p.2.1 + 1) (by omega)
      omega
  unfold meas
  omega
def spLPiece : Sp := fun vs H Q _ => ∃ (g : Addr) (n m : Nat) (base : Str), vs = [.ref g, .str base, .int m, .bl true] ∧ AB base ∧ 1 ≤ (cs base).length ∧ (cs base).length ≤ 5 ∧ m ≤ 3 ∧ Dr H g n ∧ n ≤ 500000 ∧
  ∀ (H' : Hp) (v : L2.V) (p : Pc), IsPc H' v p → Pk m p → But H H' g → Dr H' g (n + 1000) → Q v H'
def spLPieces : Sp := fun vs H Q _ => ∃ (g : Addr) (n m k : Nat), vs = [.ref g, .int m, .int k, .bl true] ∧ k ≤ 5 ∧ m ≤ 3 ∧ Dr H g n ∧ n ≤ 400000 ∧
  ∀ (H' : Hp) (pl : Addr) (ps : List Pc), H pl = none → PL H' pl ps → (∀ p ∈ ps, Pk m p) → ps.length ≤ 5 → But H H' g → Dr H' g (n + 10000) → Q (.ref pl) H'
theorem ab_app {x y : Str} (hx : AB x) (hy : AB y) : AB (x ++ y) := fun c hc => by
  rw [cs_app] at hc
  rcases List.mem_append.mp hc with h | h
  · exact hx c h
  · exact hy c h
section
variable {P : Program} {w : World} {K : PySem.W.Frag} {mg : Str → Option Value} {base : Heap} {f : Addr} {fd : FuncData}
theorem ok_lpiece (F : FnP K "_law_piece" sLPiece f fd) (o_rand : Ok P w K mg base "_law_random" 2 ["_law_generator_here", "_law_bound"] spRand) (o_word : Ok P w K mg base "_law_word" 3 ["_law_generator_here", "_law_most"] spLWord) (z_len : mg "len" = none) (z_tuple : mg "tuple" = none) (z_range : mg "range" = none) :
    FnOk P w K mg base CX0 4 f fd ["_law_generator_here", "_law_base", "_law_many", "_law_great"] spLPiece := by
  have nd := scLPiece.nd
  refine F.ok scLPiece (fun vs H Q E h => ?_) (fun cdv A outer s H vs Q E hr h => ?_)
  · obtain ⟨g, n, m, b, rfl, _⟩ := h
    rfl
  · obtain ⟨g, n, m, b, rfl, hb, b1, b5, hm, dr, hn, q⟩ := h
    have szl := sizeLine_eq
    have lb := cs_len b
    have r3 : Room 3 (A.deeper (envOfC "_law_piece" (defScope sLPiece) s.heap.objs.size f cdv)) := hr
    have r2 := r3.mono (by decide : 2 ≤ 3)
    refine ⟨_, PSs.nox (pss_cons (ps_par (i := 4) (j := 5) rfl nd rfl rfl (by decide) rfl rfl (pa_cons (pe_callO o_rand r2 (by rfl) (pa_cons (pv 0) (pa_cons pe_int pa_nil))) (pa_cons (pe_callO o_rand r2 (by rfl) (pa_cons (pv 0) (pa_cons (pe_callB call_len_str (by rfl) z_len boot_len (pa_cons (pv 1) pa_nil)) pa_nil))) pa_nil)) (by rfl))
      (pss_cons (ps_set (i := 6) nd rfl (Or.inl rfl) (pe_op op_add_str (pe_slice sl_str (pv 1) (po_some (pv 5)) po_none) (pe_slice sl_str (pv 1) po_none (po_some (pv 5)))))
      (C8.pss_cut (ps_if (pt_cmpR op_eq (pv 4) pe_int (nomark _)) (pss_one (ps_set (i := 6) nd rfl (Or.inl rfl) (pe_op op_add_str (pv 6) (pv 6))))
        (pss_one (ps_if (pt_cmpR op_eq (pv 4) pe_int (nomark _)) (pss_one (ps_set (i := 6) nd rfl (Or.inl rfl) (pe_slice sl_str (pv 1) po_none (po_some (pv 5)))))
          (pss_one (ps_if (pt_cmpR op_lt (pv 4) pe_int (nomark _)) (pss_one (ps_set (i := 6) nd rfl (Or.inl rfl) (pe_callO o_word r3 (by rfl) (pa_cons (pv 0) (pa_cons pe_int pa_nil))))) pss_nil)))))
      (pss_cons (ps_set (i := 7) nd rfl (Or.inl rfl) (pe_lst (pa_cons (pe_callO o_rand r2 (by rfl) (pa_cons (pv 0) (pa_cons pe_int pa_nil))) pa_nil)))
      (pss_cons (ps_for PassesOwn.never rfl (pi_range1 (by rfl) z_range (pa_cons (pv 2) pa_nil)) (pg_name (i := 8) nd rfl (Or.inl rfl))
        (pss_cons (ps_set (i := 9) nd rfl (Or.inl rfl) (pe_callO o_rand r2 (by rfl) (pa_cons (pv 0) (pa_cons pe_int pa_nil))))
        (C8.pss_cut (ps_if (PW.pt (pw_and (pt_val (pv 3)) (pw_and (pt_cmpR op_gt (pv 9) pe_int (nomark _)) (pw_and1 (pt_cmpR op_eq (pe_callO o_rand r2 (by rfl) (pa_cons (pv 0) (pa_cons pe_int pa_nil))) pe_int (nomark _))))))
            (pss_one (ps_set (i := 9) nd rfl (Or.inl rfl) (pe_op op_add (pe_callO o_rand r2 (by rfl) (pa_cons (pv 0) (pa_cons (pe_op op_pow pe_int pe_int) pa_nil))) pe_int))) pss_nil)
        (pss_one (ps_expr (pe_bm PySem.F.plainAttrs_list PySem.F.slot_list_append PySem.F.type_list_append mt_append (pv 7) (pa_cons (pe_ifExp (pt_cmpR op_eq (pe_callO o_rand r2 (by rfl) (pa_cons (pv 0) (pa_cons pe_int pa_nil))) pe_int (nomark _)) (pv 9) pe_int) pa_nil)))))))
      (pss_one (ps_ret (pe_tup (pa_cons (pv 6) (pa_cons (pe_callTy call_tuple_of (by rfl) z_tuple (by decide +kernel) (pa_cons (pv 7) pa_nil)) pa_nil)))))))))), ?_⟩
    refine ⟨_, rfl, g, n, 6, rfl, dr, by omega, by decide, by decide +kernel, fun H1 kd k0 k6 bt1 d1 => ⟨_, rfl, _, rfl, b, rfl, by omega, g, n + 20, _, rfl, d1, by omega, by omega, Int.lt_of_le_of_lt (b := 5) (by omega) (by decide +kernel), fun H2 by_ y0 y1 bt2 d2 => ⟨_, _, rfl, ?_⟩⟩⟩
    obtain ⟨y, rfl⟩ := Int.eq_ofNat_of_zero_le y0
    have hy : y ≤ (cs b).length := by omega
    have eF := cut_from b y hy
    have eT := cut_to b y hy
    have abF : AB (cutS b (some (y : Int)) none) := fun c hc => hb c (by
      rw [eF] at hc
      exact List.mem_of_mem_drop hc)
    have abT : AB (cutS b none (some (y : Int))) := fun c hc => hb c (by
      rw [eT] at hc
      exact List.mem_of_mem_take hc)
    have lF : (cutS b (some (y : Int)) none).length = (cs b).length - y := by rw [cs_len, eF, List.length_drop]
    have lT : (cutS b none (some (y : Int))).length = y := by rw [cs_len, eT, List.length_take]; omega
    refine ⟨_, rfl, _, rfl, _, rfl, _, rfl, by omega, _, rfl, _, rfl, _, rfl, _, rfl, by omega, _, _, rfl, rfl, by rw [lF, lT]; omega, ?_⟩
    have abW := ab_app abF abT
    have lW : (cs (cutS b (some (y : Int)) none ++ cutS b none (some (y : Int)))).length = (cs b).length := by
      rw [cs_app, List.length_append, ← cs_len, ← cs_len, lF, lT]
      omega
    have lW2 := cs_len (cutS b (some (y : Int)) none ++ cutS b none (some (y : Int)))
    have bt12 := bt1.trans bt2
    refine ⟨fun σ' H' => ∃ z : Str, AB z ∧ (cs z).length ≤ 10 ∧ σ' = [some (.ref g), some (.str b), some (.int m), some (.bl true), some (.int kd), some (.int (y : Int)), some (.str z), none, none, none] ∧ But H H' g ∧ Dr H' g (n + 340), ?_, ?_⟩
    · refine ⟨_, rfl, rfl, _, rfl, ite2 (fun _ => ?_) (fun _ => ?_)⟩
      · refine ⟨_, rfl, _, rfl, _, _, rfl, rfl, by omega, _, ab_app abW abW, ?_, rfl, bt12, d2.mono (by omega)⟩
        rw [cs_app, List.length_append]
        omega
      · refine ⟨_, rfl, rfl, _, rfl, ite2 (fun _ => ?_) (fun _ => ?_)⟩
        · exact ⟨_, rfl, _, rfl, _, rfl, _, rfl, by omega, _, abT, by rw [← cs_len, lT]; omega, rfl, bt12, d2.mono (by omega)⟩
        · refine ⟨_, rfl, _, _, rfl, rfl, _, rfl, ite2 (fun _ => ?_) (fun _ => ?_)⟩
          · exact ⟨_, rfl, g, n + 40, 4, rfl, d2, by omega, by decide, fun H3 z az lz bt3 d3 => ⟨z, az, by omega, rfl, bt12.trans bt3, d3.mono (by omega)⟩⟩
          · exact ⟨_, abW, by omega, rfl, bt12, d2.mono (by omega)⟩
    · rintro σ' H3 ⟨z, az, lz, rfl, bt3, d3⟩
      refine ⟨_, rfl, g, n + 340, 3, rfl, d3, by omega, by decide, by decide +kernel, fun H4 c c0 c3 bt4 d4 => ⟨(by show 1 ≤ sizeLine; omega), fun fl nfl => ?_⟩⟩
      have gfl := dr_neK d4 nfl
      have bt4 := bt3.trans bt4
      refine ⟨_, rfl, (m : Int), rfl, by omega, by omega, ?_⟩
      have eN : ((m : Int)).toNat = m := by omega
      rw [eN]
      refine for_range (lo := 0) (n := m) (fun i σ H' => But H4 H' g ∧ Dr H' g (n + 360 + 100 * i) ∧ ∃ (xs : List Int) (x8 x9 : Option L2.V), σ = [some (.ref g), some (.str b), some (.int m), some (.bl true), some (.int kd), some (.int (y : Int)), some (.str z), some (.ref fl), x8, x9] ∧ xs.length = i ∧ (∀ x ∈ xs, Sz 100 x) ∧ H' fl = some (.lst ((c :: xs).map V.int)))
        ⟨Same.but (same_new nfl), (dr_newK d4 nfl).mono (by omega), [], _, _, rfl, rfl, fun x hx => (by cases hx), upd_same⟩ ?_ ?_
      · rintro i σ H5 hi ⟨bt5, d5, xs, x8, x9, rfl, lx, sx, h5⟩
        refine ⟨_, rfl, g, n + 360 + 100 * i, 3, rfl, d5, by omega, by decide, by decide +kernel, fun H6 x x0 x3 bt6 d6 => ?_⟩
        have h6 := bt6 _ _ (Ne.symm gfl) h5
        have bt6 := bt5.trans bt6
        refine ⟨fun σ' H' => But H4 H' g ∧ Dr H' g (n + 360 + 100 * i + 60) ∧ H' fl = some (.lst ((c :: xs).map V.int)) ∧ ∃ x' : Int, Sz 100 x' ∧ σ' = [some (.ref g), some (.str b), some (.int m), some (.bl true), some (.int kd), some (.int (y : Int)), some (.str z), some (.ref fl), some (.int (0 + (i : Int))), some (.int x')], ?_, ?_⟩
        · have keep : ∀ H', But H4 H' g → Dr H' g (n + 360 + 100 * i + 60) → H' fl = some (.lst ((c :: xs).map V.int)) → (But H4 H' g ∧ Dr H' g (n + 360 + 100 * i + 60) ∧ H' fl = some (.lst ((c :: xs).map V.int)) ∧ ∃ x' : Int, Sz 100 x' ∧ ([some (.ref g), some (.str b), some (.int m), some (.bl true), some (.int kd), some (.int (y : Int)), some (.str z), some (.ref fl), some (.int (0 + (i : Int))), some (.int x)] : L2.St) = [some (.ref g), some (.str b), some (.int m), some (.bl true), some (.int kd), some (.int (y : Int)), some (.str z), some (.ref fl), some (.int (0 + (i : Int))), some (.int x')]) :=
            fun H' a b c => ⟨a, b, c, x, ⟨x0, Int.lt_of_lt_of_le x3 (by decide +kernel)⟩, rfl⟩
          refine ⟨_, rfl, true, rfl, iteT ⟨_, rfl, _, _, rfl, rfl, _, rfl, ite2 (fun _ => ?_) (fun _ => iteF (keep H6 bt6 (d6.mono (by omega)) h6))⟩⟩
          refine ⟨_, rfl, g, n + 360 + 100 * i + 20, 6, rfl, d6, by omega, by decide, by decide +kernel, fun H7 u u0 u6 bt7 d7 => ⟨rfl, _, rfl, ite2 (fun _ => ?_) (fun _ => ?_)⟩⟩
          · have h7 := bt7 _ _ (Ne.symm gfl) h6
            refine ⟨_, rfl, _, _, rfl, rfl, ⟨by decide, by decide, by decide⟩, g, n + 360 + 100 * i + 40, _, rfl, d7, by omega, (by show (0 : Int) < 10 ^ 18; decide), (by show (10 : Int) ^ 18 < 10 ^ 100; decide), fun H8 r r0 r1 bt8 d8 => ?_⟩
            refine ⟨_, _, rfl, rfl, (bt6.trans bt7).trans bt8, d8, bt8 _ _ (Ne.symm gfl) h7, r + 1, ⟨by omega, ?_⟩, rfl⟩
            have e18 : (10 : Int) ^ (18 : Int).toNat + 1 ≤ 2 ^ 100 := by decide +kernel
            have r1 : r < (10 : Int) ^ (18 : Int).toNat := r1
            omega
          · exact keep H7 (bt6.trans bt7) (d7.mono (by omega)) (bt7 _ _ (Ne.symm gfl) h6)
        · rintro σ' H7 ⟨bt7, d7, h7, x', sx', rfl⟩
          refine ⟨_, rfl, .inl ⟨rfl, _, SqL.of h7⟩, _, rfl, g, n + 360 + 100 * i + 60, 2, rfl, d7, by omega, by decide, by decide +kernel, fun H8 u u0 u2 bt8 d8 => ⟨rfl, _, rfl, ?_⟩⟩
          have h8 := bt8 _ _ (Ne.symm gfl) h7
          have fin : ∀ x : Int, Sz 100 x → But H4 (upd H8 fl (.lst ((c :: xs).map V.int ++ [.int x]))) g ∧ Dr (upd H8 fl (.lst ((c :: xs).map V.int ++ [.int x]))) g (n + 360 + 100 * (i + 1)) ∧ ∃ (xs' : List Int) (x8 x9 : Option L2.V), ([some (.ref g), some (.str b), some (.int m), some (.bl true), some (.int kd), some (.int (y : Int)), some (.str z), some (.ref fl), some (.int (0 + (i : Int))), some (.int x')] : L2.St) = [some (.ref g), some (.str b), some (.int m), some (.bl true), some (.int kd), some (.int (y : Int)), some (.str z), some (.ref fl), x8, x9] ∧ xs'.length = i + 1 ∧ (∀ x ∈ xs', Sz 100 x) ∧ (upd H8 fl (.lst ((c :: xs).map V.int ++ [.int x]))) fl = some (.lst ((c :: xs').map V.int)) := fun x hx => by
            refine ⟨fun b o nb e => ?_, dr_updK (d8.mono (by omega)) gfl, xs ++ [x], _, _, rfl, by rw [List.length_append, lx]; rfl, fun v hv => ?_, ?_⟩
            · rw [upd_ne (ne_of_none e nfl)]
              exact bt8 _ _ nb (bt7 _ _ nb e)
            · rcases List.mem_append.mp hv with h | h
              · exact sx v h
              · rw [List.mem_singleton.mp h]
                exact hx
            · rw [upd_same, List.map_cons, List.map_cons, List.map_append]
              rfl
          have ln : ((c :: xs).map V.int).length < sizeLine := by
            rw [List.length_map, List.length_cons]
            omega
          refine ite2 (fun _ => ?_) (fun _ => ?_)
          · exact ⟨_, rfl, fl, _, _, rfl, rfl, h8, ln, fin x' sx'⟩
          · exact ⟨fl, _, _, rfl, rfl, h8, ln, fin 0 ⟨Int.le_refl 0, by decide +kernel⟩⟩
      · rintro σ H5 ⟨bt5, d5, xs, x8, x9, rfl, lx, sx, h5⟩
        refine ⟨_, rfl, _, rfl, fl, _, rfl, .inl ⟨SqL.of h5, fun t nt => ⟨(by show 2 ≤ sizeLine; omega), fun u nu => ?_⟩⟩⟩
        have st := same_new (o := .tup ((c :: xs).map V.int)) nt
        have su := same_new (o := .tup [.str z, .ref t]) nu
        refine q _ _ (z, c, xs) ⟨u, t, rfl, upd_same, su _ _ upd_same⟩ ⟨az, lz, c0, by show c ≤ 2; omega, lx, sx⟩ ((bt4.trans bt5).trans (Same.but (st.trans su))) (dr_same (d5.mono (by omega)) (st.trans su))
theorem ok_lpieces (F : FnP K "_law_pieces" sLPieces f fd) (o_rand : Ok P w K mg base "_law_random" 2 ["_law_generator_here", "_law_bound"] spRand) (o_piece : Ok P w K mg base "_law_piece" 4 ["_law_generator_here", "_law_base", "_law_many", "_law_great"] spLPiece) (z_range : mg "range" = none) :
    FnOk P w K mg base CX0 5 f fd ["_law_generator_here", "_law_many", "_law_most", "_law_great"] spLPieces := by
  have nd := scLPieces.nd
  refine F.ok scLPieces (fun vs H Q E h => ?_) (fun cdv A outer s H vs Q E hr h => ?_)
  · obtain ⟨g, n, m, k, rfl, _⟩ := h
    rfl
  · obtain ⟨g, n, m, k, rfl, hk, hm, dr, hn, q⟩ := h
    have szl := sizeLine_eq
    have r4 : Room 4 (A.deeper (envOfC "_law_pieces" (defScope sLPieces) s.heap.objs.size f cdv)) := hr
    have r2 := r4.mono (by decide : 2 ≤ 4)
    refine ⟨_, PSs.nox (pss_cons (ps_set (i := 4) nd rfl (Or.inr rfl) (pe_ix ix_list (pe_lst (pa_cons pe_str (pa_cons pe_str (pa_cons pe_str (pa_cons pe_str (pa_cons pe_str pa_nil)))))) (pe_callO o_rand r2 (by rfl) (pa_cons (pv 0) (pa_cons pe_int pa_nil))) (fun _ _ => rfl)))
      (pss_one (ps_ret (pe_lc (own := [("_law_turn", 5)]) (g := gName 5) (by rfl) nd (pi_range1 (by rfl) z_range (pa_cons (pe_callO o_rand r2 (by rfl) (pa_cons (pv 0) (pa_cons (pe_op op_add (pv 2) pe_int) pa_nil))) pa_nil)) (blkOk_by (N := nLPieces) (sc := defScope sLPieces) (own := [("_law_turn", 5)]) (by decide +kernel))
        (fun _ _ _ _ _ => pg_name (i := 5) nd rfl (Or.inl rfl)) (fun _ _ _ _ _ => pts_nil)
        (fun _ _ _ _ _ => pe_callO o_piece r4 (by rfl) (pa_cons (pv 0) (pa_cons (pv 4) (pa_cons (pv 1) (pa_cons (pv 3) pa_nil))))))))), ?_⟩
    refine ⟨(by show 5 ≤ sizeLine; omega), fun l nl => ?_⟩
    have sl := same_new (o := .lst [.str "ab", .str "aab", .str "a", .str "abb", .str "aabab"]) nl
    have d0 := dr_newK (o := .lst [.str "ab", .str "aab", .str "a", .str "abb", .str "aabab"]) dr nl
    have gl := dr_neK dr nl
    refine ⟨_, rfl, g, n, 5, rfl, d0, by omega, by decide, by decide +kernel, fun H1 r r0 r5 bt1 d1 => ?_⟩
    have hl1 := bt1 _ _ (Ne.symm gl) (upd_same (H := H) (a := l) (o := .lst [.str "ab", .str "aab", .str "a", .str "abb", .str "aabab"]))
    obtain ⟨bs, eb, ab, l1, l5⟩ : ∃ bs : Str, atI [L2.V.str "ab", .str "aab", .str "a", .str "abb", .str "aabab"] r = some (.str bs) ∧ AB bs ∧ 1 ≤ (cs bs).length ∧ (cs bs).length ≤ 5 := by
      have ok : ∀ z : Str, ((cs z).all fun c => decide (c = 97) || decide (c = 98)) = true → AB z := fun z h c hc => by
        have := List.all_eq_true.mp h c hc
        simpa using this
      have e : r = 0 ∨ r = 1 ∨ r = 2 ∨ r = 3 ∨ r = 4 := by omega
      rcases e with rfl | rfl | rfl | rfl | rfl
      · exact ⟨"ab", rfl, ok _ (by decide +kernel), by decide +kernel, by decide +kernel⟩
      · exact ⟨"aab", rfl, ok _ (by decide +kernel), by decide +kernel, by decide +kernel⟩
      · exact ⟨"a", rfl, ok _ (by decide +kernel), by decide +kernel, by decide +kernel⟩
      · exact ⟨"abb", rfl, ok _ (by decide +kernel), by decide +kernel, by decide +kernel⟩
      · exact ⟨"aabab", rfl, ok _ (by decide +kernel), by decide +kernel, by decide +kernel⟩
    refine ⟨l, _, r, _, rfl, rfl, SqL.of hl1, eb, ?_⟩
    have bt0 : But H H1 g := (Same.but sl).trans bt1
    refine ⟨_, rfl, _, rfl, _, _, rfl, rfl, g, n + 20, (k : Int) + 1, rfl, d1, by omega, by omega, Int.lt_of_le_of_lt (b := 6) (by omega) (by decide +kernel), fun H2 t t0 tk bt2 d2 => ⟨t, rfl, by omega, by omega, fun D nD => ?_⟩⟩
    have gD := dr_neK d2 nD
    have nD0 : H D = none := by
      cases e : H D with
      | none => rfl
      | some o =>
        have := bt2 _ _ (Ne.symm gD) (bt0 _ _ (Ne.symm gD) e)
        rw [nD] at this
        cases this
    refine lc_range (lo := 0) (n := t.toNat) (fun i H' => But H2 H' g ∧ Dr H' g (n + 40 + 1000 * i) ∧ ∃ (xs : List L2.V) (ps : List Pc), H' D = some (.lst xs) ∧ Pcs H' xs ps ∧ ps.length = i ∧ ∀ p ∈ ps, Pk m p) ⟨Same.but (same_new nD), dr_newK (d2.mono (by omega)) nD, [], [], upd_same, .nil, rfl, fun p hp => (by cases hp)⟩ ?_ ?_
    · rintro i H3 hi ⟨bt3, d3, xs, ps, hD, hP, lp, hk⟩
      have lx := hP.len
      refine ⟨rfl, ?_⟩
      refine ⟨_, rfl, _, rfl, _, rfl, _, rfl, g, n + 40 + 1000 * i, m, bs, rfl, ab, l1, l5, hm, d3, by omega, fun H4 v p ip pk bt4 d4 => ?_⟩
      have hD4 := bt4 _ _ (Ne.symm gD) hD
      refine ⟨xs, hD4, small1000 (by omega), fun b o nb e => ?_, dr_updK (d4.mono (by omega)) gD, xs ++ [v], ps ++ [p], upd_same, Pcs.updL hD4 (Pcs.snoc ip (hP.but d3 bt4)), by rw [List.length_append, lp]; rfl, fun p' hp => ?_⟩
      · rw [upd_ne (ne_of_none e nD)]
        exact bt4 _ _ nb (bt3 _ _ nb e)
      · rcases List.mem_append.mp hp with h | h
        · exact hk p' h
        · rw [List.mem_singleton.mp h]
          exact pk
    · rintro H3 ⟨bt3, d3, xs, ps, hD, hP, lp, hk⟩
      exact q H3 D ps nD0 ⟨xs, hD, hP⟩ hk (by omega) ((bt0.trans bt2).trans bt3) (d3.mono (by omega))
end
end K4
set_option Elab.async false
set_option linter.all false
set_option maxRecDepth 100000
set_option maxHeartbeats 4000000
namespace K4
open PySem PySem.Spec PyProof.Rows L2 XV NP
/-! ### the forms of the lengths and of the letters -/
abbrev sFG : Stmt := top 62
abbrev nFG : List Str := ["_law_many", "_law_pieces_here", "_law_text", "_law_due", "_law_letter_here", "_law_at", "_law_piece_here"]
theorem scFG : FnScope nFG ["_law_many", "_law_pieces_here", "_law_text"] (defScope sFG) := ⟨rfl, rfl, rfl, by decide +kernel, rfl, by decide +kernel, by decide +kernel⟩
abbrev scO1 : Scope := { kind := .function, names := [(Str.ofString ".0", .local), (Str.ofString "_law_at", .cell), (Str.ofString "sum", .globalImplicit), (Str.ofString "_law_pieces_here", .cell)], isGenerator := false, isCoroutine := false }
abbrev scI1 : Scope := { kind := .function, names := [(Str.ofString ".0", .local), (Str.ofString "_law_piece_here", .local), (Str.ofString "len", .globalImplicit), (Str.ofString "_law_at", .free)], isGenerator := false, isCoroutine := false }
theorem blk_f1 : BlkOk nFG scO1 scI1 [("_law_piece_here", 6)] := blkOk_by (by decide +kernel)
abbrev scO2 : Scope := { kind := .function, names := [(Str.ofString ".0", .local), (Str.ofString "_law_at", .cell), (Str.ofString "sum", .globalImplicit), (Str.ofString "_law_letter_here", .cell), (Str.ofString "_law_pieces_here", .cell)], isGenerator := false, isCoroutine := false }
abbrev scI2 : Scope := { kind := .function, names := [(Str.ofString ".0", .local), (Str.ofString "_law_piece_here", .local), (Str.ofString "_law_at", .free), (Str.ofString "_law_letter_here", .free)], isGenerator := false, isCoroutine := false }
theorem blk_f2 : BlkOk nFG scO2 scI2 [("_law_piece_here", 6)] := blkOk_by (by decide +kernel)
theorem dp_ints {K : PySem.W.Frag} {H : Hp} : ∀ l : List Int, DpAll K H (l.map V.int) (l.map PyData.int)
  | [] => .nil
  | x :: l => .cons (.int x) (dp_ints l)
theorem showAll_ints : ∀ l : List Int, (∀ x ∈ l, Sz 500 x) → PyData.showableAll (l.map PyData.int) = true
  | [], _ => by simp [PyData.showableAll]
  | x :: l, h => by
    have e := (h x List.mem_cons_self).log
    have r := showAll_ints l fun y hy => h y (List.mem_cons_of_mem _ hy)
    rw [List.map_cons]
    simp only [PyData.showableAll, PyData.showable, r, Bool.and_true]
    exact decide_eq_true (by omega)
theorem noDict_ints : ∀ l : List Int, PyData.hasDictAll (l.map PyData.int) = false
  | [] => by simp [PyData.hasDictAll]
  | x :: l => by simp [PyData.hasDictAll, PyData.hasDict, noDict_ints l]
theorem depth_ints : ∀ l : List Int, PyData.depthAll (l.map PyData.int) = 0
  | [] => by simp [PyData.depthAll]
  | x :: l => by simp [PyData.depthAll, PyData.depth, depth_ints l]
theorem shown_len : ∀ l : List Int, (∀ x ∈ l, Sz 500 x) → ((PyData.shownAll (l.map PyData.int)).map (·.length)).sum ≤ 600 * l.length ∧ (PyData.shownAll (l.map PyData.int)).length = l.length
  | [], _ => by simp [PyData.shownAll]
  | x :: l, h => by
    have e := (h x List.mem_cons_self).log
    obtain ⟨r1, r2⟩ := shown_len l fun y hy => h y (List.mem_cons_of_mem _ hy)
    have t := int_text_length_le (a := x) (k := 501) (by decide) (by omega)
    have es : (PyData.shown (.int x)).length ≤ 502 := by
      simp only [PyData.shown]
      show (Str.ofString (toString x)).length ≤ 502
      rw [PySem.ofString_length]
      exact t
    rw [List.map_cons]
    simp only [PyData.shownAll, List.map_cons, List.sum_cons, List.length_cons]
    omega
theorem repr_ok {l : List Int} (h : ∀ x ∈ l, Sz 500 x) (n : l.length ≤ 10) : (PyData.tuple (l.map PyData.int)).showable = true ∧ (PyData.tuple (l.map PyData.int)).hasDict = false ∧ (PyData.tuple (l.map PyData.int)).depth ≤ 60 ∧ (PyData.tuple (l.map PyData.int)).shown.length ≤ sizeLine := by
  have szl := sizeLine_eq
  refine ⟨?_, ?_, ?_, ?_⟩
  · simp only [PyData.showable]
    exact showAll_ints l h
  · simp only [PyData.hasDict]
    exact noDict_ints l
  · simp only [PyData.depth, depth_ints]
    omega
  · simp only [PyData.shown]
    obtain ⟨r1, r2⟩ := shown_len l h
    have := tupleText_len_le (PyData.shownAll (l.map PyData.int))
    omega
theorem Pk.fj {m : Nat} {p : Pc} (h : Pk m p) (j : Nat) : Sz 100 (fj p j) := by
  cases j with
  | zero => exact ⟨h.c0, Int.lt_of_le_of_lt h.c2 (by decide +kernel)⟩
  | succ j =>
    show Sz 100 (p.2.2.getD j 0)
    rw [List.getD_eq_getElem?_getD]
    cases e : p.2.2[j]? with
    | none => exact Sz.zero _
    | some x => exact h.x x (List.mem_of_getElem? e)
theorem Pk.cn {m : Nat} {p : Pc} (h : Pk m p) (k : Nat → Bool) : Sz 10 (NP.cn k p.1) := by
  have a := List.countP_le_length (p := k) (l := cs p.1)
  have b := h.l
  refine ⟨by unfold NP.cn; omega, ?_⟩
  unfold NP.cn
  exact Int.lt_of_le_of_lt (b := 10) (by omega) (by decide +kernel)
theorem sz_lin {m : Nat} (k : Nat → Bool) (j : Nat) : ∀ {ps : List Pc}, (∀ p ∈ ps, Pk m p) → Sz (120 + ps.length) (lin k j ps)
  | [], _ => Sz.zero _
  | p :: ps, h => by
    have a := Sz.le (((h p List.mem_cons_self).cn k).mul ((h p List.mem_cons_self).fj j)) (show 10 + 100 ≤ 120 + ps.length by omega)
    have b := sz_lin k j fun q hq => h q (List.mem_cons_of_mem _ hq)
    have e : lin k j (p :: ps) = NP.cn k p.1 * NP.fj p j + lin k j ps := by
      unfold lin
      rw [List.map_cons, List.sum_cons]
    rw [e]
    exact Sz.add a b
theorem ni_lin {ps done : List Pc} (ni : NI ps done []) (k : Nat → Bool) (j : Nat) : lin k j done = lin k j ps := by
  rw [ni.n]
  split <;> simp
theorem fm_at {m : Nat} {p : Pc} (h : Pk m p) {j : Nat} (hj : j < m + 1) : atI ((fm p).map V.int) (j : Int) = some (.int (fj p j)) := by
  have e : (fm p).getD j 0 = fj p j := by cases j <;> rfl
  have := at_ints (l := fm p) (j := j) (by show j < p.2.2.length + 1; rw [h.m]; exact hj)
  rw [e] at this
  exact this
theorem lin_take (k : Nat → Bool) (j i : Nat) (ps : List Pc) {p : Pc} (e : ps[i]? = some p) : ((ps.take (i + 1)).map fun p => NP.cn k p.1 * fj p j) = ((ps.take i).map fun p => NP.cn k p.1 * fj p j) ++ [NP.cn k p.1 * fj p j] := by
  rw [List.take_add_one, e, List.map_append]
  rfl
theorem abz_let (i c : Nat) (h : ("abz" : Str).cps[i]? = some c) : letV (.str ⟨#[c]⟩) = true := by
  have e : (cs ("abz" : Str))[i]? = some c := by
    rw [Array.getElem?_toList]
    exact h
  have hm := List.mem_of_getElem? e
  rw [show cs ("abz" : Str) = [97, 98, 122] by decide +kernel] at hm
  have : c = 97 ∨ c = 98 ∨ c = 122 := by simpa using hm
  rcases this with rfl | rfl | rfl <;> decide +kernel
def spFG (C : Addr) : Sp := fun vs H Q _ => ∃ (m : Nat) (pl x : Addr) (ps done : List Pc), vs = [.int m, .ref pl, .ref x] ∧ m ≤ 3 ∧ PL H pl ps ∧ (∀ p ∈ ps, Pk m p) ∧ ps.length ≤ 5 ∧ Tx C H x m done ∧ NI ps done [] ∧ Dn m 400 done ∧ done.length ≤ 90 ∧
  ∀ H', Same H H' → Q (.bl true) H'
section
variable {P : Program} {w : World} {K : PySem.W.Frag} {mg : Str → Option Value} {base : Heap} {f : Addr} {fd : FuncData} {C : Addr}
theorem ok_formsGood (F : FnP K "_law_forms_good" sFG f fd) (o_len : Ok P w K mg base "length" 4 ["text"] (cm (spLength K C))) (k_len : OkK P w K mg base "length" 4 ["text"] (cm (spLength K C))) (o_lets : Ok P w K mg base "letters" 4 ["text", "letter"] (cm (spLettersT K C))) (k_lets : OkK P w K mg base "letters" 4 ["text", "letter"] (cm (spLettersT K C)))
    (z_tuple : mg "tuple" = none) (z_sum : mg "sum" = none) (z_range : mg "range" = none) (z_len : mg "len" = none) (z_repr : mg "repr" = none) : FnG P w K mg base CX0 5 f fd ["_law_many", "_law_pieces_here", "_law_text"] (spFG C) := by
  have nd := scFG.nd
  refine okG F scFG (fun vs H Q E h => ?_) (fun cdv A outer s H vs Q E ag hr h => ?_)
  · obtain ⟨m, pl, x, ps, done, rfl, _⟩ := h
    rfl
  · obtain ⟨m, pl, x, ps, done, rfl, hm, hL, hk, l5, hx, ni, dn, l90, q⟩ := h
    obtain ⟨xs, hp, hP⟩ := id hL
    have lx := hP.len
    have hu := hr.units
    have szl := sizeLine_eq
    have r4 : Room 4 (A.deeper (envOfC "_law_forms_good" (defScope sFG) s.heap.objs.size f cdv)) := hr
    refine ⟨_, PSs.nox (pss_cons (ps_set (i := 3) nd rfl (Or.inl rfl) (pe_callTy call_tuple_of (by rfl) z_tuple (by decide +kernel) (pa_cons (pe_lc (own := [("_law_at", 5)]) (g := gName 5) (by rfl) nd (pi_range1 (by rfl) z_range (pa_cons (pe_op op_add (pv 0) pe_int) pa_nil)) (blkOk_by (N := nFG) (sc := defScope sFG) (own := [("_law_at", 5)]) (by decide +kernel)) (fun _ _ _ _ _ => pg_name (i := 5) nd rfl (Or.inr rfl)) (fun _ _ _ _ _ => pts_nil)
        (fun _ _ _ _ _ => pe_callB (cr_sumK (K := K) rfl rfl) (by rfl) z_sum (by decide +kernel) (pa_cons (pe_lc (own := [("_law_piece_here", 6)]) (g := gName 6) (by rfl) nd (pi_listK (K := K) rfl (pv 1)) blk_f1 (fun _ _ _ _ _ => pg_name (i := 6) nd rfl (Or.inl rfl)) (fun _ _ _ _ _ => pts_nil)
          (fun _ _ _ _ _ => pe_op op_mulW (pe_callB call_len_str (by rfl) z_len boot_len (pa_cons (pe_ix (ix_tupK (K := K) rfl) (pv 6) pe_int (fun _ _ => rfl)) pa_nil)) (pe_ix (ix_tupK (K := K) rfl) (pe_ix (ix_tupK (K := K) rfl) (pv 6) pe_int (fun _ _ => rfl)) (pv 5) (fun _ _ => rfl)))) pa_nil))) pa_nil)))
      (pss_cons (ps_if (PW.pt (pw_or (pt_cmpR op_ne (pe_callB (call_reprD ag hu) (by rfl) z_repr (by decide +kernel) (pa_cons (pe_callO o_len r4 (by rfl) (pa_cons (pv 2) pa_nil)) pa_nil)) (pe_callB (call_reprD ag hu) (by rfl) z_repr (by decide +kernel) (pa_cons (pv 3) pa_nil)) (nomark _))
          (pw_or1 (pt_cmpR op_ne (pe_callB (call_reprD ag hu) (by rfl) z_repr (by decide +kernel) (pa_cons (pe_callK k_len r4 (by rfl) (pk_cons (pv 2) pk_nil)) pa_nil)) (pe_callB (call_reprD ag hu) (by rfl) z_repr (by decide +kernel) (pa_cons (pv 3) pa_nil)) (nomark _))))) (pss_one (ps_ret pe_bl)) pss_nil)
      (pss_cons (ps_for PassesOwn.never rfl (pi_str pe_str) (pg_name (i := 4) nd rfl (Or.inr rfl))
        (pss_cons (ps_set (i := 3) nd rfl (Or.inl rfl) (pe_callTy call_tuple_of (by rfl) z_tuple (by decide +kernel) (pa_cons (pe_lc (own := [("_law_at", 5)]) (g := gName 5) (by rfl) nd (pi_range1 (by rfl) z_range (pa_cons (pe_op op_add (pv 0) pe_int) pa_nil)) (blkOk_by (N := nFG) (sc := defScope sFG) (own := [("_law_at", 5)]) (by decide +kernel)) (fun _ _ _ _ _ => pg_name (i := 5) nd rfl (Or.inr rfl)) (fun _ _ _ _ _ => pts_nil)
          (fun _ _ _ _ _ => pe_callB (cr_sumK (K := K) rfl rfl) (by rfl) z_sum (by decide +kernel) (pa_cons (pe_lc (own := [("_law_piece_here", 6)]) (g := gName 6) (by rfl) nd (pi_listK (K := K) rfl (pv 1)) blk_f2 (fun _ _ _ _ _ => pg_name (i := 6) nd rfl (Or.inl rfl)) (fun _ _ _ _ _ => pts_nil)
            (fun _ _ _ _ _ => pe_op op_mulW (pe_m1 PySem.F.slot_str_count PySem.F.type_str_count mt_count (pe_ix (ix_tupK (K := K) rfl) (pv 6) pe_int (fun _ _ => rfl)) (pv 4)) (pe_ix (ix_tupK (K := K) rfl) (pe_ix (ix_tupK (K := K) rfl) (pv 6) pe_int (fun _ _ => rfl)) (pv 5) (fun _ _ => rfl)))) pa_nil))) pa_nil)))
        (pss_one (ps_if (PW.pt (pw_or (pt_cmpR op_ne (pe_callB (call_reprD ag hu) (by rfl) z_repr (by decide +kernel) (pa_cons (pe_callO o_lets r4 (by rfl) (pa_cons (pv 2) (pa_cons (pv 4) pa_nil))) pa_nil)) (pe_callB (call_reprD ag hu) (by rfl) z_repr (by decide +kernel) (pa_cons (pv 3) pa_nil)) (nomark _))
          (pw_or1 (pt_cmpR op_ne (pe_callB (call_reprD ag hu) (by rfl) z_repr (by decide +kernel) (pa_cons (pe_callK k_lets r4 (by rfl) (pk_cons (pv 4) (pk_cons (pv 2) pk_nil))) pa_nil)) (pe_callB (call_reprD ag hu) (by rfl) z_repr (by decide +kernel) (pa_cons (pv 3) pa_nil)) (nomark _))))) (pss_one (ps_ret pe_bl)) pss_nil))))
      (pss_one (ps_ret pe_bl))))), ?_⟩
    have eN : ((m : Int) + 1).toNat = m + 1 := by omega
    have szv : ∀ k : Nat → Bool, ∀ v ∈ (List.range (m + 1)).map (fun j => lin k j ps), Sz 500 v := fun k v hv => by
      obtain ⟨j, _, rfl⟩ := List.mem_map.mp hv
      exact Sz.le (sz_lin k j hk) (by omega)
    have ln : ∀ k : Nat → Bool, ((List.range (m + 1)).map (fun j => lin k j ps)).length ≤ 10 := fun k => by
      rw [List.length_map, List.length_range]
      omega
    have eD : ∀ k : Nat → Bool, ((List.range (m + 1)).map fun j => lin k j done) = (List.range (m + 1)).map fun j => lin k j ps := fun k => congrArg (fun f => (List.range (m + 1)).map f) (funext fun j => ni_lin ni k j)
    have same_ : ∀ z : Str, V.bl (!decide (V.str z = V.str z)) = V.bl false := fun z => by
      rw [decide_eq_true rfl]
      rfl
    -- due: the lengths
    refine ⟨_, rfl, _, _, rfl, rfl, (m : Int) + 1, rfl, by omega, by omega, fun D nD => ?_⟩
    rw [eN]
    refine lc_range (lo := 0) (n := m + 1) (fun k H' => Same H H' ∧ H' D = some (.lst (((List.range k).map fun j => lin tt j ps).map V.int))) ⟨same_new nD, upd_same⟩ ?_ ?_
    · rintro j H' hj ⟨sm, hD⟩
      rw [Int.zero_add]
      refine ⟨rfl, ?_⟩
      refine ⟨_, rfl, pl, rfl, ⟨_, SqL.of (sm _ _ hp)⟩, fun D2 nD2 => lc_list (K := K) (a := pl) (xs := xs) (fun k H2 => Same H' H2 ∧ H2 D2 = some (.lst (((ps.take k).map fun p => NP.cn tt p.1 * fj p j).map V.int))) ⟨same_new nD2, upd_same⟩ (fun k H2 _ p => SqL.of (p.1 _ _ (sm _ _ hp))) ?_ ?_⟩
      · rintro k y H2 hk2 ⟨s2, hD2⟩
        obtain ⟨p, ep, ⟨t, f1, rfl, ht, hf⟩⟩ := ((hP.keep sm).keep s2).get hk2
        have pk := hk p (List.mem_of_getElem? ep)
        have lk : k < ps.length := (List.getElem?_eq_some_iff.mp ep).1
        have lz := cs_len p.1
        have l10 := pk.l
        have e0 : ((p.1.length : Nat) : Int) = NP.cn tt p.1 := by rw [cn_tt, lz]
        refine ⟨rfl, ?_⟩
        refine ⟨_, rfl, t, _, _, _, rfl, rfl, SqT.of ht, (show atI [V.str p.1, V.ref f1] ((0 : Nat) : Int) = _ from atI_nat rfl), p.1, rfl, by omega, _, rfl, t, _, _, _, rfl, rfl, SqT.of ht, (show atI [V.str p.1, V.ref f1] ((1 : Nat) : Int) = _ from atI_nat rfl), _, rfl, f1, _, _, _, rfl, rfl, SqT.of hf, fm_at pk hj, _, _, rfl, rfl, (by rw [e0]; exact (pk.cn tt).mulW (pk.fj j) (by decide)), _, hD2, ?_, fun b o e => ?_, ?_⟩
        · rw [List.length_map, List.length_map]
          exact small1000 (Nat.le_trans (List.length_take_le _ _) (by omega))
        · rw [upd_ne (ne_of_none (H := H') e nD2)]
          exact s2 _ _ e
        · rw [upd_same, lin_take tt j k ps ep, List.map_append, ← e0]
          rfl
      · rintro H2 ⟨s2, hD2⟩
        rw [lx, List.take_length] at hD2
        refine ⟨D2, _, rfl, SqL.of hD2, _, s2 _ _ hD, ?_, fun b o e => ?_, ?_⟩
        · rw [List.length_map, List.length_map, List.length_range]
          exact small1000 (by omega)
        · rw [upd_ne (ne_of_none (H := H) e nD)]
          exact s2 _ _ (sm _ _ e)
        · rw [upd_same, List.range_succ, List.map_append, List.map_append]
          rfl
    rintro H1 ⟨s1, hD1⟩
    refine ⟨D, _, rfl, .inl ⟨SqL.of hD1, fun l nl => ?_⟩⟩
    have s2 := s1.trans (same_new (o := .tup (((List.range (m + 1)).map fun j => lin tt j ps).map V.int)) nl)
    have hl : (upd H1 l (.tup (((List.range (m + 1)).map fun j => lin tt j ps).map V.int))) l = some (.tup (((List.range (m + 1)).map fun j => lin tt j ps).map V.int)) := upd_same
    generalize upd H1 l (.tup (((List.range (m + 1)).map fun j => lin tt j ps).map V.int)) = H2 at *
    obtain ⟨o1, o2, o3, o4⟩ := repr_ok (szv tt) (ln tt)
    refine ⟨_, rfl, .ref x, rfl, .inr ⟨x, m, done, rfl, hx.keep s2, hm, dn, l90, fun H3 r s3 hr3 => ?_⟩⟩
    rw [eD] at hr3
    refine ⟨.ref r, _, rfl, .tup (SqT.of hr3) (dp_ints _), o1, o2, o3, o4, _, rfl, .ref l, _, rfl, .tup (SqT.of (s3 _ _ hl)) (dp_ints _), o1, o2, o3, o4, rfl, false, same_ _, iteF ?_⟩
    refine ⟨_, rfl, rfl, .ref x, rfl, .inr ⟨x, m, done, rfl, (hx.keep s2).keep s3, hm, dn, l90, fun H4 r4' s4 hr4 => ?_⟩⟩
    rw [eD] at hr4
    refine ⟨.ref r4', _, rfl, .tup (SqT.of hr4) (dp_ints _), o1, o2, o3, o4, _, rfl, .ref l, _, rfl, .tup (SqT.of (s4 _ _ (s3 _ _ hl))) (dp_ints _), o1, o2, o3, o4, rfl, false, same_ _, iteF ?_⟩
    have s5 := (s2.trans s3).trans s4
    clear hr3 hr4 hl hD1
    -- letter by letter
    refine ⟨_, rfl, for_it walk_str (fun i σ H' => Same H H' ∧ ∃ x3 x4 : Option V, σ = [some (.int m), some (.ref pl), some (.ref x), x3, x4, none, none]) ⟨s5, _, _, rfl⟩ (fun _ _ _ _ _ => trivial) ?_ ?_⟩
    · rintro i y σ H5 H5' hi ⟨sm5, x3, x4, rfl⟩ ⟨rfl, c, hc, rfl⟩
      have lc := abz_let i c hc
      refine ⟨_, rfl, _, _, rfl, rfl, (m : Int) + 1, rfl, by omega, by omega, fun D nD => ?_⟩
      rw [eN]
      refine lc_range (lo := 0) (n := m + 1) (fun k H' => Same H5' H' ∧ H' D = some (.lst (((List.range k).map fun j => lin (fun x => decide (x = c)) j ps).map V.int))) ⟨same_new nD, upd_same⟩ ?_ ?_
      · rintro j H' hj ⟨sm, hD⟩
        rw [Int.zero_add]
        refine ⟨rfl, ?_⟩
        refine ⟨_, rfl, pl, rfl, ⟨_, SqL.of (sm _ _ (sm5 _ _ hp))⟩, fun D2 nD2 => lc_list (K := K) (a := pl) (xs := xs) (fun k H2 => Same H' H2 ∧ H2 D2 = some (.lst (((ps.take k).map fun p => NP.cn (fun x => decide (x = c)) p.1 * fj p j).map V.int))) ⟨same_new nD2, upd_same⟩ (fun k H2 _ p => SqL.of (p.1 _ _ (sm _ _ (sm5 _ _ hp)))) ?_ ?_⟩
        · rintro k y H2 hk2 ⟨s2, hD2⟩
          obtain ⟨p, ep, ⟨t, f1, rfl, ht, hf⟩⟩ := (((hP.keep sm5).keep sm).keep s2).get hk2
          have pk := hk p (List.mem_of_getElem? ep)
          have lk : k < ps.length := (List.getElem?_eq_some_iff.mp ep).1
          refine ⟨rfl, ?_⟩
          refine ⟨_, rfl, t, _, _, _, rfl, rfl, SqT.of ht, (show atI [V.str p.1, V.ref f1] ((0 : Nat) : Int) = _ from atI_nat rfl), ⟨_, rfl⟩, _, rfl, p.1, _, rfl, rfl, _, rfl, t, _, _, _, rfl, rfl, SqT.of ht, (show atI [V.str p.1, V.ref f1] ((1 : Nat) : Int) = _ from atI_nat rfl), _, rfl, f1, _, _, _, rfl, rfl, SqT.of hf, fm_at pk hj, _, _, rfl, rfl, (by rw [count_one]; exact (pk.cn _).mulW (pk.fj j) (by decide)), _, hD2, ?_, fun b o e => ?_, ?_⟩
          · rw [List.length_map, List.length_map]
            exact small1000 (Nat.le_trans (List.length_take_le _ _) (by omega))
          · rw [upd_ne (ne_of_none (H := H') e nD2)]
            exact s2 _ _ e
          · rw [upd_same, lin_take _ j k ps ep, List.map_append, ← count_one]
            rfl
        · rintro H2 ⟨s2, hD2⟩
          rw [lx, List.take_length] at hD2
          refine ⟨D2, _, rfl, SqL.of hD2, _, s2 _ _ hD, ?_, fun b o e => ?_, ?_⟩
          · rw [List.length_map, List.length_map, List.length_range]
            exact small1000 (by omega)
          · rw [upd_ne (ne_of_none (H := H5') e nD)]
            exact s2 _ _ (sm _ _ e)
          · rw [upd_same, List.range_succ, List.map_append, List.map_append]
            rfl
      rintro H1 ⟨s1, hD1⟩
      refine ⟨D, _, rfl, .inl ⟨SqL.of hD1, fun l nl => ?_⟩⟩
      have s2 := (sm5.trans s1).trans (same_new (o := .tup (((List.range (m + 1)).map fun j => lin (fun x => decide (x = c)) j ps).map V.int)) nl)
      have hl : (upd H1 l (.tup (((List.range (m + 1)).map fun j => lin (fun x => decide (x = c)) j ps).map V.int))) l = some (.tup (((List.range (m + 1)).map fun j => lin (fun x => decide (x = c)) j ps).map V.int)) := upd_same
      generalize upd H1 l (.tup (((List.range (m + 1)).map fun j => lin (fun x => decide (x = c)) j ps).map V.int)) = H2 at *
      obtain ⟨o1, o2, o3, o4⟩ := repr_ok (szv fun x => decide (x = c)) (ln _)
      have l1 : ∀ z : Str, V.str ⟨#[c]⟩ = V.str z → z.length ≤ 1000 := fun z e => by
        have := V.str.inj e
        subst this
        show 1 ≤ 1000
        decide
      refine ⟨_, rfl, _, rfl, .ref x, _, rfl, .inr ⟨x, m, done, rfl, hx.keep s2, .str _, l1, .inr ⟨c, lc, rfl, hm, dn, l90, fun H3 r s3 hr3 => ?_⟩⟩⟩
      rw [eD] at hr3
      refine ⟨.ref r, _, rfl, .tup (SqT.of hr3) (dp_ints _), o1, o2, o3, o4, _, rfl, .ref l, _, rfl, .tup (SqT.of (s3 _ _ hl)) (dp_ints _), o1, o2, o3, o4, rfl, false, same_ _, iteF ?_⟩
      refine ⟨_, rfl, _, rfl, rfl, .ref x, _, rfl, .inr ⟨x, m, done, rfl, (hx.keep s2).keep s3, .str _, l1, .inr ⟨c, lc, rfl, hm, dn, l90, fun H4 r4' s4 hr4 => ?_⟩⟩⟩
      rw [eD] at hr4
      refine ⟨.ref r4', _, rfl, .tup (SqT.of hr4) (dp_ints _), o1, o2, o3, o4, _, rfl, .ref l, _, rfl, .tup (SqT.of (s4 _ _ (s3 _ _ hl))) (dp_ints _), o1, o2, o3, o4, rfl, false, same_ _, iteF ?_⟩
      exact ⟨(s2.trans s3).trans s4, _, _, rfl⟩
    · rintro σ H5 ⟨sm5, x3, x4, rfl⟩
      exact q H5 sm5
end
end K4
set_option Elab.async false
set_option linter.all false
set_option maxRecDepth 100000
set_option maxHeartbeats 4000000
namespace K4
open PySem PySem.Spec PyProof.Rows L2 XV NP
/-! ### the law's pieces, their text, a point -/
theorem pcs_no_int {H : Hp} {a b c : Int} {P : List Pc} (h : Pcs H [.int a, .int b, .int c] P) : False := by
  cases h with
  | cons i _ =>
    obtain ⟨_, _, e, _⟩ := i
    cases e
theorem PL.ne {H : Hp} {g l : Addr} {n : Nat} {ps : List Pc} (h : PL H l ps) (d : Dr H g n) : l ≠ g := fun e => by
  obtain ⟨xs, hl, hP⟩ := h
  obtain ⟨a, b, c, hg, _⟩ := d
  rw [e, hg] at hl
  cases hl
  exact pcs_no_int hP
theorem PL.but {H H' : Hp} {g l : Addr} {n : Nat} {ps : List Pc} (h : PL H l ps) (d : Dr H g n) (b : But H H' g) : PL H' l ps := by
  have ne := h.ne d
  obtain ⟨xs, hl, hP⟩ := h
  exact ⟨xs, b _ _ ne hl, hP.but d b⟩
theorem Tx.but {C : Addr} {H H' : Hp} {g x : Addr} {n m : Nat} {done : List Pc} (h : Tx C H x m done) (d : Dr H g n) (b : But H H' g) : Tx C H' x m done := by
  obtain ⟨dx, l, e, r⟩ := h
  refine ⟨dx, l, b _ _ (fun z => ?_) e, r.but d b⟩
  obtain ⟨_, _, _, hg, _⟩ := d
  rw [z, hg] at e
  cases e
structure WG (C : Addr) (H : Hp) (pl x bp : Addr) (m : Nat) (ps done : List Pc) (ys : List Int) : Prop where
  hL : PL H pl ps
  hk : ∀ p ∈ ps, Pk m p
  l5 : ps.length ≤ 5
  hx : Tx C H x m done
  ni : NI ps done []
  dn : Dn m 400 done
  l90 : done.length ≤ 90
  m3 : m ≤ 3
  hb : H bp = some (.lst (ys.map L2.V.int))
  ly : ys.length = m
  sy : ∀ y ∈ ys, Sz 400 y
theorem WG.keep {C : Addr} {H H' : Hp} (s : Same H H') {pl x bp : Addr} {m : Nat} {ps done : List Pc} {ys : List Int} (h : WG C H pl x bp m ps done ys) : WG C H' pl x bp m ps done ys :=
  ⟨h.hL.keep s, h.hk, h.l5, h.hx.keep s, h.ni, h.dn, h.l90, h.m3, s _ _ h.hb, h.ly, h.sy⟩
theorem WG.but {C : Addr} {H H' : Hp} {g : Addr} {n : Nat} {pl x bp : Addr} {m : Nat} {ps done : List Pc} {ys : List Int} (h : WG C H pl x bp m ps done ys) (d : Dr H g n) (b : But H H' g) (ne : bp ≠ g) : WG C H' pl x bp m ps done ys :=
  ⟨h.hL.but d b, h.hk, h.l5, h.hx.but d b, h.ni, h.dn, h.l90, h.m3, b _ _ ne h.hb, h.ly, h.sy⟩
section
variable {C : Addr} {H : Hp} {pl x bp : Addr} {m : Nat} {ps done : List Pc} {ys : List Int}
theorem WG.nn (h : WG C H pl x bp m ps done ys) : ∀ y ∈ ys, 0 ≤ y := fun y hy => (h.sy y hy).1
theorem WG.whole (h : WG C H pl x bp m ps done ys) : lenR (ps.map (rn ys)) = (((NP.V ys ps).length : Nat) : Int) := lenR_V (fun p hp => (h.hk p hp).pz) h.nn
theorem WG.vv (h : WG C H pl x bp m ps done ys) : NP.V ys ps = NP.V ys done := by
  have := h.ni.v ys h.nn
  rw [List.append_nil] at this
  exact this
theorem WG.wholeD (h : WG C H pl x bp m ps done ys) : lenR (done.map (rn ys)) = (((NP.V ys ps).length : Nat) : Int) := by
  rw [h.vv]
  exact lenR_V h.dn.z h.nn
theorem WG.szt (h : WG C H pl x bp m ps done ys) {p : Pc} (hp : p ∈ ps) : Sz 900 (tms p ys) := by
  have pz := (h.hk p hp).pz
  have m3 := h.m3
  have d : Sz 800 (K4.dot p.2.2 ys) := by
    have := sz_dotK (k := 200) (l := 400) p.2.2 ys pz.x h.sy
    rw [pz.l] at this
    exact Sz.le this (by omega)
  exact Sz.le (Sz.add (Sz.le pz.c (by decide : 200 ≤ 800)) d) (by decide)
theorem WG.gd (h : WG C H pl x bp m ps done ys) : Gd H (.ref bp) bp ys m done := ⟨rfl, h.hb, h.ly, h.m3, h.sy, h.dn, h.l90⟩
theorem WG.isP (h : WG C H pl x bp m ps done ys) : IsP H m (.ref bp) true := by
  have m3 := h.m3
  have ly := h.ly
  refine .inl ⟨bp, _, rfl, h.hb, by rw [List.length_map]; omega, fun v hv => ?_, ?_⟩
  · obtain ⟨y, _, rfl⟩ := List.mem_map.mp hv
    exact .int y
  · have e : (ys.map L2.V.int).all cntV = true := List.all_eq_true.mpr fun v hv => by
      obtain ⟨y, hy, rfl⟩ := List.mem_map.mp hv
      exact decide_eq_true (h.nn y hy)
    rw [e, List.length_map, ly, decide_eq_true rfl]
    rfl
end
/-- how many letters the pieces write, told one by one -/
theorem lenR_take (ys : List Int) (i : Nat) (ps : List Pc) {p : Pc} (e : ps[i]? = some p) : (((ps.take (i + 1)).map fun p => (p.1.length : Int) * tms p ys)) = ((ps.take i).map fun p => (p.1.length : Int) * tms p ys) ++ [(p.1.length : Int) * tms p ys] := by
  rw [List.take_add_one, e, List.map_append]
  rfl
theorem lenR_sum (ys : List Int) (ps : List Pc) : (ps.map fun p => (p.1.length : Int) * tms p ys).sum = lenR (ps.map (rn ys)) := by
  unfold lenR
  rw [List.map_map]
  rfl
abbrev sWG : Stmt := top 64
abbrev nWG : List Str := ["_law_pieces_here", "_law_text", "_law_point", "_law_whole", "_law_found", "_law_many", "e", "_law_shown", "_law_piece_here"]
theorem scWG : FnScope nWG ["_law_pieces_here", "_law_text", "_law_point"] (defScope sWG) := ⟨rfl, rfl, rfl, by decide +kernel, rfl, by decide +kernel, by decide +kernel⟩
def spWG (C : Addr) : Sp := fun vs H Q _ => ∃ (m : Nat) (pl x bp : Addr) (ps done : List Pc) (ys : List Int), vs = [.ref pl, .ref x, .ref bp] ∧ WG C H pl x bp m ps done ys ∧ ∀ H', Same H H' → Q (.bl true) H'
theorem V_mul_le {ys : List Int} {ps : List Pc} {i : Nat} {p : Pc} (e : ps[i]? = some p) : (cs p.1).length * (tms p ys).toNat ≤ (NP.V ys ps).length := by
  rw [← wr_rn, wr_len]
  refine lettersR_mem (r := (cs p.1, (tms p ys).toNat)) ?_
  refine List.mem_of_getElem? (i := i) ?_
  unfold toR
  rw [List.map_map, List.getElem?_map, e]
  rfl
theorem V_take (ys : List Int) (i : Nat) (ps : List Pc) {p : Pc} (e : ps[i]? = some p) : NP.V ys (ps.take (i + 1)) = NP.V ys (ps.take i) ++ pw (cs p.1) (tms p ys).toNat := by
  rw [List.take_add_one, e, V_app]
  exact congrArg _ (V_one ys p)
section
variable {P : Program} {w : World} {K : PySem.W.Frag} {mg : Str → Option Value} {base : Heap} {f : Addr} {fd : FuncData} {C : Addr}
theorem ok_writtenGood (F : FnP K "_law_written_good" sWG f fd) (Z : Cl4 P w K mg base) (o_val : Ok P w K mg base "_law_value" 1 ["_law_form", "_law_point"] spFormValue) (o_wr : OkX P w K mg base "written" 5 ["text", "point"] (spWritten K C)) (k_wr : OkK P w K mg base "written" 5 ["text", "point"] (cm (spWritten K C)))
    (z_sum : mg "sum" = none) (z_len : mg "len" = none) : FnOk P w K mg base CX0 6 f fd ["_law_pieces_here", "_law_text", "_law_point"] (spWG C) := by
  have nd := scWG.nd
  refine F.ok scWG (fun vs H Q E h => ?_) (fun cdv A outer s H vs Q E hr h => ?_)
  · obtain ⟨m, pl, x, bp, ps, done, ys, rfl, _⟩ := h
    rfl
  · obtain ⟨m, pl, x, bp, ps, done, ys, rfl, hw, q⟩ := h
    have szl := sizeLine_eq
    have gT : mg "TooLong" = some (.ref (C4 K 4)) := Z.g 4 (by decide)
    have XFT : XF K (C4 K 4) "value" := Z.f 4 (by decide)
    have r5 : Room 5 (A.deeper (envOfC "_law_written_good" (defScope sWG) s.heap.objs.size f cdv)) := hr
    have r1 := r5.mono (by decide : 1 ≤ 5)
    refine ⟨_, PSs.nox (pss_cons (ps_set (i := 3) nd rfl (Or.inl rfl) (pe_callB (cr_sum rfl) (by rfl) z_sum (by decide +kernel) (pa_cons
        (pe_lc (own := [("_law_piece_here", 8)]) (g := gName 8) (by rfl) nd (pi_list (pv 0)) (blkOk_by (N := nWG) (sc := defScope sWG) (own := [("_law_piece_here", 8)]) (by decide +kernel)) (fun _ _ _ _ _ => pg_name (i := 8) nd rfl (Or.inl rfl)) (fun _ _ _ _ _ => pts_nil)
          (fun _ _ _ _ _ => pe_op op_mulW (pe_callB call_len_str (by rfl) z_len boot_len (pa_cons (pe_ix (ix_tupK (K := K) rfl) (pv 8) pe_int (fun _ _ => rfl)) pa_nil)) (pe_callO o_val r1 (by rfl) (pa_cons (pe_ix (ix_tupK (K := K) rfl) (pv 8) pe_int (fun _ _ => rfl)) (pa_cons (pv 2) pa_nil))))) pa_nil)))
      (pss_cons (ps_asg (pe_tup (pa_cons pe_non (pa_cons pe_non pa_nil))) (pg_tup rfl (pgs_cons (pg_name (i := 4) nd rfl (Or.inl rfl)) (pgs_cons (pg_name (i := 5) nd rfl (Or.inl rfl)) pgs_nil))))
      (C8.pss_cut (ps_try_as (i := 6) rfl rfl nd rfl rfl ⟨by rfl, by decide, .inl gT⟩ takes0
        (fun W pn xe tk _ => pss_one (ps_set (i := 4) nd rfl (Or.inl rfl) (pe_callT o_wr tk r5 (by rfl) (pa_cons (pv 1) (pa_cons (pv 2) pa_nil)))))
        (fun a oe cls d pn hz hf => pss_one (ps_set (i := 5) nd rfl (Or.inl rfl) (pe_xf XFT.xf XFT.no hz hf (pv 6)))))
      (pss_cons (ps_if (pt_cmpR op_gt (pv 3) pe_int (nomark _)) (pss_one (ps_ret (pe_and (pe_cmp (pc_isN (pv 4))) (pe_one (pe_cmpR op_eq (pv 5) (pv 3) (nomark _)))))) pss_nil)
      (pss_cons (ps_set (i := 7) nd rfl (Or.inl rfl) (pe_join pe_str
        (pe_lc (own := [("_law_piece_here", 8)]) (g := gName 8) (by rfl) nd (pi_list (pv 0)) (blkOk_by (N := nWG) (sc := defScope sWG) (own := [("_law_piece_here", 8)]) (by decide +kernel)) (fun _ _ _ _ _ => pg_name (i := 8) nd rfl (Or.inl rfl)) (fun _ _ _ _ _ => pts_one (pt_cmpR op_ne (pe_ix (ix_tupK (K := K) rfl) (pv 8) pe_int (fun _ _ => rfl)) pe_str (nomark _)))
          (fun _ _ _ _ _ => pe_op op_mulS (pe_ix (ix_tupK (K := K) rfl) (pv 8) pe_int (fun _ _ => rfl)) (pe_callO o_val r1 (by rfl) (pa_cons (pe_ix (ix_tupK (K := K) rfl) (pv 8) pe_int (fun _ _ => rfl)) (pa_cons (pv 2) pa_nil)))))))
      (pss_one (ps_ret (pe_and (pe_cmpR op_eq (pv 4) (pv 7) (nomark _)) (pe_one (pe_cmpR op_eq (pe_callK k_wr r5 (by rfl) (pk_cons (pv 2) (pk_cons (pv 1) pk_nil))) (pv 4) (nomark _))))))))))), ?_⟩
    obtain ⟨xs, hp, hP⟩ := id hw.hL
    have lx := hP.len
    have l5 := hw.l5
    have ly := hw.ly
    have m3 := hw.m3
    have at0 : ∀ (p : Pc) (f1 : Addr), atI [V.str p.1, V.ref f1] ((0 : Nat) : Int) = some (V.str p.1) := fun p f1 => atI_nat rfl
    have at1 : ∀ (p : Pc) (f1 : Addr), atI [V.str p.1, V.ref f1] ((1 : Nat) : Int) = some (V.ref f1) := fun p f1 => atI_nat rfl
    -- the whole
    refine ⟨_, rfl, pl, rfl, ⟨_, SqL.of hp⟩, fun D nD => lc_list (K := K) (a := pl) (xs := xs) (fun k H' => Same H H' ∧ H' D = some (.lst (((ps.take k).map fun p => (p.1.length : Int) * tms p ys).map V.int))) ⟨same_new nD, upd_same⟩ (fun k H' _ p => SqL.of (p.1 _ _ hp)) ?_ ?_⟩
    · rintro k y H' hk2 ⟨sm, hD⟩
      obtain ⟨p, ep, ⟨t, f1, rfl, ht, hf⟩⟩ := (hP.keep sm).get hk2
      have pk := hw.hk p (List.mem_of_getElem? ep)
      have lk : k < ps.length := (List.getElem?_eq_some_iff.mp ep).1
      have lz := cs_len p.1
      have l10 := pk.l
      have szt := hw.szt (List.mem_of_getElem? ep)
      have sl : Sz 20 ((p.1.length : Nat) : Int) := ⟨by omega, Int.lt_of_le_of_lt (b := 10) (by omega) (by decide)⟩
      refine ⟨rfl, ?_⟩
      refine ⟨_, rfl, t, _, _, _, rfl, rfl, SqT.of ht, at0 p f1, p.1, rfl, by omega, _, rfl, t, _, _, _, rfl, rfl, SqT.of ht, at1 p f1, _, rfl, f1, bp, p.2.1, p.2.2, ys, rfl, hf, sm _ _ hw.hb, by rw [pk.m, ly], by rw [pk.m]; omega, fun x hx => Sz.le (pk.x x hx) (by decide), fun y hy => Sz.le (hw.sy y hy) (by decide), fun H2 s2 => ⟨_, _, rfl, rfl, sl.mulW szt (by decide), _, s2 _ _ hD, ?_, fun b o e => ?_, ?_⟩⟩
      · rw [List.length_map, List.length_map]
        exact small1000 (Nat.le_trans (List.length_take_le _ _) (by omega))
      · rw [upd_ne (ne_of_none (H := H) e nD)]
        exact s2 _ _ (sm _ _ e)
      · rw [upd_same, lenR_take ys k ps ep, List.map_append]
        rfl
    rintro H1 ⟨s1, hD1⟩
    rw [lx, List.take_length] at hD1
    have eS : (ps.map fun p => (p.1.length : Int) * tms p ys).sum = (((NP.V ys ps).length : Nat) : Int) := (lenR_sum ys ps).trans hw.whole
    refine ⟨D, _, rfl, SqL.of hD1, ?_⟩
    rw [eS]
    refine ⟨(by show 2 ≤ sizeLine; omega), fun t0 nt0 => ⟨t0, _, rfl, SqT.of upd_same, rfl, _, _, rfl, _, _, rfl, rfl, ?_⟩⟩
    have s1 := s1.trans (same_new (o := .tup [.non, .non]) nt0)
    have hw1 := hw.keep s1
    generalize upd H1 t0 (.tup [.non, .non]) = H1 at *
    -- the try
    refine ⟨fun σ' H' => Same H H' ∧ (((NP.V ys ps).length ≤ 20000 ∧ ∃ z : Str, cs z = NP.V ys ps ∧ σ' = [some (.ref pl), some (.ref x), some (.ref bp), some (.int (((NP.V ys ps).length : Nat) : Int)), some (.str z), some .non, none, none, none]) ∨
      (20000 < (NP.V ys ps).length ∧ σ' = [some (.ref pl), some (.ref x), some (.ref bp), some (.int (((NP.V ys ps).length : Nat) : Int)), some .non, some (.int (((NP.V ys ps).length : Nat) : Int)), none, none, none])), ?_, ?_⟩
    · refine ⟨_, rfl, _, rfl, .ref x, .ref bp, rfl, .inr ⟨x, m, done, true, rfl, hw1.hx, hw1.isP, .inr ⟨rfl, bp, ys, hw1.gd, fun le H2 z s2 hz => ?_, fun gt H2 d s2 nd2 => ?_⟩⟩⟩
      · rw [hw.wholeD] at le
        exact ⟨s1.trans s2, .inl ⟨by omega, z, hz.trans hw.vv.symm, rfl⟩⟩
      · rw [hw.wholeD] at gt
        refine ⟨true, Z.own 4 (by decide), fun _ a na => ?_, fun z => nomatch z⟩
        refine ⟨_, rfl, rfl, rfl, d, _, _, rfl, upd_same, (by rw [List.lookup_cons_self]), ?_⟩
        refine ⟨(s1.trans s2).trans (same_new nd2), .inr ⟨by omega, ?_⟩⟩
        rw [hw.wholeD]
        rfl
    rintro σ' H2 ⟨s2, h⟩
    have hw2 := hw.keep s2
    rcases h with ⟨le, z, hz, rfl⟩ | ⟨gt, rfl⟩
    · refine ⟨_, rfl, _, _, rfl, rfl, false, congrArg V.bl (decide_eq_false (by omega)), iteF ?_⟩
      have hp2 := s2 _ _ hp
      have hP2 := hP.keep s2
      refine ⟨⟨_, rfl⟩, _, rfl, pl, rfl, ⟨_, SqL.of hp2⟩, fun D nD => lc_list (K := K) (a := pl) (xs := xs) (fun k H' => Same H2 H' ∧ ∃ zs : List Str, H' D = some (.lst (zs.map V.str)) ∧ zs.length ≤ k ∧ zs.flatMap cs = NP.V ys (ps.take k)) ⟨same_new nD, [], upd_same, Nat.le_refl _, rfl⟩ (fun k H' _ p => SqL.of (p.1 _ _ hp2)) ?_ ?_⟩
      · rintro k y H' hk2 ⟨sm, zs, hD, lzs, hzs⟩
        obtain ⟨p, ep, ⟨t, f1, rfl, ht, hf⟩⟩ := (hP2.keep sm).get hk2
        have pk := hw.hk p (List.mem_of_getElem? ep)
        have lk : k < ps.length := (List.getElem?_eq_some_iff.mp ep).1
        have szt := hw.szt (List.mem_of_getElem? ep)
        have lm := V_mul_le (ys := ys) ep
        refine ⟨rfl, ?_⟩
        refine ⟨_, rfl, t, _, _, _, rfl, rfl, SqT.of ht, at0 p f1, rfl, _, rfl, ite2 (fun e => ?_) (fun e => ?_)⟩
        · have ne : cs p.1 ≠ [] := fun e0 => by
            rw [cs_nil e0] at e
            simp at e
          refine ⟨_, rfl, t, _, _, _, rfl, rfl, SqT.of ht, at0 p f1, _, rfl, t, _, _, _, rfl, rfl, SqT.of ht, at1 p f1, _, rfl, f1, bp, p.2.1, p.2.2, ys, rfl, hf, sm _ _ hw2.hb, by rw [pk.m, ly], by rw [pk.m]; omega, fun x hx => Sz.le (pk.x x hx) (by decide), fun y hy => Sz.le (hw.sy y hy) (by decide), fun H3 s3 => ⟨p.1, tms p ys, rfl, rfl, mulOk szt.1 ne (by omega), _, s3 _ _ hD, ?_, fun b o e => ?_, zs ++ [Txt.mul p.1 (tms p ys)], ?_, ?_, ?_⟩⟩
          · rw [List.length_map]
            exact small1000 (by omega)
          · rw [upd_ne (ne_of_none (H := H2) e nD)]
            exact s3 _ _ (sm _ _ e)
          · rw [upd_same, List.map_append]
            rfl
          · rw [List.length_append, List.length_singleton]
            omega
          · rw [List.flatMap_append, hzs, V_take ys k ps ep, List.flatMap_cons, List.flatMap_nil, List.append_nil, cs_mul _ szt.1]
        · have e0 : p.1 = "" := by
            by_cases c : p.1 = ""
            · exact c
            · exact absurd (by
                have : ¬ V.str p.1 = V.str "" := fun z => c (V.str.inj z)
                simp [this]) e
          refine ⟨sm, zs, hD, by omega, ?_⟩
          rw [hzs, V_take ys k ps ep, e0, show cs ("" : Str) = [] by decide +kernel, pw_nil, List.append_nil]
      · rintro H3 ⟨s3, zs, hD, lzs, hzs⟩
        rw [lx, List.take_length] at hzs
        have hw3 := hw2.keep s3
        have ej : Txt.join "" zs = z := cs_ext ((join0 zs).trans (hzs.trans hz.symm))
        refine ⟨_, D, zs, rfl, rfl, .inl (SqL.of hD), ?_, ?_⟩
        · rw [sum_len, hzs, show ("" : Str).length = 0 by decide +kernel, Nat.mul_zero]
          omega
        · rw [ej]
          refine ⟨_, rfl, _, rfl, rfl, true, congrArg V.bl (decide_eq_true rfl), iteT ?_⟩
          refine ⟨_, rfl, _, rfl, rfl, .ref x, .ref bp, rfl, .inr ⟨x, m, done, true, rfl, hw3.hx, hw3.isP, .inr ⟨rfl, bp, ys, hw3.gd, fun le2 H4 z2 s4 hz2 => ?_, fun gt => ?_⟩⟩⟩
          · have e2 : z2 = z := cs_ext (hz2.trans (hw.vv.symm.trans hz.symm))
            refine ⟨_, rfl, rfl, ?_⟩
            show Q (.bl (decide (V.str z2 = V.str z))) H4
            rw [e2, decide_eq_true rfl]
            exact q H4 ((s2.trans s3).trans s4)
          · rw [hw.wholeD] at gt
            omega
    · refine ⟨_, rfl, _, _, rfl, rfl, true, congrArg V.bl (decide_eq_true (by omega)), iteT ?_⟩
      refine ⟨_, rfl, true, rfl, iteT ⟨_, rfl, _, rfl, rfl, ?_⟩⟩
      show Q (.bl (decide (V.int _ = V.int _))) H2
      rw [decide_eq_true rfl]
      exact q H2 s2
end
end K4
set_option Elab.async false
set_option linter.all false
set_option maxRecDepth 100000
set_option maxHeartbeats 4000000
namespace K4
open PySem PySem.Spec PyProof.Rows L2 XV NP
theorem dotK_nil' (xs : List Int) : K4.dot xs [] = 0 := by
  unfold K4.dot
  rw [List.zipWith_nil_right]
  rfl
theorem dotK_lin (u v : Nat → Int) (x : Int) : ∀ (L : List Nat) (ys : List Int), K4.dot (L.map fun j => x * u j + v j) ys = x * K4.dot (L.map u) ys + K4.dot (L.map v) ys
  | [], ys => by simp [K4.dot]
  | j :: L, [] => by simp [dotK_nil']
  | j :: L, y :: ys => by
    have e : ∀ (a b : Int) (c d : List Int), K4.dot (a :: c) (b :: d) = a * b + K4.dot c d := fun a b c d => rfl
    rw [List.map_cons, List.map_cons, List.map_cons, e, e, e, dotK_lin u v x L ys, Int.mul_add, Int.add_mul]
    have e : x * u j * y = x * (u j * y) := Int.mul_assoc _ _ _
    omega
theorem dotK_zero : ∀ (L : List Nat) (ys : List Int), K4.dot (L.map fun _ => (0 : Int)) ys = 0
  | [], ys => rfl
  | j :: L, [] => dotK_nil' _
  | j :: L, y :: ys => by
    have e : ∀ (a b : Int) (c d : List Int), K4.dot (a :: c) (b :: d) = a * b + K4.dot c d := fun a b c d => rfl
    rw [List.map_cons, e, dotK_zero L ys, Int.zero_mul, Int.add_zero]
theorem range_getD {m : Nat} {xs : List Int} (h : xs.length = m) : ((List.range m).map fun j => xs.getD j 0) = xs := by
  apply List.ext_getElem (by simp [h])
  intro i h1 h2
  rw [List.getElem_map, List.getElem_range, List.getD_eq_getElem?_getD, List.getElem?_eq_getElem h2]
  rfl
/-- the value of the length is how many letters there are -/
theorem lin_val {m : Nat} (ys : List Int) : ∀ {ps : List Pc}, (∀ p ∈ ps, p.2.2.length = m) → lin tt 0 ps + K4.dot ((List.range m).map fun j => lin tt (j + 1) ps) ys = lenR (ps.map (rn ys))
  | [], _ => by
    show (0 : Int) + K4.dot ((List.range m).map fun j => lin tt (j + 1) []) ys = 0
    have e : ((List.range m).map fun j => lin tt (j + 1) []) = (List.range m).map fun _ => (0 : Int) := rfl
    rw [e, dotK_zero, Int.zero_add]
  | p :: ps, h => by
    have ih := lin_val ys fun q hq => h q (List.mem_cons_of_mem _ hq)
    have e : ∀ j, lin tt j (p :: ps) = NP.cn tt p.1 * NP.fj p j + lin tt j ps := fun j => by
      unfold lin
      rw [List.map_cons, List.sum_cons]
    have e2 : ((List.range m).map fun j => lin tt (j + 1) (p :: ps)) = (List.range m).map fun j => NP.cn tt p.1 * NP.fj p (j + 1) + lin tt (j + 1) ps := congrArg (fun f => (List.range m).map f) (funext fun j => e (j + 1))
    have e3 : ((List.range m).map fun j => NP.fj p (j + 1)) = p.2.2 := range_getD (h p List.mem_cons_self)
    have e4 : lenR ((p :: ps).map (rn ys)) = (p.1.length : Int) * (p.2.1 + K4.dot p.2.2 ys) + lenR (ps.map (rn ys)) := by
      unfold lenR
      rw [List.map_cons, List.map_cons, List.sum_cons]
      rfl
    rw [e2, e, dotK_lin (fun j => NP.fj p (j + 1)) (fun j => lin tt (j + 1) ps), e3, e4, ← ih, cn_tt, ← cs_len, Int.mul_add]
    show (p.1.length : Int) * p.2.1 + _ + _ = _
    omega
theorem range_cons (m : Nat) (f : Nat → Int) : (List.range (m + 1)).map f = f 0 :: (List.range m).map fun j => f (j + 1) := by
  rw [List.range_succ_eq_map, List.map_cons, List.map_map]
  rfl
theorem at_letter {l : List Nat} {i : Nat} (h : i < l.length) : ∃ c, l[i]? = some c := ⟨l[i], List.getElem?_eq_getElem h⟩
abbrev sLG : Stmt := top 63
abbrev nLG : List Str := ["_law_generator_here", "_law_pieces_here", "_law_text", "_law_point", "_law_whole", "_law_places", "_law_place", "_law_error", "e", "_law_piece_here", "_law_turn"]
theorem scLG : FnScope nLG ["_law_generator_here", "_law_pieces_here", "_law_text", "_law_point"] (defScope sLG) := ⟨rfl, rfl, rfl, by decide +kernel, rfl, by decide +kernel, by decide +kernel⟩
def spLG (C : Addr) : Sp := fun vs H Q _ => ∃ (m n : Nat) (g pl x bp : Addr) (ps done : List Pc) (ys : List Int), vs = [.ref g, .ref pl, .ref x, .ref bp] ∧ WG C H pl x bp m ps done ys ∧ bp ≠ g ∧ Dr H g n ∧ n ≤ 900000 ∧ ∀ H', But H H' g → Dr H' g (n + 100) → Q (.bl true) H'
section
variable {P : Program} {w : World} {K : PySem.W.Frag} {mg : Str → Option Value} {base : Heap} {f : Addr} {fd : FuncData} {C : Addr}
theorem ok_lettersGood (F : FnP K "_law_letters_good" sLG f fd) (Z : Cl4 P w K mg base) (o_val : Ok P w K mg base "_law_value" 1 ["_law_form", "_law_point"] spFormValue) (o_len : Ok P w K mg base "length" 4 ["text"] (cm (spLength K C))) (o_rand : Ok P w K mg base "_law_random" 2 ["_law_generator_here", "_law_bound"] spRand)
    (o_tl : Ok P w K mg base "text_letter" 5 ["text", "point", "at"] (cm (spTLetter K C))) (k_tl : OkKX P w K mg base "text_letter" 5 ["text", "point", "at"] (spTLetter K C)) (o_ll : Ok P w K mg base "_law_letter" 2 ["_law_pieces_here", "_law_point", "_law_place"] spLLetter)
    (z_sum : mg "sum" = none) (z_len : mg "len" = none) (z_range : mg "range" = none) (z_max : mg "max" = none) (z_min : mg "min" = none) : FnOk P w K mg base CX0 6 f fd ["_law_generator_here", "_law_pieces_here", "_law_text", "_law_point"] (spLG C) := by
  have nd := scLG.nd
  refine F.ok scLG (fun vs H Q E h => ?_) (fun cdv A outer s H vs Q E hr h => ?_)
  · obtain ⟨m, n, g, pl, x, bp, ps, done, ys, rfl, _⟩ := h
    rfl
  · obtain ⟨m, n, g, pl, x, bp, ps, done, ys, rfl, hw, bpg, dr, hn, q⟩ := h
    have szl := sizeLine_eq
    have gN : mg "InvalidNumber" = some (.ref (C4 K 3)) := Z.g 3 (by decide)
    have r5 : Room 5 (A.deeper (envOfC "_law_letters_good" (defScope sLG) s.heap.objs.size f cdv)) := hr
    have r4 := r5.mono (by decide : 4 ≤ 5)
    have r2 := r5.mono (by decide : 2 ≤ 5)
    have r1 := r5.mono (by decide : 1 ≤ 5)
    refine ⟨_, PSs.nox (pss_cons (ps_set (i := 4) nd rfl (Or.inr rfl) (pe_callO o_val r1 (by rfl) (pa_cons (pe_callO o_len r4 (by rfl) (pa_cons (pv 2) pa_nil)) (pa_cons (pv 3) pa_nil))))
      (pss_cons (ps_if (pt_cmpR op_ne (pv 4) (pe_callB (cr_sum rfl) (by rfl) z_sum (by decide +kernel) (pa_cons
        (pe_lc (own := [("_law_piece_here", 9)]) (g := gName 9) (by rfl) nd (pi_list (pv 1)) (blkOk_by (N := nLG) (sc := defScope sLG) (own := [("_law_piece_here", 9)]) (by decide +kernel)) (fun _ _ _ _ _ => pg_name (i := 9) nd rfl (Or.inl rfl)) (fun _ _ _ _ _ => pts_nil)
          (fun _ _ _ _ _ => pe_op op_mulW (pe_callB call_len_str (by rfl) z_len boot_len (pa_cons (pe_ix (ix_tupK (K := K) rfl) (pv 9) pe_int (fun _ _ => rfl)) pa_nil)) (pe_callO o_val r1 (by rfl) (pa_cons (pe_ix (ix_tupK (K := K) rfl) (pv 9) pe_int (fun _ _ => rfl)) (pa_cons (pv 3) pa_nil))))) pa_nil)) (nomark _)) (pss_one (ps_ret pe_bl)) pss_nil)
      (pss_cons (ps_set (i := 5) nd rfl (Or.inl rfl) (pe_op op_cat (pe_lst (pa_cons pe_int (pa_cons (pe_op op_sub (pv 4) pe_int) pa_nil)))
        (pe_lc (own := [("_law_turn", 10)]) (g := gName 10) (by rfl) nd (pi_range1 (by rfl) z_range (pa_cons pe_int pa_nil)) (blkOk_by (N := nLG) (sc := defScope sLG) (own := [("_law_turn", 10)]) (by decide +kernel)) (fun _ _ _ _ _ => pg_name (i := 10) nd rfl (Or.inl rfl)) (fun _ _ _ _ _ => pts_nil)
          (fun _ _ _ _ _ => pe_callO o_rand r2 (by rfl) (pa_cons (pv 0) (pa_cons (pe_callB (call_max2 rfl) (by rfl) z_max (by decide +kernel) (pa_cons (pe_callB (call_min2 rfl) (by rfl) z_min (by decide +kernel) (pa_cons (pv 4) (pa_cons (pe_op op_pow pe_int pe_int) pa_nil))) (pa_cons pe_int pa_nil))) pa_nil))))))
      (pss_cons (ps_for PassesOwn.never rfl (pi_list (pv 5)) (pg_name (i := 6) nd rfl (Or.inl rfl))
        (pss_one (ps_if (PW.pt (pw_and (pt_chain op_gt op_ge (pv 4) (pv 6) pe_int) (pw_and1 (pt_cmpR op_ne (pe_callO o_tl r5 (by rfl) (pa_cons (pv 2) (pa_cons (pv 3) (pa_cons (pv 6) pa_nil)))) (pe_callO o_ll r2 (by rfl) (pa_cons (pv 1) (pa_cons (pv 3) (pa_cons (pv 6) pa_nil)))) (nomark _))))) (pss_one (ps_ret pe_bl)) pss_nil)))
      (pss_cons (ps_set (i := 7) nd rfl (Or.inl rfl) pe_non)
      (C8.pss_cut (ps_try_keep (i := 8) rfl rfl rfl nd rfl rfl ⟨by rfl, by decide, .inl gN⟩ takes0
        (fun W pn xe tk _ => pss_one (ps_expr (pe_callKT k_tl tk r5 (by rfl) (pk_cons (pv 4) (pk_cons (pv 3) (pk_cons (pv 2) pk_nil))))))
        (fun a oe cls d pn hz hf => pss_one (ps_set (i := 7) nd rfl (Or.inl rfl) (pv 8))))
      (pss_one (ps_ret (pe_and (pe_cmp (pc_notN (pv 7))) (pe_one (pe_cmpR op_eq (pe_zget (pv 7)) (pv 4) (nomark _)))))))))))), ?_⟩
    obtain ⟨xs, hp, hP⟩ := id hw.hL
    have lx := hP.len
    have l5 := hw.l5
    have ly := hw.ly
    have m3 := hw.m3
    have at0 : ∀ (p : Pc) (f1 : Addr), atI [V.str p.1, V.ref f1] ((0 : Nat) : Int) = some (V.str p.1) := fun p f1 => atI_nat rfl
    have at1 : ∀ (p : Pc) (f1 : Addr), atI [V.str p.1, V.ref f1] ((1 : Nat) : Int) = some (V.ref f1) := fun p f1 => atI_nat rfl
    have eL : ((List.range (m + 1)).map fun j => lin tt j done) = lin tt 0 ps :: (List.range m).map fun j => lin tt (j + 1) ps := by
      exact (congrArg (fun f => (List.range (m + 1)).map f) (funext fun j => ni_lin hw.ni tt j)).trans (range_cons m fun j => lin tt j ps)
    have eW : lin tt 0 ps + K4.dot ((List.range m).map fun j => lin tt (j + 1) ps) ys = (((NP.V ys ps).length : Nat) : Int) := (lin_val ys fun p hp => (hw.hk p hp).m).trans hw.whole
    -- the whole
    refine ⟨_, rfl, .ref x, rfl, .inr ⟨x, m, done, rfl, hw.hx, m3, hw.dn, hw.l90, fun H1 r s1 hr1 => ?_⟩⟩
    rw [eL] at hr1
    have hw1 := hw.keep s1
    refine ⟨_, rfl, r, bp, lin tt 0 ps, (List.range m).map fun j => lin tt (j + 1) ps, ys, rfl, hr1, hw1.hb, by rw [List.length_map, List.length_range, ly], by rw [List.length_map, List.length_range]; omega, fun v hv => ?_, fun y hy => Sz.le (hw.sy y hy) (by decide), fun H2 s2 => ?_⟩
    · obtain ⟨j, _, rfl⟩ := List.mem_map.mp hv
      exact Sz.le (sz_lin tt (j + 1) hw.hk) (by omega)
    rw [eW]
    have s02 := s1.trans s2
    have hw2 := hw.keep s02
    have hp2 := s02 _ _ hp
    have hP2 := hP.keep s02
    -- the same, told one by one
    refine ⟨_, rfl, _, rfl, pl, rfl, ⟨_, SqL.of hp2⟩, fun D nD => lc_list (K := K) (a := pl) (xs := xs) (fun k H' => Same H2 H' ∧ H' D = some (.lst (((ps.take k).map fun p => (p.1.length : Int) * tms p ys).map V.int))) ⟨same_new nD, upd_same⟩ (fun k H' _ p => SqL.of (p.1 _ _ hp2)) ?_ ?_⟩
    · rintro k y H' hk2 ⟨sm, hD⟩
      obtain ⟨p, ep, ⟨t, f1, rfl, ht, hf⟩⟩ := (hP2.keep sm).get hk2
      have pk := hw.hk p (List.mem_of_getElem? ep)
      have lk : k < ps.length := (List.getElem?_eq_some_iff.mp ep).1
      have lz := cs_len p.1
      have l10 := pk.l
      have szt := hw.szt (List.mem_of_getElem? ep)
      have sl : Sz 20 ((p.1.length : Nat) : Int) := ⟨by omega, Int.lt_of_le_of_lt (b := 10) (by omega) (by decide)⟩
      refine ⟨rfl, ?_⟩
      refine ⟨_, rfl, t, _, _, _, rfl, rfl, SqT.of ht, at0 p f1, p.1, rfl, by omega, _, rfl, t, _, _, _, rfl, rfl, SqT.of ht, at1 p f1, _, rfl, f1, bp, p.2.1, p.2.2, ys, rfl, hf, sm _ _ hw2.hb, by rw [pk.m, ly], by rw [pk.m]; omega, fun x hx => Sz.le (pk.x x hx) (by decide), fun y hy => Sz.le (hw.sy y hy) (by decide), fun H3 s3 => ⟨_, _, rfl, rfl, sl.mulW szt (by decide), _, s3 _ _ hD, ?_, fun b o e => ?_, ?_⟩⟩
      · rw [List.length_map, List.length_map]
        exact small1000 (Nat.le_trans (List.length_take_le _ _) (by omega))
      · rw [upd_ne (ne_of_none (H := H2) e nD)]
        exact s3 _ _ (sm _ _ e)
      · rw [upd_same, lenR_take ys k ps ep, List.map_append]
        rfl
    rintro H3 ⟨s3, hD3⟩
    rw [lx, List.take_length] at hD3
    have eS : (ps.map fun p => (p.1.length : Int) * tms p ys).sum = (((NP.V ys ps).length : Nat) : Int) := (lenR_sum ys ps).trans hw.whole
    refine ⟨D, _, rfl, SqL.of hD3, ?_⟩
    rw [eS]
    refine ⟨rfl, false, (by rw [decide_eq_true rfl]; rfl), iteF ?_⟩
    have S3 := s02.trans s3
    have hw3 := hw.keep S3
    have d3 := dr_same dr S3
    clear hD3 nD hp2 hP2 hw2 s02 hr1 hw1
    -- the places
    refine ⟨_, rfl, _, _, rfl, rfl, (by show 2 ≤ sizeLine; omega), fun l0 nl0 => ?_⟩
    have s4 := same_new (o := .lst [.int 0, .int ((((NP.V ys ps).length : Nat) : Int) - 1)]) nl0
    have d4 := dr_newK (o := .lst [.int 0, .int ((((NP.V ys ps).length : Nat) : Int) - 1)]) d3 nl0
    have gl0 := dr_neK d3 nl0
    have h40 : (upd H3 l0 (.lst [.int 0, .int ((((NP.V ys ps).length : Nat) : Int) - 1)])) l0 = some (.lst [.int 0, .int ((((NP.V ys ps).length : Nat) : Int) - 1)]) := upd_same
    have S4 := S3.trans s4
    generalize upd H3 l0 (.lst [.int 0, .int ((((NP.V ys ps).length : Nat) : Int) - 1)]) = H4 at *
    refine ⟨4, rfl, by decide, by decide, fun D nD => ?_⟩
    have gD := dr_neK d4 nD
    have lD0 : l0 ≠ D := ne_of_none h40 nD
    refine lc_range (lo := 0) (n := 4) (fun i H' => But H4 H' g ∧ Dr H' g (n + 20 * i) ∧ ∃ is : List Int, is.length = i ∧ H' D = some (.lst (is.map V.int))) ⟨Same.but (same_new nD), dr_newK d4 nD, [], rfl, upd_same⟩ ?_ ?_
    · rintro i H' hi ⟨bt, dd, is, li, hD⟩
      refine ⟨rfl, ?_⟩
      refine ⟨_, rfl, _, rfl, _, _, rfl, rfl, ⟨by decide, by decide, by decide⟩, _, _, rfl, _, _, rfl, ?_⟩
      refine ⟨g, n + 20 * i, _, rfl, dd, by omega, ?_, ?_, fun H5 v v0 v1 bt5 d5 => ?_⟩
      · split <;> omega
      · have e29 : (10 : Int) ^ (29 : Int).toNat < 10 ^ 100 := by decide +kernel
        have e1 : (1 : Int) < 10 ^ 100 := by decide +kernel
        have key : ∀ W T B : Int, T < B → 1 < B → (if (1 : Int) > (if T < W then T else W) then (1 : Int) else (if T < W then T else W)) < B := fun W T B h1 h2 => by
          by_cases c : T < W
          · rw [if_pos c]
            by_cases d : (1 : Int) > T
            · rw [if_pos d]
              exact h2
            · rw [if_neg d]
              exact h1
          · rw [if_neg c]
            by_cases d : (1 : Int) > W
            · rw [if_pos d]
              exact h2
            · rw [if_neg d]
              omega
        exact key _ _ _ e29 e1
      · have hD5 := bt5 _ _ (Ne.symm gD) hD
        refine ⟨_, hD5, ?_, fun b o nb e => ?_, (dr_updK d5 gD).mono (by omega), is ++ [v], by rw [List.length_append, li]; rfl, ?_⟩
        · rw [List.length_map]
          exact small1000 (by omega)
        · rw [upd_ne (ne_of_none (H := H4) e nD)]
          exact bt5 _ _ nb (bt _ _ nb e)
        · rw [upd_same, List.map_append]
          rfl
    rintro H5 ⟨bt5, d5, is, li, hD5⟩
    refine ⟨l0, D, _, _, rfl, rfl, bt5 _ _ (Ne.symm gl0) h40, hD5, by rw [List.length_map, li]; show 2 + 4 ≤ sizeLine; omega, fun lp nlp => ?_⟩
    have hlp : (upd H5 lp (.lst ([V.int 0, .int ((((NP.V ys ps).length : Nat) : Int) - 1)] ++ is.map V.int))) lp = some (.lst ((0 :: ((((NP.V ys ps).length : Nat) : Int) - 1) :: is).map V.int)) := upd_same
    have d6 := dr_newK (o := .lst ([V.int 0, .int ((((NP.V ys ps).length : Nat) : Int) - 1)] ++ is.map V.int)) d5 nlp
    have glp := dr_neK d5 nlp
    have B6 : But H (upd H5 lp (.lst ([V.int 0, .int ((((NP.V ys ps).length : Nat) : Int) - 1)] ++ is.map V.int))) g := ((Same.but S4).trans bt5).trans (Same.but (same_new nlp))
    have hw6 := hw.but dr B6 bpg
    generalize upd H5 lp (.lst ([V.int 0, .int ((((NP.V ys ps).length : Nat) : Int) - 1)] ++ is.map V.int)) = H6 at *
    -- place by place
    refine ⟨_, rfl, lp, rfl, ⟨_, SqL.of hlp⟩, for_list (K := K) (a := lp) (xs := (0 :: ((((NP.V ys ps).length : Nat) : Int) - 1) :: is).map V.int) (fun i σ H' => Same H6 H' ∧ ∃ x6 : Option L2.V, σ = [some (.ref g), some (.ref pl), some (.ref x), some (.ref bp), some (.int (((NP.V ys ps).length : Nat) : Int)), some (.ref lp), x6, none, none, none, none]) ⟨Same.refl _, _, rfl⟩ (fun i σ H' _ z => SqL.of (z.1 _ _ hlp)) ?_ ?_⟩
    · rintro i y σ H7 hi ⟨s7, x6, rfl⟩
      rw [List.getElem?_map] at hi
      obtain ⟨v, _, rfl⟩ := Option.map_eq_some_iff.mp hi
      have hw7 := hw6.keep s7
      refine ⟨_, rfl, _, rfl, _, _, rfl, rfl, _, rfl, ite2 (fun c1 => ?_) (fun c1 => ?_)⟩
      · have c1 : (((NP.V ys ps).length : Nat) : Int) > v := of_decide_eq_true c1
        refine ⟨_, _, rfl, rfl, _, rfl, ite2 (fun c2 => ?_) (fun c2 => ?_)⟩
        · have c2 : v ≥ 0 := of_decide_eq_true c2
          obtain ⟨i0, rfl⟩ := Int.eq_ofNat_of_zero_le c2
          have li0 : i0 < (NP.V ys ps).length := by omega
          obtain ⟨c, hc⟩ := at_letter li0
          refine ⟨_, rfl, _, rfl, _, rfl, .ref x, .ref bp, _, rfl, .inr ⟨x, m, done, true, rfl, hw7.hx, hw7.isP, .inr ⟨rfl, bp, ys, hw7.gd, .int _, fun eb H8 i1 c1' s8 ei ec => ?_, fun eb => ?_⟩⟩⟩
          · have ei : i0 = i1 := by
              have := V.int.inj ei
              omega
            subst ei
            rw [← hw.vv, hc] at ec
            cases ec
            have hw8 := hw7.keep s8
            refine ⟨_, rfl, _, rfl, _, rfl, m, pl, bp, i0, c, ps, ys, rfl, m3, hw8.hL, pks_ps hw.hk l5, hw8.hb, ly, hw.sy, hc, fun H9 s9 => ⟨rfl, false, (by rw [decide_eq_true rfl]; rfl), iteF ⟨(s7.trans s8).trans s9, _, rfl⟩⟩⟩
          · have : belV (lenR (done.map (rn ys))) (.int (i0 : Int)) = true := by
              show (decide (0 ≤ (i0 : Int)) && decide ((i0 : Int) < lenR (done.map (rn ys)))) = true
              rw [hw.wholeD, decide_eq_true (by omega), decide_eq_true (by omega)]
              rfl
            rw [this] at eb
            cases eb
        · exact iteF ⟨s7, _, rfl⟩
      · exact ⟨_, rfl, iteF ⟨s7, _, rfl⟩⟩
    rintro σ H7 ⟨s7, x6, rfl⟩
    have hw7 := hw6.keep s7
    -- the letter behind the last one
    refine ⟨fun σ' H' => ∃ (a dx : Addr), Same H7 H' ∧ σ' = [some (.ref g), some (.ref pl), some (.ref x), some (.ref bp), some (.int (((NP.V ys ps).length : Nat) : Int)), some (.ref lp), x6, some (.ref a), none, none, none] ∧ H' a = some (exz a (.ref (C4 K 3)) (some dx)) ∧ H' dx = some (.xd [("value", .int (((NP.V ys ps).length : Nat) : Int))]), ?_, ?_⟩
    · have eb : belV (lenR (done.map (rn ys))) (.int (((NP.V ys ps).length : Nat) : Int)) = false := by
        show (decide (0 ≤ (((NP.V ys ps).length : Nat) : Int)) && decide ((((NP.V ys ps).length : Nat) : Int) < lenR (done.map (rn ys)))) = false
        rw [hw.wholeD, decide_eq_false (p := (((NP.V ys ps).length : Nat) : Int) < _) (by omega), Bool.and_false]
      refine ⟨_, rfl, _, rfl, _, rfl, rfl, .ref x, .ref bp, _, rfl, .inr ⟨x, m, done, true, rfl, hw7.hx, hw7.isP, .inr ⟨rfl, bp, ys, hw7.gd, .int _, (fun e => by rw [eb] at e; cases e), fun _ H8 d s8 nd8 => ?_⟩⟩⟩
      refine ⟨true, Z.own 3 (by decide), fun _ a na => ?_, fun z => nomatch z⟩
      refine ⟨_, rfl, fun na2 => ⟨a, d, (s8.trans (same_new nd8)).trans (same_new na2), rfl, upd_same, ?_⟩⟩
      rw [upd_ne (ne_of_none upd_same na2)]
      exact upd_same
    · rintro σ' H8 ⟨a, dx, s8, rfl, ha, hx8⟩
      refine ⟨_, rfl, true, rfl, iteT ⟨_, rfl, a, _, dx, _, _, rfl, ha, hx8, Z.f 3 (by decide), (by rw [List.lookup_cons_self]), _, rfl, rfl, ?_⟩⟩
      show Q (.bl (decide (V.int _ = V.int _))) H8
      rw [decide_eq_true rfl]
      exact q H8 ((B6.trans (Same.but s7)).trans (Same.but s8)) (dr_same (d6.mono (by omega)) (s7.trans s8))
end
end K4
set_option Elab.async false
set_option linter.all false
set_option maxRecDepth 100000
set_option maxHeartbeats 4000000
namespace K4
open PySem PySem.Spec PyProof.Rows L2 XV NP
/-! ### OpenText(many, pieces) -/
structure OkMkT (P : Program) (w : World) (K : PySem.W.Frag) (mg : Str → Option Value) (base : Heap) (C : Addr) : Prop where
  ex : ∃ f fd, Mk K C f ∧ FnOk P w K mg base CX0 6 f fd ["self", "many", "pieces"] (spInit C) ∧ Binds K fd ["self", "many", "pieces"] [] ∧ mg "OpenText" = some (.ref C)
theorem same_two {H : Hp} {x dx : Addr} {o u : HO} (nx : H x = none) (ndx : H dx = none) (ne : dx ≠ x) : Same H (upd (upd H dx o) x u) :=
  (same_new ndx).trans (same_new (by
    rw [upd_ne (Ne.symm ne)]
    exact nx))
section
variable {X : Cx} {C : Addr} {e1 e2 : Expr} {t1 t2 : TE} {pos p : Pos}
theorem pe_mkT (o : OkMkT X.prog X.w X.K X.mg X.base C) (hr : Room 7 X.A) (hg : Gl X "OpenText") (h1 : PE X e1 t1) (h2 : PE X e2 t2) (hs1 : starEach [e1, e2] X.env = (false, eval e1 X.env) :: starEach [e2] X.env := by rfl) (hs2 : starEach [e2] X.env = (false, eval e2 X.env) :: starEach [] X.env := by rfl) (hpl : (backTo pos (starEach [e2] X.env)).any (·.1) = false := by rfl) :
    PE X (.Call (.Name "OpenText" p) [e1, e2] [] pos) (fun σ H Q => t1 σ H fun v1 H1 => t2 σ H1 fun v2 H2 => ∃ (m : Nat) (pl : Addr) (ps : List Pc), v1 = .int m ∧ v2 = .ref pl ∧ m ≤ 3 ∧ PL H2 pl ps ∧ Ps m ps ∧ meas ps ≤ 2000 ∧
      ∀ (H' : Hp) (x : Addr) (done : List Pc), Same H2 H' → H2 x = none → Tx C H' x m done → NI ps done [] → done.length ≤ 2 * ps.length + 1 → Dn m 400 done → Q (.ref x) H') := by
  obtain ⟨f, fd, M, F, b, g⟩ := o.ex
  refine PE.le (pe_make M F hr hg g b .nil pass0 (pa_cons (pe_mono h1) (pa_cons (pe_mono h2) pa_nil hs2) hs1) (by decide) hs1 hpl) fun σ H Q h => ⟨_, h, fun v1 H1 h1' => ⟨_, h1', ?_⟩⟩
  rintro v2 H2 ⟨m, pl, ps, rfl, rfl, hm, hL, hPs, hme, q⟩
  intro x dx nx ndx ne
  have s := same_two (o := .own x) (u := .ins C dx []) nx ndx ne
  refine ⟨x, dx, m, pl, ps, rfl, upd_same, hm, hL.keep s, hPs, hme, fun H' done bt hT ni ld dn => ⟨rfl, q H' x done (fun b' o e => ?_) nx hT ni ld dn⟩⟩
  exact bt _ _ (ne_of_none e nx) (s _ _ e)
end
theorem lay_ints : ∀ l : List Int, PyData.canLayAll0 (l.map PyData.int) = true
  | [] => by simp [PyData.canLayAll0]
  | x :: l => by simp [PyData.canLayAll0, PyData.canLay0, lay_ints l]
theorem shaped_lst (l : List Int) : SeqAt.shaped (.list (l.map PyData.int)) = true := by simp [SeqAt.shaped, PyData.canLay0, lay_ints, PyData.depth, depth_ints]
theorem PL.ne_ints {H : Hp} {l v : Addr} {ps : List Pc} {ys : List Int} (h : PL H l ps) (e : H v = some (.lst (ys.map L2.V.int))) (ne : ys ≠ []) : l ≠ v := fun z => by
  obtain ⟨xs, hl, hP⟩ := h
  rw [z, e] at hl
  cases hl
  cases ys with
  | nil => exact ne rfl
  | cons y ys =>
    cases hP with
    | cons i _ =>
      obtain ⟨_, _, e, _⟩ := i
      cases e
theorem PL.upd_ints {H : Hp} {l v : Addr} {ps : List Pc} {ys : List Int} {o : HO} (h : PL H l ps) (e : H v = some (.lst (ys.map L2.V.int))) (ne : ys ≠ []) : PL (upd H v o) l ps := by
  have n := h.ne_ints e ne
  obtain ⟨xs, hl, hP⟩ := h
  exact ⟨xs, by rw [upd_ne n]; exact hl, hP.updL e⟩
theorem Tx.upd_ints {C : Addr} {H : Hp} {x v : Addr} {m : Nat} {done : List Pc} {ys : List Int} {o : HO} (h : Tx C H x m done) (e : H v = some (.lst (ys.map L2.V.int))) (ne : ys ≠ []) : Tx C (upd H v o) x m done := by
  obtain ⟨dx, l, hx, r⟩ := h
  refine ⟨dx, l, ?_, r.upd_ints e ne⟩
  rw [upd_ne (ne_of hx e (by intro z; cases z))]
  exact hx
abbrev sGood : Stmt := top 65
abbrev nGood : List Str := ["_law_generator_here", "_law_many", "_law_pieces_here", "_law_text", "_law_at", "_law_near", "_law_given", "_law_bound", "_law_far", "_law_point"]
theorem scGood : FnScope nGood ["_law_generator_here", "_law_many", "_law_pieces_here"] (defScope sGood) := ⟨rfl, rfl, rfl, by decide +kernel, rfl, by decide +kernel, by decide +kernel⟩
def spGood : Sp := fun vs H Q _ => ∃ (m n : Nat) (g pl : Addr) (ps : List Pc), vs = [.ref g, .int m, .ref pl] ∧ m ≤ 3 ∧ PL H pl ps ∧ (∀ p ∈ ps, Pk m p) ∧ ps.length ≤ 5 ∧ Dr H g n ∧ n ≤ 100000 ∧ ∀ H', But H H' g → Q (.bl true) H'
/-- what stands while the points are tried -/
structure GS (C : Addr) (H H' : Hp) (g pl x gv nr fr lq : Addr) (n m : Nat) (ps done : List Pc) (near far gs : List Int) : Prop where
  bt : But H H' g
  dr : Dr H' g n
  hL : PL H' pl ps
  hx : Tx C H' x m done
  hn : H' nr = some (.lst (near.map L2.V.int))
  hf : H' fr = some (.lst (far.map L2.V.int))
  hq : H' lq = some (.lst [.ref nr, .ref fr, .ref nr])
  hg : H' gv = some (.lst (gs.map L2.V.int))
theorem GS.keep {C : Addr} {H H' H2 : Hp} {g pl x gv nr fr lq : Addr} {n m : Nat} {ps done : List Pc} {near far gs : List Int} (h : GS C H H' g pl x gv nr fr lq n m ps done near far gs) (s : Same H' H2) : GS C H H2 g pl x gv nr fr lq n m ps done near far gs :=
  ⟨h.bt.trans (Same.but s), dr_same h.dr s, h.hL.keep s, h.hx.keep s, s _ _ h.hn, s _ _ h.hf, s _ _ h.hq, s _ _ h.hg⟩
section
variable {P : Program} {w : World} {K : PySem.W.Frag} {mg : Str → Option Value} {base : Heap} {f : Addr} {fd : FuncData} {C : Addr}
theorem ok_good (F : FnP K "_law_good" sGood f fd) (o_mk : OkMkT P w K mg base C) (o_fg : OkG P w K mg base "_law_forms_good" 5 ["_law_many", "_law_pieces_here", "_law_text"] (spFG C)) (o_wg : Ok P w K mg base "_law_written_good" 6 ["_law_pieces_here", "_law_text", "_law_point"] (spWG C))
    (o_lg : Ok P w K mg base "_law_letters_good" 6 ["_law_generator_here", "_law_pieces_here", "_law_text", "_law_point"] (spLG C)) (o_rand : Ok P w K mg base "_law_random" 2 ["_law_generator_here", "_law_bound"] spRand) (z_list : mg "list" = none) (z_range : mg "range" = none) :
    FnG P w K mg base CX0 8 f fd ["_law_generator_here", "_law_many", "_law_pieces_here"] spGood := by
  have nd := scGood.nd
  refine okG F scGood (fun vs H Q E h => ?_) (fun cdv A outer s H vs Q E ag hr h => ?_)
  · obtain ⟨m, n, g, pl, ps, rfl, _⟩ := h
    rfl
  · obtain ⟨m, n, g, pl, ps, rfl, hm, hL, hk, l5, dr, hn, q⟩ := h
    have szl := sizeLine_eq
    have hu := hr.units
    have r7 : Room 7 (A.deeper (envOfC "_law_good" (defScope sGood) s.heap.objs.size f cdv)) := hr
    have r6 := r7.mono (by decide : 6 ≤ 7)
    have r5 := r7.mono (by decide : 5 ≤ 7)
    have r2 := r7.mono (by decide : 2 ≤ 7)
    refine ⟨_, PSs.nox (pss_cons (ps_set (i := 3) nd rfl (Or.inl rfl) (pe_mkT o_mk r7 (by rfl) (pv 1) (pe_callTy call_list_of (by rfl) z_list (by decide +kernel) (pa_cons (pv 2) pa_nil))))
      (pss_cons (ps_if (pt_not (pt_val (pe_callG o_fg ag r5 (by rfl) (pa_cons (pv 1) (pa_cons (pv 2) (pa_cons (pv 3) pa_nil)))))) (pss_one (ps_ret pe_bl)) pss_nil)
      (C8.pss_cut (ps_par (i := 5) (j := 6) rfl nd rfl rfl (by decide) rfl rfl (pa_cons (pe_lc (own := [("_law_at", 4)]) (g := gName 4) (by rfl) nd (pi_range1 (by rfl) z_range (pa_cons (pv 1) pa_nil)) (blkOk_by (N := nGood) (sc := defScope sGood) (own := [("_law_at", 4)]) (by decide +kernel)) (fun _ _ _ _ _ => pg_name (i := 4) nd rfl (Or.inl rfl)) (fun _ _ _ _ _ => pts_nil)
          (fun _ _ _ _ _ => pe_callO o_rand r2 (by rfl) (pa_cons (pv 0) (pa_cons pe_int pa_nil)))) (pa_cons (pe_op op_rep (pe_lst (pa_cons pe_int pa_nil)) (pv 1)) pa_nil)) (by rfl))
      (pss_cons (ps_set (i := 7) nd rfl (Or.inr rfl) (pe_ix ix_list (pe_lst (pa_cons (pe_op op_pow pe_int pe_int) (pa_cons (pe_op op_pow pe_int pe_int) pa_nil))) (pe_callO o_rand r2 (by rfl) (pa_cons (pv 0) (pa_cons pe_int pa_nil))) (fun _ _ => rfl)))
      (pss_cons (ps_setLc (i := 8) (own := [("_law_at", 4)]) (g := gName 4) (by rfl) nd rfl rfl (sw_true rfl rfl rfl (by decide +kernel)) (pi_range1 (by rfl) z_range (pa_cons (pv 1) pa_nil)) (blkOk_by (N := nGood) (sc := defScope sGood) (own := [("_law_at", 4)]) (by decide +kernel)) (fun _ _ _ _ _ => pg_name (i := 4) nd rfl (Or.inl rfl)) (fun _ _ _ _ _ => pts_nil)
          (fun _ _ _ _ _ => pe_callO o_rand r2 (by rfl) (pa_cons (pv 0) (pa_cons (pv 7) pa_nil))))
      (pss_cons (ps_for PassesOwn.never rfl (pi_list (pe_lst (pa_cons (pv 5) (pa_cons (pv 8) (pa_cons (pv 5) pa_nil))))) (pg_name (i := 9) nd rfl (Or.inl rfl))
        (C8.pss_cut (ps_for PassesOwn.never rfl (pi_range1 (by rfl) z_range (pa_cons (pv 1) pa_nil)) (pg_name (i := 4) nd rfl (Or.inl rfl)) (pss_one (ps_asg (pe_ix ix_list (pv 9) (pv 4) (fun _ _ => rfl)) (pg_sub (pv 6) (pv 4) set_list))))
        (pss_one (ps_if (PW.pt (pw_or (pt_not (pt_val (pe_callO o_wg r6 (by rfl) (pa_cons (pv 2) (pa_cons (pv 3) (pa_cons (pv 6) pa_nil)))))) (pw_or (pt_not (pt_val (pe_callO o_lg r6 (by rfl) (pa_cons (pv 0) (pa_cons (pv 2) (pa_cons (pv 3) (pa_cons (pv 6) pa_nil))))))) (pw_or1 (pt_cmpR (op_neD hu) (pv 6) (pv 9) (nomark _)))))) (pss_one (ps_ret pe_bl)) pss_nil))))
      (pss_one (ps_ret pe_bl)))))))), ?_⟩
    obtain ⟨xs, hp, hP⟩ := id hL
    have eM : ((m : Nat) : Int).toNat = m := by omega
    refine ⟨_, rfl, _, rfl, pl, xs, rfl, .inl (SqL.of hp), fun l1 nl1 => ?_⟩
    have s1 := same_new (o := .lst xs) nl1
    refine ⟨m, l1, ps, rfl, rfl, hm, ⟨xs, upd_same, hP.keep s1⟩, pks_ps hk l5, pks_meas hk l5, fun H2 x done s2 nx hx ni ld dn => ?_⟩
    have S2 := s1.trans s2
    have l90 : done.length ≤ 90 := by omega
    refine ⟨_, rfl, _, rfl, _, rfl, m, pl, x, ps, done, rfl, hm, hL.keep S2, hk, l5, hx, ni, dn, l90, fun H3 s3 => ⟨true, rfl, iteF ?_⟩⟩
    have S3 := S2.trans s3
    have hL3 := hL.keep S3
    have hx3 := hx.keep s3
    have d3 := dr_same dr S3
    clear hP hp s1 s2 S2 hx nx nl1 s3
    -- the near point, and what is handed in
    refine ⟨fun σ' H' => ∃ (nr gv : Addr) (near : List Int), σ' = [some (.ref g), some (.int m), some (.ref pl), some (.ref x), none, some (.ref nr), some (.ref gv), none, none, none] ∧ But H H' g ∧ Dr H' g (n + 100) ∧ PL H' pl ps ∧ Tx C H' x m done ∧ near.length = m ∧ (∀ y ∈ near, Sz 400 y) ∧
      H' nr = some (.lst (near.map V.int)) ∧ H' gv = some (.lst ((List.replicate m (0 : Int)).map V.int)) ∧ nr ≠ gv ∧ nr ≠ g ∧ gv ≠ g ∧ H gv = none, ?_, ?_⟩
    · refine ⟨_, rfl, (m : Int), rfl, by omega, by omega, fun D nD => ?_⟩
      rw [eM]
      have gD := dr_neK d3 nD
      refine lc_range (lo := 0) (n := m) (fun i H' => But H3 H' g ∧ Dr H' g (n + 20 * i) ∧ ∃ is : List Int, is.length = i ∧ (∀ y ∈ is, Sz 400 y) ∧ H' D = some (.lst (is.map V.int))) ⟨Same.but (same_new nD), dr_newK d3 nD, [], rfl, (fun y hy => by cases hy), upd_same⟩ ?_ ?_
      · rintro i H' hi ⟨bt, dd, is, li, hs, hD⟩
        refine ⟨rfl, ?_⟩
        refine ⟨_, rfl, g, n + 20 * i, 4, rfl, dd, by omega, by decide, by decide +kernel, fun H5 v v0 v1 bt5 d5 => ?_⟩
        have hD5 := bt5 _ _ (Ne.symm gD) hD
        refine ⟨_, hD5, ?_, fun b o nb e => ?_, (dr_updK d5 gD).mono (by omega), is ++ [v], by rw [List.length_append, li]; rfl, fun y hy => ?_, ?_⟩
        · rw [List.length_map]
          exact small1000 (by omega)
        · rw [upd_ne (ne_of_none (H := H3) e nD)]
          exact bt5 _ _ nb (bt _ _ nb e)
        · rcases List.mem_append.mp hy with h | h
          · exact hs y h
          · rw [List.mem_singleton.mp h]
            exact ⟨v0, Int.lt_trans v1 (by decide +kernel)⟩
        · rw [upd_same, List.map_append]
          rfl
      · rintro H4 ⟨bt4, d4, near, ln, hs, hD⟩
        refine ⟨(by show 1 ≤ sizeLine; omega), fun i0 ni0 => ⟨_, rfl, i0, (m : Int), _, rfl, rfl, upd_same, by omega, by omega, (by show 1 * m ≤ sizeLine; omega), fun gv ngv => ?_⟩⟩
        have s5 := same_new (o := .lst [.int 0]) ni0
        have s6 := same_new (o := .lst (List.replicate m [V.int 0]).flatten) ngv
        have S := s5.trans s6
        have hD6 := S _ _ hD
        have d6 := dr_same d4 S
        have B6 : But H _ g := ((Same.but S3).trans bt4).trans (Same.but S)
        have ngv0 : H gv = none := by
          cases e : H gv with
          | none => rfl
          | some o =>
            have B5 : But H (upd H4 i0 (.lst [.int 0])) g := ((Same.but S3).trans bt4).trans (Same.but s5)
            by_cases c : gv = g
            · obtain ⟨_, _, _, e2, _⟩ := dr_same d4 s5
              rw [c, e2] at ngv
              cases ngv
            · have := B5 _ _ c e
              rw [ngv] at this
              cases this
        exact ⟨_, _, rfl, D, gv, near, rfl, B6, d6.mono (by omega), (hL3.but d3 bt4).keep S, (hx3.but d3 bt4).keep S, ln, hs, hD6, by rw [← rep_flat]; exact upd_same, ne_of_none (s5 _ _ hD) ngv, Ne.symm gD, Ne.symm (dr_neK (dr_same d4 s5) ngv), ngv0⟩
    rintro σ' H4 ⟨nr, gv, near, rfl, bt4, d4, hL4, hx4, ln, sn, hnr, hgv, nrgv, nrg, gvg, ngv0⟩
    -- the bound
    refine ⟨_, _, rfl, rfl, ⟨by decide, by decide, by decide⟩, _, _, rfl, rfl, ⟨by decide, by decide, by decide⟩, (by show 2 ≤ sizeLine; omega), fun lb nlb => ?_⟩
    have s5 := same_new (o := .lst [.int ((10 : Int) ^ (4 : Int).toNat), .int ((10 : Int) ^ (29 : Int).toNat)]) nlb
    have d5 := dr_same d4 s5
    have glb := dr_neK d4 nlb
    refine ⟨_, rfl, g, n + 100, 2, rfl, d5, by omega, by decide, by decide +kernel, fun H6 r r0 r2' bt6 d6 => ?_⟩
    have hlb := bt6 _ _ (Ne.symm glb) (upd_same (H := H4) (a := lb) (o := .lst [.int ((10 : Int) ^ (4 : Int).toNat), .int ((10 : Int) ^ (29 : Int).toNat)]))
    obtain ⟨B, eB, B0, B1⟩ : ∃ B : Int, atI [V.int ((10 : Int) ^ (4 : Int).toNat), .int ((10 : Int) ^ (29 : Int).toNat)] r = some (.int B) ∧ 0 < B ∧ B ≤ 10 ^ 29 := by
      have e : r = 0 ∨ r = 1 := by omega
      rcases e with rfl | rfl
      · exact ⟨_, rfl, by decide +kernel, by decide +kernel⟩
      · exact ⟨_, rfl, by decide +kernel, by decide +kernel⟩
    have B100 : B < 10 ^ 100 := Int.lt_of_le_of_lt B1 (by decide +kernel)
    refine ⟨lb, _, r, _, rfl, rfl, SqL.of hlb, eB, ?_⟩
    have BT6 := (bt4.trans (Same.but s5)).trans bt6
    have hL6 := (hL4.keep s5).but d5 bt6
    have hx6 := (hx4.keep s5).but d5 bt6
    have hnr6 := bt6 _ _ nrg (s5 _ _ hnr)
    have hgv6 := bt6 _ _ gvg (s5 _ _ hgv)
    clear hnr hgv hL4 hx4 bt4 d4 s5 d5 bt6 hlb
    -- the far point
    refine ⟨_, rfl, (m : Int), rfl, by omega, by omega, fun D nD => ?_⟩
    rw [eM]
    have gD := dr_neK d6 nD
    refine lc_range (lo := 0) (n := m) (fun i H' => But H6 H' g ∧ Dr H' g (n + 120 + 20 * i) ∧ ∃ is : List Int, is.length = i ∧ (∀ y ∈ is, Sz 400 y) ∧ H' D = some (.lst (is.map V.int))) ⟨Same.but (same_new nD), (dr_newK d6 nD).mono (by omega), [], rfl, (fun y hy => by cases hy), upd_same⟩ ?_ ?_
    · rintro i H' hi ⟨bt, dd, is, li, hs, hD⟩
      refine ⟨rfl, ?_⟩
      refine ⟨_, rfl, _, rfl, g, n + 120 + 20 * i, B, rfl, dd, by omega, B0, B100, fun H5 v v0 v1 bt5 d5 => ?_⟩
      have hD5 := bt5 _ _ (Ne.symm gD) hD
      refine ⟨_, hD5, ?_, fun b o nb e => ?_, (dr_updK d5 gD).mono (by omega), is ++ [v], by rw [List.length_append, li]; rfl, fun y hy => ?_, ?_⟩
      · rw [List.length_map]
        exact small1000 (by omega)
      · rw [upd_ne (ne_of_none (H := H6) e nD)]
        exact bt5 _ _ nb (bt _ _ nb e)
      · rcases List.mem_append.mp hy with h | h
        · exact hs y h
        · rw [List.mem_singleton.mp h]
          exact ⟨v0, Int.lt_trans (Int.lt_of_lt_of_le v1 B1) (by decide +kernel)⟩
      · rw [upd_same, List.map_append]
        rfl
    rintro H7 ⟨bt7, d7, far, lf, sf, hD7⟩
    have hnr7 := bt7 _ _ nrg hnr6
    have hgv7 := bt7 _ _ gvg hgv6
    have gvD : gv ≠ D := ne_of_none hgv6 nD
    -- point by point
    refine ⟨_, rfl, _, rfl, _, rfl, (by show 3 ≤ sizeLine; omega), fun lq nlq => ?_⟩
    have s8 := same_new (o := .lst [.ref nr, .ref D, .ref nr]) nlq
    have gvlq : gv ≠ lq := ne_of_none hgv7 nlq
    have st8 : GS C H (upd H7 lq (.lst [.ref nr, .ref D, .ref nr])) g pl x gv nr D lq (n + 200) m ps done near far (List.replicate m 0) :=
      ⟨(BT6.trans bt7).trans (Same.but s8), (dr_same d7 s8).mono (by omega), (hL6.but d6 bt7).keep s8, (hx6.but d6 bt7).keep s8, s8 _ _ hnr7, s8 _ _ hD7, upd_same, s8 _ _ hgv7⟩
    generalize upd H7 lq (.lst [.ref nr, .ref D, .ref nr]) = H8 at *
    refine ⟨lq, rfl, ⟨_, SqL.of st8.hq⟩, for_list (K := K) (a := lq) (xs := [V.ref nr, .ref D, .ref nr]) (fun i σ H' => ∃ (gs : List Int) (x4 x9 : Option L2.V), gs.length = m ∧ GS C H H' g pl x gv nr D lq (n + 200 + 100 * i) m ps done near far gs ∧ σ = [some (.ref g), some (.int m), some (.ref pl), some (.ref x), x4, some (.ref nr), some (.ref gv), some (.int B), some (.ref D), x9])
      ⟨List.replicate m 0, _, _, List.length_replicate, st8, rfl⟩ (fun i σ H' _ z => by
        obtain ⟨gs, x4, x9, _, st, _⟩ := z
        exact SqL.of st.hq) ?_ ?_⟩
    · rintro i y σ H9 hi ⟨gs0, x4, x9, lgs, st9, rfl⟩
      have li : i < 3 := (List.getElem?_eq_some_iff.mp hi).1
      obtain ⟨pa, pt, rfl, lpt, spt, hpt, pagv, pag⟩ : ∃ (pa : Addr) (pt : List Int), y = .ref pa ∧ pt.length = m ∧ (∀ y ∈ pt, Sz 400 y) ∧ (∀ H' n' gs, GS C H H' g pl x gv nr D lq n' m ps done near far gs → H' pa = some (.lst (pt.map V.int))) ∧ pa ≠ gv ∧ pa ≠ g := by
        have e : i = 0 ∨ i = 1 ∨ i = 2 := by omega
        rcases e with rfl | rfl | rfl
        · cases hi
          exact ⟨nr, near, rfl, ln, sn, fun _ _ _ z => z.hn, nrgv, nrg⟩
        · cases hi
          exact ⟨D, far, rfl, lf, sf, fun _ _ _ z => z.hf, Ne.symm gvD, Ne.symm gD⟩
        · cases hi
          exact ⟨nr, near, rfl, ln, sn, fun _ _ _ z => z.hn, nrgv, nrg⟩
      refine ⟨fun σ' H' => ∃ x4 : Option L2.V, GS C H H' g pl x gv nr D lq (n + 200 + 100 * i) m ps done near far pt ∧ σ' = [some (.ref g), some (.int m), some (.ref pl), some (.ref x), x4, some (.ref nr), some (.ref gv), some (.int B), some (.ref D), some (.ref pa)], ?_, ?_⟩
      · refine ⟨_, rfl, (m : Int), rfl, by omega, by omega, ?_⟩
        rw [eM]
        refine for_range (lo := 0) (n := m) (fun j σ H' => ∃ (gs : List Int) (x4 : Option L2.V), gs.length = m ∧ (∀ k, k < j → gs[k]? = pt[k]?) ∧ GS C H H' g pl x gv nr D lq (n + 200 + 100 * i) m ps done near far gs ∧ σ = [some (.ref g), some (.int m), some (.ref pl), some (.ref x), x4, some (.ref nr), some (.ref gv), some (.int B), some (.ref D), some (.ref pa)])
          ⟨gs0, _, lgs, fun k hk => absurd hk (by omega), st9, rfl⟩ ?_ ?_
        · rintro j σ H' hj ⟨gs, x4, lg, pre, st, rfl⟩
          rw [Int.zero_add]
          have ept : pt[j]? = some pt[j] := List.getElem?_eq_getElem (by omega)
          have at9 : atI (pt.map V.int) (j : Int) = some (V.int pt[j]) := atI_nat (by rw [List.getElem?_map, ept]; rfl)
          have gne : gs ≠ [] := fun z => by
            rw [z] at lg
            have : (0 : Nat) = m := lg
            omega
          have hix : ixN ((gs.map V.int).length) (j : Int) = some j := Evl.ixN_nat (by rw [List.length_map]; omega)
          refine ⟨_, rfl, _, rfl, pa, _, _, _, rfl, rfl, SqL.of (hpt _ _ _ st), at9, _, rfl, _, rfl, gv, _, _, j, rfl, rfl, st.hg, hix, ?_⟩
          refine ⟨gs.set j pt[j], _, by rw [List.length_set, lg], fun k hk => ?_, ⟨fun b o nb e => ?_, dr_updK st.dr (Ne.symm gvg), st.hL.upd_ints st.hg gne, st.hx.upd_ints st.hg gne, ?_, ?_, ?_, ?_⟩, rfl⟩
          · by_cases c : k = j
            · rw [c, List.getElem?_set_self (by omega), ept]
            · rw [List.getElem?_set_ne (by omega)]
              exact pre k (by omega)
          · rw [upd_ne (ne_of_none e ngv0)]
            exact st.bt _ _ nb e
          · rw [upd_ne nrgv]
            exact st.hn
          · rw [upd_ne (Ne.symm gvD)]
            exact st.hf
          · rw [upd_ne (Ne.symm gvlq)]
            exact st.hq
          · rw [upd_same, List.map_set]
        · rintro σ H' ⟨gs, x4, lg, pre, st, rfl⟩
          have e : gs = pt := by
            apply List.ext_getElem?
            intro k
            by_cases c : k < m
            · exact pre k c
            · rw [List.getElem?_eq_none (by omega), List.getElem?_eq_none (by omega)]
          subst e
          exact ⟨x4, st, rfl⟩
      · rintro σ' H10 ⟨x4', st, rfl⟩
        have hw : WG C H10 pl x gv m ps done pt := ⟨st.hL, hk, l5, st.hx, ni, dn, l90, hm, st.hg, lpt, spt⟩
        refine ⟨_, rfl, _, rfl, _, rfl, m, pl, x, gv, ps, done, pt, rfl, hw, fun H11 s11 => ⟨true, rfl, iteF ?_⟩⟩
        have st11 := st.keep s11
        refine ⟨_, rfl, _, rfl, _, rfl, _, rfl, m, n + 200 + 100 * i, g, pl, x, gv, ps, done, pt, rfl, hw.keep s11, gvg, st11.dr, by omega, fun H12 bt12 d12 => ⟨true, rfl, iteF ?_⟩⟩
        have st12 : GS C H H12 g pl x gv nr D lq (n + 200 + 100 * (i + 1)) m ps done near far pt :=
          ⟨st11.bt.trans bt12, d12.mono (by omega), st11.hL.but st11.dr bt12, st11.hx.but st11.dr bt12, bt12 _ _ nrg st11.hn, bt12 _ _ (Ne.symm gD) st11.hf, bt12 _ _ (fun z => by
            have h1 := st11.hq
            obtain ⟨_, _, _, e2, _⟩ := st11.dr
            rw [z, e2] at h1
            cases h1) st11.hq, bt12 _ _ gvg st11.hg⟩
        refine ⟨_, rfl, _, rfl, _, _, .lst (SqL.of st12.hg) (dp_ints pt), .lst (SqL.of (hpt _ _ _ st12)) (dp_ints pt), shaped_lst _, shaped_lst _, ?_⟩
        rw [SeqAt.eqv_refl _ (SeqAt.canLay_of_shaped (shaped_lst _))]
        exact ⟨false, rfl, iteF ⟨pt, _, _, lpt, st12, rfl⟩⟩
    · rintro σ H9 ⟨gs, x4, x9, lgs, st9, rfl⟩
      exact q H9 st9.bt
end
end K4
set_option Elab.async false
set_option linter.all false
set_option maxRecDepth 100000
set_option maxHeartbeats 4000000
namespace K4
open PySem PySem.Spec PyProof.Rows L2 XV NP
abbrev sCaught : Stmt := top 66
abbrev sOnly : Stmt := top 67
abbrev sRefused : Stmt := top 68
abbrev nCaught : List Str := ["_law_which", "_law_given", "_law_error", "e", "_law_kinds"]
theorem scCaught : FnScope nCaught ["_law_which", "_law_given"] (defScope sCaught) := ⟨rfl, rfl, rfl, by decide +kernel, rfl, by decide +kernel, by decide +kernel⟩
theorem scOnly : FnScope ["_law_place", "_law_bad", "_law_at"] ["_law_place", "_law_bad"] (defScope sOnly) := ⟨rfl, rfl, rfl, by decide +kernel, rfl, by decide +kernel, by decide +kernel⟩
theorem scRefused : FnScope ["_law_text", "_law_bad", "_law_which"] ["_law_text"] (defScope sRefused) := ⟨rfl, rfl, rfl, by decide +kernel, rfl, by decide +kernel, by decide +kernel⟩
/-! ### of data -/
def cntD : PyData → Bool
  | .int i => decide (0 ≤ i)
  | _ => false
def belD (b : Int) : PyData → Bool
  | .int i => decide (0 ≤ i) && decide (i < b)
  | _ => false
def pointD (m : Nat) : PyData → Bool
  | .list ds => decide (ds.length = m) && ds.all cntD
  | _ => false
def letD : PyData → Bool
  | .str z => lowS z && decide (z.length = 1)
  | _ => false
def shortD : PyData → Bool
  | .tuple ds => decide (ds.length ≤ 100)
  | .list ds => decide (ds.length ≤ 100)
  | .str z => decide (z.length ≤ 1000)
  | _ => true
def noBool : PyData → Bool
  | .bool _ => false
  | _ => true
theorem da_kn {H : Hp} {v : L2.V} {d : PyData} (h : Da H v d) : Kn H v := by
  cases h with
  | non => exact .non
  | bl b => exact .bl b
  | int i => exact .int i
  | str x => exact .str x
  | lst h _ => exact .lst h
  | tup h _ => exact .tup h
theorem da_cnt {H : Hp} {v : L2.V} {d : PyData} (h : Da H v d) : cntV v = cntD d := by cases h <;> rfl
theorem da_bel {H : Hp} {v : L2.V} {d : PyData} (b : Int) (h : Da H v d) : belV b v = belD b d := by cases h <;> rfl
theorem da_let {H : Hp} {v : L2.V} {d : PyData} (h : Da H v d) : letV v = letD d := by cases h <;> rfl
theorem da_len {H : Hp} {v : L2.V} {d : PyData} (h : Da H v d) (s : shortD d = true) : ∀ z, v = .str z → z.length ≤ 1000 := fun z e => by
  subst e
  cases h with
  | str x => exact of_decide_eq_true s
theorem daAll_cnt {H : Hp} : ∀ {ds : List PyData} {vs : List L2.V}, DaAll H vs ds → vs.all cntV = ds.all cntD
  | _, _, .nil => rfl
  | _, _, .cons h r => by rw [List.all_cons, List.all_cons, da_cnt h, daAll_cnt r]
theorem daAll_kn {H : Hp} : ∀ {ds : List PyData} {vs : List L2.V}, DaAll H vs ds → ∀ x ∈ vs, Kn H x
  | _, _, .nil, x, hx => by cases hx
  | _, _, .cons h r, x, hx => by
    rcases List.mem_cons.mp hx with rfl | hx
    · exact da_kn h
    · exact daAll_kn r x hx
theorem da_isP {H : Hp} {v : L2.V} {d : PyData} (m : Nat) (h : Da H v d) (s : shortD d = true) : IsP H m v (pointD m d) := by
  cases h with
  | non => exact .inr ⟨.inr (.inr (.inl rfl)), rfl⟩
  | bl b => exact .inr ⟨.inr (.inr (.inr (.inl ⟨b, rfl⟩))), rfl⟩
  | int i => exact .inr ⟨.inr (.inl ⟨i, rfl⟩), rfl⟩
  | str x => exact .inr ⟨.inr (.inr (.inr (.inr ⟨x, rfl⟩))), rfl⟩
  | tup h _ => exact .inr ⟨.inl ⟨_, _, rfl, h⟩, rfl⟩
  | @lst a xs ds h r =>
    have l := r.length
    refine .inl ⟨a, xs, rfl, h, ?_, daAll_kn r, ?_⟩
    · rw [l]
      exact of_decide_eq_true s
    · show (decide (ds.length = m) && ds.all cntD) = _
      rw [l, daAll_cnt r]
theorem da_noT {K : PySem.W.Frag} {H : Hp} {v : L2.V} {d : PyData} (h : Da H v d) (s : noBool d = true) : NoT K H v := by
  cases h with
  | non => exact ⟨"NoneType", by simp [tys], .base .non⟩
  | bl b => cases s
  | int i => exact ⟨"int", by simp [tys], .base (.int i)⟩
  | str x => exact ⟨"str", by simp [tys], .base (.str x)⟩
  | lst h _ => exact ⟨"list", by simp [tys], .base (.lst h)⟩
  | tup h _ => exact ⟨"tuple", by simp [tys], .base (.tup h)⟩
theorem NoT.keep {K : PySem.W.Frag} {H H' : Hp} {v : L2.V} (h : ∀ T, TyX K H v (.type T) → TyX K H' v (.type T)) (n : NoT K H v) : NoT K H' v := by
  obtain ⟨T, hT, ty⟩ := n
  exact ⟨T, hT, h T ty⟩
theorem da_ints {H : Hp} : ∀ (l : List Int) (vs : List L2.V), DaAll H vs (l.map PyData.int) → vs = l.map L2.V.int
  | [], _, .nil => rfl
  | x :: l, _, .cons (.int _) r => congrArg (L2.V.int x :: ·) (da_ints l _ r)
theorem da_lst {H : Hp} {v : L2.V} (l : List Int) (h : Da H v (.list (l.map PyData.int))) : ∃ a, v = .ref a ∧ H a = some (.lst (l.map L2.V.int)) := by
  cases h with
  | @lst a xs _ h r => exact ⟨a, rfl, by rw [h, da_ints l xs r]⟩
theorem da_tup {H : Hp} {v : L2.V} (l : List Int) (h : Da H v (.tuple (l.map PyData.int))) : ∃ a, v = .ref a ∧ H a = some (.tup (l.map L2.V.int)) := by
  cases h with
  | @tup a xs _ h r => exact ⟨a, rfl, by rw [h, da_ints l xs r]⟩
def kindsD (j : Nat) (d : PyData) : PyData := .list [.list [.bool (decide (j = 0)), .bool (decide (j = 1)), .bool (decide (j = 2)), .bool (decide (j = 3))], .str d.shown]
/-- data whose repr is to be had -/
def okD (d : PyData) : Bool := d.showable && (!d.hasDict && (decide (d.depth ≤ 60) && (decide (d.shown.length ≤ 100000) && PyData.strOk d.shown)))
theorem okD_ok {d : PyData} (h : okD d = true) : d.showable = true ∧ d.hasDict = false ∧ d.depth ≤ 60 ∧ d.shown.length ≤ sizeLine ∧ PyData.strOk d.shown = true := by
  unfold okD at h
  simp only [Bool.and_eq_true, Bool.not_eq_true', decide_eq_true_eq] at h
  obtain ⟨h1, h2, h3, h4, h5⟩ := h
  exact ⟨h1, h2, h3, by rw [sizeLine_eq]; omega, h5⟩
theorem kinds_lay (j : Nat) {d : PyData} (h : okD d = true) : (kindsD j d).canLay0 = true := by simp [kindsD, PyData.canLay0, PyData.canLayAll0, (okD_ok h).2.2.2.2]
theorem kinds_shaped (j : Nat) {d : PyData} (h : okD d = true) : SeqAt.shaped (kindsD j d) = true := by
  have e : (kindsD j d).depth ≤ 64 := by simp [kindsD, PyData.depth, PyData.depthAll]
  unfold SeqAt.shaped
  rw [kinds_lay j h, decide_eq_true e]
  rfl
/-- what is refused: the class j, with the value v -/
inductive Ask (K : PySem.W.Frag) (C : Addr) (H : Hp) : Nat → List L2.V → Nat → L2.V → Prop
  | w0 {u v : L2.V} {r : List L2.V} : NoT K H u → Ask K C H 0 (u :: v :: r) 0 u
  | t0 {u v w : L2.V} {r : List L2.V} : NoT K H u → Ask K C H 1 (u :: v :: w :: r) 0 u
  | l0 {u v : L2.V} {r : List L2.V} : NoT K H u → Ask K C H 2 (u :: v :: r) 0 u
  | n0 {u : L2.V} {r : List L2.V} : NoT K H u → Ask K C H 3 (u :: r) 0 u
  | w1 {x : Addr} {m : Nat} {done : List Pc} {v : L2.V} {r : List L2.V} : Tx C H x m done → IsP H m v false → Ask K C H 0 (.ref x :: v :: r) 1 v
  | t1 {x : Addr} {m : Nat} {done : List Pc} {v w : L2.V} {r : List L2.V} : Tx C H x m done → IsP H m v false → Ask K C H 1 (.ref x :: v :: w :: r) 1 v
  | l2 {x : Addr} {m : Nat} {done : List Pc} {v : L2.V} {r : List L2.V} : Tx C H x m done → Kn H v → (∀ z, v = .str z → z.length ≤ 1000) → letV v = false → Ask K C H 2 (.ref x :: v :: r) 2 v
  | t3 {x bp : Addr} {m : Nat} {done : List Pc} {ys : List Int} {v : L2.V} {r : List L2.V} : Tx C H x m done → Gd H (.ref bp) bp ys m done → IsP H m (.ref bp) true → Kn H v → belV (lenR (done.map (rn ys))) v = false → Ask K C H 1 (.ref x :: .ref bp :: v :: r) 3 v
def spCaught (K : PySem.W.Frag) (C : Addr) : Sp := fun vs H Q _ => ∃ (wh : Nat) (ga : Addr) (as_ : List L2.V) (j : Nat) (v : L2.V) (d : PyData), vs = [.int wh, .ref ga] ∧ H ga = some (.lst as_) ∧ Ask K C H wh as_ j v ∧ Da H v d ∧ okD d = true ∧
  ∀ (H' : Hp) (p : Addr), Same H H' → Da H' (.ref p) (kindsD j d) → Q (.ref p) H'
def spOnly : Sp := fun vs H Q _ => ∃ (j : Nat) (v : L2.V) (d : PyData), vs = [.int j, v] ∧ Da H v d ∧ okD d = true ∧ ∀ (H' : Hp) (p : Addr), Same H H' → Da H' (.ref p) (kindsD j d) → Q (.ref p) H'
theorem int_ne {x y : Nat} (h : x ≠ y) : ¬ decide (V.int (x : Int) = V.int (y : Int)) = true := fun c => h (by have := V.int.inj (of_decide_eq_true c); omega)
theorem look_v (f : Str) (v : L2.V) : List.lookup f [(f, v)] = some v := by simp [List.lookup]
section
variable {P : Program} {w : World} {K : PySem.W.Frag} {mg : Str → Option Value} {base : Heap} {f : Addr} {fd : FuncData} {C : Addr}
theorem ok_caught (F : FnP K "_law_caught" sCaught f fd) (Z : Cl4 P w K mg base) (o_wr : OkX P w K mg base "written" 5 ["text", "point"] (spWritten K C)) (o_tl : OkX P w K mg base "text_letter" 5 ["text", "point", "at"] (spTLetter K C)) (o_lets : OkX P w K mg base "letters" 4 ["text", "letter"] (spLettersT K C)) (o_len : OkX P w K mg base "length" 4 ["text"] (spLength K C))
    (z_isinstance : mg "isinstance" = none) (z_repr : mg "repr" = none) : FnG P w K mg base CX0 6 f fd ["_law_which", "_law_given"] (spCaught K C) := by
  have nd := scCaught.nd
  have g0 : mg "InvalidText" = some (.ref (C4 K 0)) := Z.g 0 (by decide)
  have g1 : mg "InvalidPoint" = some (.ref (C4 K 1)) := Z.g 1 (by decide)
  have g2 : mg "InvalidWord" = some (.ref (C4 K 2)) := Z.g 2 (by decide)
  have g3 : mg "InvalidNumber" = some (.ref (C4 K 3)) := Z.g 3 (by decide)
  have gE : mg "LoopError" = some (.ref (C4 K 5)) := Z.g 5 (by decide)
  refine okG F scCaught (fun vs H Q E h => ?_) (fun cdv A outer s H vs Q E ag hr h => ?_)
  · obtain ⟨wh, ga, as_, j, v, d, rfl, _⟩ := h
    rfl
  · obtain ⟨wh, ga, as_, j, v, d, rfl, hg, ask, hv, od, q⟩ := h
    have hu := hr.units
    have r4 := hr.mono (by decide : 4 ≤ 5)
    have szl := sizeLine_eq
    refine ⟨_, PSs.nox (pss_cons (ps_set (i := 2) nd rfl (Or.inl rfl) pe_non)
      (C8.pss_cut (ps_try_keep (i := 3) rfl rfl rfl nd rfl rfl ⟨by rfl, by decide, .inl gE⟩ takes0
        (fun W pn xe tk _ => pss_one (ps_if (pt_cmpR op_eq (pv 0) pe_int (nomark _))
          (pss_one (ps_expr (pe_callT o_wr tk hr (by rfl) (pa_cons (pe_ix (ix_listK (K := K) rfl) (pv 1) pe_int (fun _ _ => rfl)) (pa_cons (pe_ix (ix_listK (K := K) rfl) (pv 1) pe_int (fun _ _ => rfl)) pa_nil)))))
          (pss_one (ps_if (pt_cmpR op_eq (pv 0) pe_int (nomark _))
            (pss_one (ps_expr (pe_callT o_tl tk hr (by rfl) (pa_cons (pe_ix (ix_listK (K := K) rfl) (pv 1) pe_int (fun _ _ => rfl)) (pa_cons (pe_ix (ix_listK (K := K) rfl) (pv 1) pe_int (fun _ _ => rfl)) (pa_cons (pe_ix (ix_listK (K := K) rfl) (pv 1) pe_int (fun _ _ => rfl)) pa_nil))))))
            (pss_one (ps_if (pt_cmpR op_eq (pv 0) pe_int (nomark _))
              (pss_one (ps_expr (pe_callT o_lets tk r4 (by rfl) (pa_cons (pe_ix (ix_listK (K := K) rfl) (pv 1) pe_int (fun _ _ => rfl)) (pa_cons (pe_ix (ix_listK (K := K) rfl) (pv 1) pe_int (fun _ _ => rfl)) pa_nil)))))
              (pss_one (ps_expr (pe_callT o_len tk r4 (by rfl) (pa_cons (pe_ix (ix_listK (K := K) rfl) (pv 1) pe_int (fun _ _ => rfl)) pa_nil))))))))))
        (fun a oe cls d pn hz hf => pss_one (ps_set (i := 2) nd rfl (Or.inl rfl) (pv 3))))
      (pss_cons (ps_set (i := 4) nd rfl (Or.inl rfl) (pe_lst (pa_cons (pe_callB call_isZ (by rfl) z_isinstance (by decide +kernel) (pa_cons (pv 2) (pa_cons (pe_glob (v := .ref (C4 K 0)) (by rfl) g0 rfl) pa_nil)))
          (pa_cons (pe_callB call_isZ (by rfl) z_isinstance (by decide +kernel) (pa_cons (pv 2) (pa_cons (pe_glob (v := .ref (C4 K 1)) (by rfl) g1 rfl) pa_nil)))
          (pa_cons (pe_callB call_isZ (by rfl) z_isinstance (by decide +kernel) (pa_cons (pv 2) (pa_cons (pe_glob (v := .ref (C4 K 2)) (by rfl) g2 rfl) pa_nil))) pa_nil)))))
      (pss_one (ps_ret (pe_lst (pa_cons (pe_op op_cat (pv 4) (pe_lst (pa_cons (pe_callB call_isZ (by rfl) z_isinstance (by decide +kernel) (pa_cons (pv 2) (pa_cons (pe_glob (v := .ref (C4 K 3)) (by rfl) g3 rfl) pa_nil))) pa_nil)))
        (pa_cons (pe_ifExp (pt_cmp (pc_isN (pv 2))) pe_non (pe_callB (call_reprD ag hu) (by rfl) z_repr (by decide +kernel) (pa_cons (pe_zget (pv 2)) pa_nil))) pa_nil)))))))), ?_⟩
    refine ⟨fun σ' H' => ∃ (a dx : Addr), σ' = [some (.int wh), some (.ref ga), some (.ref a), none, none] ∧ j < 4 ∧ Same H H' ∧ H' a = some (exz a (.ref (C4 K j)) (some dx)) ∧ H' dx = some (.xd [("value", v)]), ?_, ?_⟩
    · -- the call raises: what the clause wishes
      have wish : j < 4 → Rz (WE (wKeep K (.ref (C4 K 5)) 3 (fun a cls d => tAsg (tVar 3) (gName 2)) (fun _ _ _ _ => False)
          { nx := fun σ' H' => ∃ (a dx : Addr), σ' = [some (.int wh), some (.ref ga), some (.ref a), none, none] ∧ j < 4 ∧ Same H H' ∧ H' a = some (exz a (.ref (C4 K j)) (some dx)) ∧ H' dx = some (.xd [("value", v)]), rt := Q })
          [some (.int wh), some (.ref ga), some .non, none, none]) H (C4 K j) v := fun hj H' dx sm nd => by
        refine ⟨true, Z.exm j (by omega), fun _ a na => ?_, fun z => nomatch z⟩
        refine ⟨_, rfl, fun na2 => ⟨a, dx, rfl, hj, (sm.trans (same_new nd)).trans (same_new na2), upd_same, ?_⟩⟩
        rw [upd_ne (ne_of_none upd_same na2)]
        exact upd_same
      have a0 : ∀ (x : L2.V) (r : List L2.V), atI (x :: r) ((0 : Nat) : Int) = some x := fun x r => atI_nat rfl
      have a1 : ∀ (x y : L2.V) (r : List L2.V), atI (x :: y :: r) ((1 : Nat) : Int) = some y := fun x y r => atI_nat rfl
      have a2 : ∀ (x y z : L2.V) (r : List L2.V), atI (x :: y :: z :: r) ((2 : Nat) : Int) = some z := fun x y z r => atI_nat rfl
      cases ask with
      | @w0 _ v2 r n =>
        refine ⟨_, rfl, rfl, _, rfl, ite2 (fun _ => ?_) (fun c => absurd (decide_eq_true rfl) c)⟩
        exact ⟨_, rfl, ga, _, _, _, rfl, rfl, SqL.of hg, a0 _ _, _, rfl, ga, _, _, _, rfl, rfl, SqL.of hg, a1 _ _ _, v, v2, rfl, .inl ⟨n, wish (by decide)⟩⟩
      | @w1 x m done _ r tx ip =>
        refine ⟨_, rfl, rfl, _, rfl, ite2 (fun _ => ?_) (fun c => absurd (decide_eq_true rfl) c)⟩
        exact ⟨_, rfl, ga, _, _, _, rfl, rfl, SqL.of hg, a0 _ _, _, rfl, ga, _, _, _, rfl, rfl, SqL.of hg, a1 _ _ _, .ref x, v, rfl, .inr ⟨x, m, done, false, rfl, tx, ip, .inl ⟨rfl, wish (by decide)⟩⟩⟩
      | @t0 _ v2 w2 r n =>
        refine ⟨_, rfl, rfl, _, rfl, ite2 (fun c => absurd c (int_ne (x := 1) (y := 0) (by decide))) fun _ => ⟨_, rfl, rfl, _, rfl, ite2 (fun _ => ?_) (fun c => absurd (decide_eq_true rfl) c)⟩⟩
        exact ⟨_, rfl, ga, _, _, _, rfl, rfl, SqL.of hg, a0 _ _, _, rfl, ga, _, _, _, rfl, rfl, SqL.of hg, a1 _ _ _, _, rfl, ga, _, _, _, rfl, rfl, SqL.of hg, a2 _ _ _ _, v, v2, w2, rfl, .inl ⟨n, wish (by decide)⟩⟩
      | @t1 x m done _ w2 r tx ip =>
        refine ⟨_, rfl, rfl, _, rfl, ite2 (fun c => absurd c (int_ne (x := 1) (y := 0) (by decide))) fun _ => ⟨_, rfl, rfl, _, rfl, ite2 (fun _ => ?_) (fun c => absurd (decide_eq_true rfl) c)⟩⟩
        exact ⟨_, rfl, ga, _, _, _, rfl, rfl, SqL.of hg, a0 _ _, _, rfl, ga, _, _, _, rfl, rfl, SqL.of hg, a1 _ _ _, _, rfl, ga, _, _, _, rfl, rfl, SqL.of hg, a2 _ _ _ _, .ref x, v, w2, rfl, .inr ⟨x, m, done, false, rfl, tx, ip, .inl ⟨rfl, wish (by decide)⟩⟩⟩
      | @t3 x bp m done ys _ r tx gd ip kn bl =>
        refine ⟨_, rfl, rfl, _, rfl, ite2 (fun c => absurd c (int_ne (x := 1) (y := 0) (by decide))) fun _ => ⟨_, rfl, rfl, _, rfl, ite2 (fun _ => ?_) (fun c => absurd (decide_eq_true rfl) c)⟩⟩
        exact ⟨_, rfl, ga, _, _, _, rfl, rfl, SqL.of hg, a0 _ _, _, rfl, ga, _, _, _, rfl, rfl, SqL.of hg, a1 _ _ _, _, rfl, ga, _, _, _, rfl, rfl, SqL.of hg, a2 _ _ _ _, .ref x, .ref bp, v, rfl, .inr ⟨x, m, done, true, rfl, tx, ip, .inr ⟨rfl, bp, ys, gd, kn, (fun e => by rw [bl] at e; cases e), fun _ => wish (by decide)⟩⟩⟩
      | @l0 _ v2 r n =>
        refine ⟨_, rfl, rfl, _, rfl, ite2 (fun c => absurd c (int_ne (x := 2) (y := 0) (by decide))) fun _ => ⟨_, rfl, rfl, _, rfl, ite2 (fun c => absurd c (int_ne (x := 2) (y := 1) (by decide))) fun _ => ⟨_, rfl, rfl, _, rfl, ite2 (fun _ => ?_) (fun c => absurd (decide_eq_true rfl) c)⟩⟩⟩
        exact ⟨_, rfl, ga, _, _, _, rfl, rfl, SqL.of hg, a0 _ _, _, rfl, ga, _, _, _, rfl, rfl, SqL.of hg, a1 _ _ _, v, v2, rfl, .inl ⟨n, wish (by decide)⟩⟩
      | @l2 x m done _ r tx kn hl le =>
        refine ⟨_, rfl, rfl, _, rfl, ite2 (fun c => absurd c (int_ne (x := 2) (y := 0) (by decide))) fun _ => ⟨_, rfl, rfl, _, rfl, ite2 (fun c => absurd c (int_ne (x := 2) (y := 1) (by decide))) fun _ => ⟨_, rfl, rfl, _, rfl, ite2 (fun _ => ?_) (fun c => absurd (decide_eq_true rfl) c)⟩⟩⟩
        exact ⟨_, rfl, ga, _, _, _, rfl, rfl, SqL.of hg, a0 _ _, _, rfl, ga, _, _, _, rfl, rfl, SqL.of hg, a1 _ _ _, .ref x, v, rfl, .inr ⟨x, m, done, rfl, tx, kn, hl, .inl ⟨le, wish (by decide)⟩⟩⟩
      | @n0 _ r n =>
        refine ⟨_, rfl, rfl, _, rfl, ite2 (fun c => absurd c (int_ne (x := 3) (y := 0) (by decide))) fun _ => ⟨_, rfl, rfl, _, rfl, ite2 (fun c => absurd c (int_ne (x := 3) (y := 1) (by decide))) fun _ => ⟨_, rfl, rfl, _, rfl, ite2 (fun c => absurd c (int_ne (x := 3) (y := 2) (by decide))) fun _ => ?_⟩⟩⟩
        exact ⟨_, rfl, ga, _, _, _, rfl, rfl, SqL.of hg, a0 _ _, v, rfl, .inl ⟨n, wish (by decide)⟩⟩
    · rintro σ' H1 ⟨a, dx, rfl, hj, sm, ha, hx⟩
      have hj5 : j < 5 := by omega
      have hv := hv.keep sm
      refine ⟨_, rfl, _, _, _, _, _, _, _, rfl, ha, hx, Z.e j hj5, (fun u r => r), Z.kit j hj5 0 (by decide), _, rfl, _, _, _, _, _, _, _, rfl, ha, hx, Z.e j hj5, (fun u r => r), Z.kit j hj5 1 (by decide),
        _, rfl, _, _, _, _, _, _, _, rfl, ha, hx, Z.e j hj5, (fun u r => r), Z.kit j hj5 2 (by decide), (by show 3 ≤ sizeLine; decide), fun l1 n1 => ?_⟩
      have s1 := same_new (o := .lst [.bl (decide (j = 0)), .bl (decide (j = 1)), .bl (decide (j = 2))]) n1
      refine ⟨_, rfl, _, rfl, _, _, _, _, _, _, _, rfl, s1 _ _ ha, s1 _ _ hx, Z.e j hj5, (fun u r => r), Z.kit j hj5 3 (by decide), (by show 1 ≤ sizeLine; decide), fun l2 n2 => ?_⟩
      have s2 := same_new (o := .lst [.bl (decide (j = 3))]) n2
      refine ⟨_, _, _, _, rfl, rfl, s2 _ _ upd_same, upd_same, (by show 3 + 1 ≤ sizeLine; decide), fun l3 n3 => ?_⟩
      have s3 := same_new (o := .lst [.bl (decide (j = 0)), .bl (decide (j = 1)), .bl (decide (j = 2)), .bl (decide (j = 3))]) n3
      have sA := (s1.trans s2).trans s3
      obtain ⟨o1, o2, o3, o4, _⟩ := okD_ok od
      refine ⟨_, rfl, _, rfl, ite2 (fun c => nomatch of_decide_eq_true c) fun _ => ?_⟩
      refine ⟨_, rfl, a, _, dx, _, v, rfl, sA _ _ ha, sA _ _ hx, Z.f j hj5, look_v _ _, v, d, rfl, (hv.keep sA).dp, o1, o2, o3, o4, (by show 2 ≤ sizeLine; decide), fun p np => ?_⟩
      refine q _ p ((sm.trans sA).trans (same_new np)) (.lst upd_same (.cons (.lst (same_new np _ _ upd_same) (.cons (.bl _) (.cons (.bl _) (.cons (.bl _) (.cons (.bl _) .nil))))) (.cons (.str _) .nil)))
theorem ok_only (F : FnP K "_law_only" sOnly f fd) (z_range : mg "range" = none) (z_repr : mg "repr" = none) : FnG P w K mg base CX0 1 f fd ["_law_place", "_law_bad"] spOnly := by
  have nd := scOnly.nd
  refine okG F scOnly (fun vs H Q E h => ?_) (fun cdv A outer s H vs Q E ag hr h => ?_)
  · obtain ⟨j, v, d, rfl, _⟩ := h
    rfl
  · obtain ⟨j, v, d, rfl, hv, od, q⟩ := h
    have hu := hr.units
    refine ⟨_, PSs.nox (pss_one (ps_ret (pe_lst (pa_cons
      (pe_lc (own := [("_law_at", 2)]) (g := gName 2) (by rfl) nd (pi_range1 (by rfl) z_range (pa_cons pe_int pa_nil)) (blkOk_by (N := ["_law_place", "_law_bad", "_law_at"]) (sc := defScope sOnly) (own := [("_law_at", 2)]) (by decide +kernel)) (fun _ _ _ _ _ => pg_name (i := 2) nd rfl (Or.inl rfl)) (fun _ _ _ _ _ => pts_nil)
        (fun _ _ _ _ _ => pe_cmpR op_eq (pv 2) (pv 0) (nomark _))) (pa_cons (pe_callB (call_reprD ag hu) (by rfl) z_repr (by decide +kernel) (pa_cons (pv 1) pa_nil)) pa_nil))))), ?_⟩
    obtain ⟨o1, o2, o3, o4, _⟩ := okD_ok od
    refine ⟨4, rfl, by decide, by decide, fun D nD => lc_range (lo := 0) (n := 4) (fun k H' => Same H H' ∧ H' D = some (.lst (((List.range k).map fun m => decide (j = m)).map V.bl))) ⟨same_new nD, upd_same⟩ ?_ ?_⟩
    · rintro k H' hk ⟨sm, hD⟩
      rw [Int.zero_add]
      have e : decide (V.int (k : Int) = V.int (j : Int)) = decide (j = k) := by
        rw [nat_dec]
        exact decide_eq_decide.mpr ⟨Eq.symm, Eq.symm⟩
      refine ⟨rfl, _, rfl, _, rfl, rfl, _, hD, ?_, fun b o z => ?_, ?_⟩
      · rw [List.length_map, List.length_map, List.length_range]
        exact small1000 (by omega)
      · rw [upd_ne (ne_of_none (H := H) z nD)]
        exact sm _ _ z
      · rw [upd_same, List.range_succ, List.map_append, List.map_append, e]
        rfl
    · rintro H' ⟨sm, hD⟩
      refine ⟨_, rfl, v, d, rfl, (hv.keep sm).dp, o1, o2, o3, o4, (by show 2 ≤ sizeLine; decide), fun p np => ?_⟩
      exact q _ p (sm.trans (same_new np)) (.lst upd_same (.cons (.lst (same_new np _ _ hD) (.cons (.bl _) (.cons (.bl _) (.cons (.bl _) (.cons (.bl _) .nil))))) (.cons (.str _) .nil)))
end
end K4
set_option Elab.async false
set_option linter.all false
set_option maxRecDepth 100000
set_option maxHeartbeats 4000000
namespace K4
open PySem PySem.Spec PyProof.Rows L2 XV NP
/-! ### what is refused -/
def bads1 : List PyData := [.none, .str "ab", .list [.tuple [.str "a", .tuple [.int 1, .int 0]]], .int 3]
def bads2 : List PyData := [.none, .list [], .list [.int 1], .list [.int 1, .int 2, .int 3], .tuple [.int 1, .int 2], .list [.int 1, .int (-2)], .list [.int 1, .bool true], .list [.int (-2), .int 1], .list [.bool true, .int 1], .list [.none, .int 1], .str "12"]
def bads3 : List PyData := [.none, .str "", .str "ab", .str "A", .int 3, .list [.str "a"], .str " "]
def bads4 : List PyData := [.none, .int (-1), .bool true, .str "0", .list [.int 0], .int 9, .int ((10 : Int) ^ (20 : Int).toNat)]
theorem okb1 : (bads1.all fun d => okD d && noBool d) = true := by decide +kernel
theorem okb2 : (bads2.all fun d => okD d && (shortD d && !pointD 2 d)) = true := by decide +kernel
theorem okb3 : (bads3.all fun d => okD d && (shortD d && !letD d)) = true := by decide +kernel
theorem okb4 : (bads4.all fun d => okD d && !belD 9 d) = true := by decide +kernel
/-- one question: what is caught is what is due -/
theorem ask_ {K : PySem.W.Frag} {C : Addr} {H : Hp} {σ : L2.St} {wh : Nat} {ga : Addr} {as_ : List L2.V} {j : Nat} {v : L2.V} {d : PyData} {Q : VK} (hg : H ga = some (.lst as_)) (a : Ask K C H wh as_ j v) (o : okD d = true) (hv : Da H v d)
    (hσ : σ[1]? = some (some v)) (q : ∀ H', Same H H' → Q (.bl false) H') : spCaught K C [.int wh, .ref ga] H (fun x H1 => ∃ v', σ[1]? = some (some v') ∧ spOnly [.int j, v'] H1 (fun y H2 => rNeD K x y H2 Q) E0) E0 := by
  refine ⟨wh, ga, as_, j, v, d, rfl, hg, a, hv, o, fun H1 p1 sm1 d1 => ⟨v, hσ, j, v, d, rfl, hv.keep sm1, o, fun H2 p2 sm2 d2 => ⟨_, _, (d1.keep sm2).dp, d2.dp, kinds_shaped j o, kinds_shaped j o, ?_⟩⟩⟩
  rw [SeqAt.eqv_refl _ (kinds_lay j o)]
  exact q H2 (sm1.trans sm2)
def spRefused (C : Addr) : Sp := fun vs H Q _ => ∃ (x : Addr) (done : List Pc), vs = [.ref x] ∧ Tx C H x 2 done ∧ Dn 2 400 done ∧ done.length ≤ 90 ∧ lenR (done.map (rn [2, 1])) = 9 ∧ ∀ H', Same H H' → Q (.bl true) H'
section
variable {P : Program} {w : World} {K : PySem.W.Frag} {mg : Str → Option Value} {base : Heap} {f : Addr} {fd : FuncData} {C : Addr}
theorem ok_refused (F : FnP K "_law_refused" sRefused f fd) (o_c : OkG P w K mg base "_law_caught" 6 ["_law_which", "_law_given"] (spCaught K C)) (o_o : OkG P w K mg base "_law_only" 1 ["_law_place", "_law_bad"] spOnly) (z_range : mg "range" = none) : FnG P w K mg base CX0 7 f fd ["_law_text"] (spRefused C) := by
  have nd := scRefused.nd
  refine okG F scRefused (fun vs H Q E h => ?_) (fun cdv A outer s H vs Q E ag hr h => ?_)
  · obtain ⟨x, done, rfl, _⟩ := h
    rfl
  · obtain ⟨x, done, rfl, tx, dn, l90, e9, q⟩ := h
    have hu := hr.units
    have szl := sizeLine_eq
    have r1 : Room 1 (A.deeper (envOfC "_law_refused" (defScope sRefused) s.heap.objs.size f cdv)) := hr.mono (by decide)
    refine ⟨_, PSs.nox (pss_cons (ps_for PassesOwn.never rfl (pi_list (pe_lit 7 (d := .list bads1) rfl)) (pg_name (i := 1) nd rfl (Or.inl rfl))
        (pss_one (ps_for PassesOwn.never rfl (pi_range1 (by rfl) z_range (pa_cons pe_int pa_nil)) (pg_name (i := 2) nd rfl (Or.inl rfl))
          (pss_one (ps_if (pt_cmpR (op_neD hu) (pe_callG o_c ag hr (by rfl) (pa_cons (pv 2) (pa_cons (pe_lst (pa_cons (pv 1) (pa_cons pe_non (pa_cons pe_non pa_nil)))) pa_nil))) (pe_callG o_o ag r1 (by rfl) (pa_cons pe_int (pa_cons (pv 1) pa_nil))) (nomark _)) (pss_one (ps_ret pe_bl)) pss_nil)))))
      (pss_cons (ps_for PassesOwn.never rfl (pi_list (pe_lit 5 (d := .list bads2) rfl)) (pg_name (i := 1) nd rfl (Or.inl rfl))
        (pss_one (ps_for PassesOwn.never rfl (pi_range1 (by rfl) z_range (pa_cons pe_int pa_nil)) (pg_name (i := 2) nd rfl (Or.inl rfl))
          (pss_one (ps_if (pt_cmpR (op_neD hu) (pe_callG o_c ag hr (by rfl) (pa_cons (pv 2) (pa_cons (pe_lst (pa_cons (pv 0) (pa_cons (pv 1) (pa_cons pe_non pa_nil)))) pa_nil))) (pe_callG o_o ag r1 (by rfl) (pa_cons pe_int (pa_cons (pv 1) pa_nil))) (nomark _)) (pss_one (ps_ret pe_bl)) pss_nil)))))
      (pss_cons (ps_for PassesOwn.never rfl (pi_list (pe_lit 5 (d := .list bads3) rfl)) (pg_name (i := 1) nd rfl (Or.inl rfl))
        (pss_one (ps_if (pt_cmpR (op_neD hu) (pe_callG o_c ag hr (by rfl) (pa_cons pe_int (pa_cons (pe_lst (pa_cons (pv 0) (pa_cons (pv 1) pa_nil))) pa_nil))) (pe_callG o_o ag r1 (by rfl) (pa_cons pe_int (pa_cons (pv 1) pa_nil))) (nomark _)) (pss_one (ps_ret pe_bl)) pss_nil)))
      (pss_cons (ps_for PassesOwn.never rfl (pi_list (pe_lst (pa_cons pe_non (pa_cons (pe_un un_neg pe_int) (pa_cons pe_bl (pa_cons pe_str (pa_cons (pe_lst (pa_cons pe_int pa_nil)) (pa_cons pe_int (pa_cons (pe_op op_pow pe_int pe_int) pa_nil))))))))) (pg_name (i := 1) nd rfl (Or.inl rfl))
        (pss_one (ps_if (pt_cmpR (op_neD hu) (pe_callG o_c ag hr (by rfl) (pa_cons pe_int (pa_cons (pe_lst (pa_cons (pv 0) (pa_cons (pe_lit 3 (d := .list (([2, 1] : List Int).map PyData.int)) rfl) (pa_cons (pv 1) pa_nil)))) pa_nil))) (pe_callG o_o ag r1 (by rfl) (pa_cons pe_int (pa_cons (pv 1) pa_nil))) (nomark _)) (pss_one (ps_ret pe_bl)) pss_nil)))
      (pss_one (ps_ret pe_bl)))))), ?_⟩
    have z1 : ∀ d, d ∈ bads1 → okD d = true ∧ noBool d = true := fun d hd => by
      have z := List.all_eq_true.mp okb1 d hd
      simpa only [Bool.and_eq_true] using z
    have z2 : ∀ d, d ∈ bads2 → okD d = true ∧ shortD d = true ∧ pointD 2 d = false := fun d hd => by
      have z := List.all_eq_true.mp okb2 d hd
      simpa only [Bool.and_eq_true, Bool.not_eq_true'] using z
    have z3 : ∀ d, d ∈ bads3 → okD d = true ∧ shortD d = true ∧ letD d = false := fun d hd => by
      have z := List.all_eq_true.mp okb3 d hd
      simpa only [Bool.and_eq_true, Bool.not_eq_true'] using z
    have z4 : ∀ d, d ∈ bads4 → okD d = true ∧ belD 9 d = false := fun d hd => by
      have z := List.all_eq_true.mp okb4 d hd
      simpa only [Bool.and_eq_true, Bool.not_eq_true'] using z
    have n2 : 2 ≤ sizeLine := by omega
    have n3 : 3 ≤ sizeLine := by omega
    -- the first loop
    refine fun l1 H1 s1 d1 => ?_
    cases d1 with
    | @lst a1 xs1 _ h1 da1 =>
    refine ⟨a1, rfl, ⟨_, SqL.of h1⟩, for_list (K := K) (a := a1) (xs := xs1) (fun i σ H' => (∃ u1 u2, σ = [some (.ref x), u1, u2]) ∧ Same H1 H') ⟨⟨_, _, rfl⟩, Same.refl _⟩ (fun i σ H' _ p => SqL.of (p.2 _ _ h1)) ?_ ?_⟩
    · rintro i y σ H' hi ⟨⟨u1, u2, rfl⟩, sm⟩
      obtain ⟨d, ed, hd⟩ := da1.get hi
      obtain ⟨o, k1⟩ := z1 d (List.mem_of_getElem? ed)
      have hd1 := hd.keep sm
      refine ⟨4, rfl, by decide, by decide, for_range (lo := 0) (n := 4) (fun i σ H2 => (∃ u2, σ = [some (.ref x), some y, u2]) ∧ Same H' H2) ⟨⟨_, rfl⟩, Same.refl _⟩ ?_ ?_⟩
      · rintro wh σ H2 hwh ⟨⟨u2, rfl⟩, sm2⟩
        rw [Int.zero_add]
        refine ⟨_, rfl, _, rfl, n3, fun l nl => ?_⟩
        have hl := same_new (o := .lst [y, .non, .non]) nl
        have hd2 := (hd1.keep sm2).keep hl
        have n := da_noT (K := K) hd2 k1
        have hask : Ask K C (upd H2 l (.lst [y, .non, .non])) wh [y, .non, .non] 0 y := by
          match wh, hwh with
          | 0, _ => exact .w0 n
          | 1, _ => exact .t0 n
          | 2, _ => exact .l0 n
          | 3, _ => exact .n0 n
        exact ask_ (K := K) (σ := [some (.ref x), some y, some (.int wh)]) upd_same hask o hd2 rfl fun H5 sm5 => ⟨false, rfl, iteF ⟨⟨_, rfl⟩, (sm2.trans hl).trans sm5⟩⟩
      · rintro σ H2 ⟨⟨u2, rfl⟩, sm2⟩
        exact ⟨⟨_, _, rfl⟩, sm.trans sm2⟩
    rintro σ H2 ⟨⟨u1, u2, rfl⟩, sm2⟩
    have S2 := s1.trans sm2
    clear h1 da1 sm2
    -- the second one
    refine fun l1 H3 s3 d3 => ?_
    cases d3 with
    | @lst a3 xs3 _ h3 da3 =>
    have tx3 := tx.keep (S2.trans s3)
    refine ⟨a3, rfl, ⟨_, SqL.of h3⟩, for_list (K := K) (a := a3) (xs := xs3) (fun i σ H' => (∃ u1 u2, σ = [some (.ref x), u1, u2]) ∧ Same H3 H') ⟨⟨_, _, rfl⟩, Same.refl _⟩ (fun i σ H' _ p => SqL.of (p.2 _ _ h3)) ?_ ?_⟩
    · rintro i y σ H' hi ⟨⟨u1, u2, rfl⟩, sm⟩
      obtain ⟨d, ed, hd⟩ := da3.get hi
      obtain ⟨o, k1, k2⟩ := z2 d (List.mem_of_getElem? ed)
      have hd1 := hd.keep sm
      refine ⟨2, rfl, by decide, by decide, for_range (lo := 0) (n := 2) (fun i σ H2 => (∃ u2, σ = [some (.ref x), some y, u2]) ∧ Same H' H2) ⟨⟨_, rfl⟩, Same.refl _⟩ ?_ ?_⟩
      · rintro wh σ H2 hwh ⟨⟨u2, rfl⟩, sm2⟩
        rw [Int.zero_add]
        refine ⟨_, rfl, _, rfl, _, rfl, n3, fun l nl => ?_⟩
        have hl := same_new (o := .lst [.ref x, y, .non]) nl
        have hd2 := (hd1.keep sm2).keep hl
        have tx2 := ((tx3.keep sm).keep sm2).keep hl
        have ip := da_isP 2 hd2 k1
        rw [k2] at ip
        have hask : Ask K C (upd H2 l (.lst [.ref x, y, .non])) wh [.ref x, y, .non] 1 y := by
          match wh, hwh with
          | 0, _ => exact .w1 tx2 ip
          | 1, _ => exact .t1 tx2 ip
        exact ask_ (K := K) (σ := [some (.ref x), some y, some (.int wh)]) upd_same hask o hd2 rfl fun H5 sm5 => ⟨false, rfl, iteF ⟨⟨_, rfl⟩, (sm2.trans hl).trans sm5⟩⟩
      · rintro σ H2 ⟨⟨u2, rfl⟩, sm2⟩
        exact ⟨⟨_, _, rfl⟩, sm.trans sm2⟩
    rintro σ H4 ⟨⟨v1, v2, rfl⟩, sm4⟩
    have S4 := (S2.trans s3).trans sm4
    clear h3 da3 sm4 tx3
    -- the third one
    refine fun l5 H5 s5 d5 => ?_
    cases d5 with
    | @lst a5 xs5 _ h5 da5 =>
    have tx5 := tx.keep (S4.trans s5)
    refine ⟨a5, rfl, ⟨_, SqL.of h5⟩, for_list (K := K) (a := a5) (xs := xs5) (fun i σ H' => (∃ u1 u2, σ = [some (.ref x), u1, u2]) ∧ Same H5 H') ⟨⟨_, _, rfl⟩, Same.refl _⟩ (fun i σ H' _ p => SqL.of (p.2 _ _ h5)) ?_ ?_⟩
    · rintro i y σ H' hi ⟨⟨u1, u2, rfl⟩, sm⟩
      obtain ⟨d, ed, hd⟩ := da5.get hi
      obtain ⟨o, k1, k2⟩ := z3 d (List.mem_of_getElem? ed)
      have hd1 := hd.keep sm
      refine ⟨_, rfl, _, rfl, n2, fun l nl => ?_⟩
      have hl := same_new (o := .lst [.ref x, y]) nl
      have hd2 := hd1.keep hl
      exact ask_ (K := K) (σ := [some (.ref x), some y, u2]) (wh := 2) upd_same (.l2 ((tx5.keep sm).keep hl) (da_kn hd2) (da_len hd2 k1) (by rw [da_let hd2]; exact k2)) o hd2 rfl fun H6 sm6 => ⟨false, rfl, iteF ⟨⟨_, _, rfl⟩, (sm.trans hl).trans sm6⟩⟩
    rintro σ H6 ⟨⟨w1, w2, rfl⟩, sm6⟩
    have S6 := (S4.trans s5).trans sm6
    clear h5 da5 sm6 tx5
    -- the fourth one
    refine ⟨_, rfl, (by show 1 ≤ sizeLine; omega), fun l0 nl0 => ⟨_, _, rfl, rfl, ⟨by decide, by decide, by decide⟩, (by show 7 ≤ sizeLine; omega), fun lb nlb => ?_⟩⟩
    have sA := same_new (o := .lst [.int 0]) nl0
    have sB := same_new (o := .lst [.non, .int (-1), .bl true, .str "0", .ref l0, .int 9, .int ((10 : Int) ^ (20 : Int).toNat)]) nlb
    have h7 : (upd (upd H6 l0 (.lst [.int 0])) lb (.lst [.non, .int (-1), .bl true, .str "0", .ref l0, .int 9, .int ((10 : Int) ^ (20 : Int).toNat)])) lb = some (.lst [.non, .int (-1), .bl true, .str "0", .ref l0, .int 9, .int ((10 : Int) ^ (20 : Int).toNat)]) := upd_same
    have da7 : DaAll (upd (upd H6 l0 (.lst [.int 0])) lb (.lst [.non, .int (-1), .bl true, .str "0", .ref l0, .int 9, .int ((10 : Int) ^ (20 : Int).toNat)])) [.non, .int (-1), .bl true, .str "0", .ref l0, .int 9, .int ((10 : Int) ^ (20 : Int).toNat)] bads4 :=
      .cons .non (.cons (.int _) (.cons (.bl _) (.cons (.str _) (.cons (.lst (sB _ _ upd_same) (.cons (.int 0) .nil)) (.cons (.int _) (.cons (.int _) .nil))))))
    have S7 := (S6.trans sA).trans sB
    have tx7 := tx.keep S7
    generalize upd (upd H6 l0 (.lst [.int 0])) lb (.lst [.non, .int (-1), .bl true, .str "0", .ref l0, .int 9, .int ((10 : Int) ^ (20 : Int).toNat)]) = H7 at *
    refine ⟨lb, rfl, ⟨_, SqL.of h7⟩, for_list (K := K) (a := lb) (xs := [.non, .int (-1), .bl true, .str "0", .ref l0, .int 9, .int ((10 : Int) ^ (20 : Int).toNat)]) (fun i σ H' => (∃ u1 u2, σ = [some (.ref x), u1, u2]) ∧ Same H7 H') ⟨⟨_, _, rfl⟩, Same.refl _⟩ (fun i σ H' _ p => SqL.of (p.2 _ _ h7)) ?_ ?_⟩
    · rintro i y σ H' hi ⟨⟨u1, u2, rfl⟩, sm⟩
      obtain ⟨d, ed, hd⟩ := da7.get hi
      obtain ⟨o, k1⟩ := z4 d (List.mem_of_getElem? ed)
      have hd1 := hd.keep sm
      refine ⟨_, rfl, fun tp Ht st dt => ⟨_, rfl, n3, fun l nl => ?_⟩⟩
      obtain ⟨bp, rfl, hb⟩ := da_lst [2, 1] dt
      have hl := same_new (o := .lst [.ref x, .ref bp, y]) nl
      have hd2 := (hd1.keep st).keep hl
      have hb2 := hl _ _ hb
      have szy : ∀ v ∈ ([2, 1] : List Int), Sz 400 v := fun v hv => by
        have : v = 2 ∨ v = 1 := by simpa using hv
        rcases this with rfl | rfl
        · exact ⟨by decide, by decide +kernel⟩
        · exact ⟨by decide, by decide +kernel⟩
      have ip : IsP (upd Ht l (.lst [.ref x, .ref bp, y])) 2 (.ref bp) true := .inl ⟨bp, _, rfl, hb2, by decide, fun v hv => by
        obtain ⟨i, _, rfl⟩ := List.mem_map.mp hv
        exact .int i, rfl⟩
      exact ask_ (K := K) (σ := [some (.ref x), some y, u2]) (wh := 1) upd_same (.t3 (ys := [2, 1]) (((tx7.keep sm).keep st).keep hl) ⟨rfl, hb2, rfl, by decide, szy, dn, l90⟩ ip (da_kn hd2) (by rw [e9, da_bel 9 hd2]; exact k1)) o hd2 rfl fun H8 sm8 => ⟨false, rfl, iteF ⟨⟨_, _, rfl⟩, ((sm.trans st).trans hl).trans sm8⟩⟩
    rintro σ H10 ⟨_, sm10⟩
    exact q H10 (S7.trans sm10)
end
end K4
set_option Elab.async false
set_option linter.all false
set_option maxRecDepth 100000
set_option maxHeartbeats 4000000
namespace K4
open PySem PySem.Spec PyProof.Rows L2 XV NP
abbrev sLaw : Stmt := top 69
theorem scLaw : FnScope ["_law_script", "_law_index", "_law_generator_here", "_law_many", "_law_text", "_law_line"] ["_law_script"] (defScope sLaw) := ⟨rfl, rfl, rfl, by decide +kernel, rfl, by decide +kernel, by decide +kernel⟩
def pcD (p : Pc) : PyData := .tuple [.str p.1, .tuple ((fm p).map PyData.int)]
theorem da_pc {H : Hp} {v : L2.V} (p : Pc) (h : Da H v (pcD p)) : IsPc H v p := by
  cases h with
  | @tup a xs _ h r =>
    cases r with
    | cons h1 r1 =>
      cases r1 with
      | cons h2 r2 =>
        cases r2
        cases h1
        obtain ⟨b, rfl, hb⟩ := da_tup (fm p) h2
        exact ⟨a, b, rfl, h, hb⟩
theorem da_pcsA {H : Hp} : ∀ (ps : List Pc) (vs : List L2.V), DaAll H vs (ps.map pcD) → Pcs H vs ps
  | [], _, .nil => .nil
  | p :: ps, _, .cons h r => .cons (da_pc p h) (da_pcsA ps _ r)
theorem da_pcs {H : Hp} {v : L2.V} (ps : List Pc) (h : Da H v (.list (ps.map pcD))) : ∃ a, v = .ref a ∧ PL H a ps := by
  cases h with
  | @lst a xs _ h r => exact ⟨a, rfl, xs, h, da_pcsA ps xs r⟩
/-- pieces that are written, looked at -/
def pkB (m : Nat) (p : Pc) : Bool := (cs p.1).all (fun c => decide (c = 97) || decide (c = 98)) && (decide ((cs p.1).length ≤ 10) && (decide (0 ≤ p.2.1) && (decide (p.2.1 ≤ 2) && (decide (p.2.2.length = m) && p.2.2.all fun x => decide (0 ≤ x) && decide (x < 2 ^ 100)))))
theorem pkB_ok {m : Nat} {ps : List Pc} (h : ps.all (pkB m) = true) : ∀ p ∈ ps, Pk m p := fun p hp => by
  have z := List.all_eq_true.mp h p hp
  unfold pkB at z
  simp only [Bool.and_eq_true, decide_eq_true_eq, List.all_eq_true, Bool.or_eq_true] at z
  obtain ⟨h1, h2, h3, h4, h5, h6⟩ := z
  exact ⟨h1, h2, h3, h4, h5, h6⟩
def ps1 : List Pc := [("ab", 1, [1, 0]), ("b", 0, [0, 3])]
def ps2 : List Pc := [("a", 0, [1])]
theorem pk1 : ∀ p ∈ ps1, Pk 2 p := pkB_ok (by decide +kernel)
theorem pk2 : ∀ p ∈ ps2, Pk 1 p := pkB_ok (by decide +kernel)
theorem szB {k : Nat} {l : List Int} (h : (l.all fun x => decide (0 ≤ x) && decide (x < 2 ^ k)) = true) : ∀ x ∈ l, Sz k x := fun x hx => by
  have z := List.all_eq_true.mp h x hx
  rw [Bool.and_eq_true, decide_eq_true_eq, decide_eq_true_eq] at z
  exact z
theorem V_len (ys : List Int) (ps : List Pc) : (NP.V ys ps).length = lettersR (toR (ps.map (rn ys))) := by rw [← wr_rn, wr_len]
theorem V_at (ys : List Int) (ps : List Pc) (i : Nat) : (NP.V ys ps)[i]? = letterR (toR (ps.map (rn ys))) i := by rw [letterR_eq, wr_rn]
theorem dr_min {n : Nat} : n ≤ 1000 * 2 → n ≤ 100000 := by omega
def spLaw (K : PySem.W.Frag) : Sp := fun vs H Q _ => ∃ (a : Addr) (ns : List Int), vs = [.ref a] ∧ SqL K H a (ns.map L2.V.int) ∧ ns.length ≤ 63 ∧ ∀ H' : Hp, Q (.bl true) H'
section
variable {P : Program} {w : World} {K : PySem.W.Frag} {mg : Str → Option Value} {base : Heap} {f : Addr} {fd : FuncData} {C : Addr}
theorem ok_law (F : FnP K "law" sLaw f fd) (o_gen : Ok P w K mg base "_law_generator" 1 ["_law_script", "_law_index"] (spGen K)) (o_rand : Ok P w K mg base "_law_random" 2 ["_law_generator_here", "_law_bound"] spRand) (o_good : OkG P w K mg base "_law_good" 8 ["_law_generator_here", "_law_many", "_law_pieces_here"] spGood)
    (o_pieces : Ok P w K mg base "_law_pieces" 5 ["_law_generator_here", "_law_many", "_law_most", "_law_great"] spLPieces) (o_mk : OkMkT P w K mg base C) (o_wr : Ok P w K mg base "written" 5 ["text", "point"] (cm (spWritten K C))) (o_len : Ok P w K mg base "length" 4 ["text"] (cm (spLength K C)))
    (o_lets : Ok P w K mg base "letters" 4 ["text", "letter"] (cm (spLettersT K C))) (o_tl : Ok P w K mg base "text_letter" 5 ["text", "point", "at"] (cm (spTLetter K C))) (o_wg : Ok P w K mg base "_law_written_good" 6 ["_law_pieces_here", "_law_text", "_law_point"] (spWG C))
    (o_ref : OkG P w K mg base "_law_refused" 7 ["_law_text"] (spRefused C)) (z_range : mg "range" = none) (z_len : mg "len" = none) : FnG P w K mg base CX0 9 f fd ["_law_script"] (spLaw K) := by
  have nd := scLaw.nd
  refine okG F scLaw (fun vs H Q E h => ?_) (fun cdv A outer s H vs Q E ag hr h => ?_)
  · obtain ⟨a, ns, rfl, _⟩ := h
    rfl
  · obtain ⟨a, ns, rfl, hS, hlen, q⟩ := h
    have hu := hr.units
    have szl := sizeLine_eq
    have r8 : Room 8 (A.deeper (envOfC "law" (defScope sLaw) s.heap.objs.size f cdv)) := hr
    have r7 := r8.mono (by decide : 7 ≤ 8)
    have r6 := r8.mono (by decide : 6 ≤ 8)
    have r5 := r8.mono (by decide : 5 ≤ 8)
    have r4 := r8.mono (by decide : 4 ≤ 8)
    have r2 := r8.mono (by decide : 2 ≤ 8)
    have r1 := r8.mono (by decide : 1 ≤ 8)
    refine ⟨_, PSs.nox (pss_cons (ps_for PassesOwn.never rfl (pi_range1 (by rfl) z_range (pa_cons pe_int pa_nil)) (pg_name (i := 1) nd rfl (Or.inl rfl))
        (pss_cons (ps_set (i := 2) nd rfl (Or.inl rfl) (pe_callO o_gen r1 (by rfl) (pa_cons (pv 0) (pa_cons (pv 1) pa_nil))))
        (pss_cons (ps_set (i := 3) nd rfl (Or.inl rfl) (pe_callO o_rand r2 (by rfl) (pa_cons (pv 2) (pa_cons pe_int pa_nil))))
        (pss_one (ps_if (pt_not (pt_val (pe_callG o_good ag r8 (by rfl) (pa_cons (pv 2) (pa_cons (pv 3) (pa_cons (pe_callO o_pieces r5 (by rfl) (pa_cons (pv 2) (pa_cons (pv 3) (pa_cons pe_int (pa_cons pe_bl pa_nil))))) pa_nil)))))) (pss_one (ps_ret pe_bl)) pss_nil)))))
      (pss_cons (ps_set (i := 4) nd rfl (Or.inl rfl) (pe_mkT o_mk r7 (by rfl) pe_int (pe_lit 6 (d := .list (ps1.map pcD)) rfl)))
      (pss_cons (ps_if (pt_cmpR (op_neD hu) (pe_lst (pa_cons (pe_callO o_wr r5 (by rfl) (pa_cons (pv 4) (pa_cons (pe_lit 3 (d := .list (([2, 1] : List Int).map PyData.int)) rfl) pa_nil)))
          (pa_cons (pe_callO o_len r4 (by rfl) (pa_cons (pv 4) pa_nil))
          (pa_cons (pe_callO o_lets r4 (by rfl) (pa_cons (pv 4) (pa_cons pe_str pa_nil)))
          (pa_cons (pe_callO o_tl r5 (by rfl) (pa_cons (pv 4) (pa_cons (pe_lst (pa_cons (pe_op op_pow pe_int pe_int) (pa_cons pe_int pa_nil))) (pa_cons (pe_op op_add (pe_op op_mulW pe_int (pe_op op_pow pe_int pe_int)) pe_int) pa_nil)))) pa_nil)))))
          (pe_lit 5 (d := .list [.str "abababbbb", .tuple (([2, 2, 3] : List Int).map PyData.int), .tuple (([1, 1, 3] : List Int).map PyData.int), .str "b"]) rfl) (nomark _)) (pss_one (ps_ret pe_bl)) pss_nil)
      (pss_cons (ps_set (i := 5) nd rfl (Or.inl rfl) (pe_mkT o_mk r7 (by rfl) pe_int (pe_lit 6 (d := .list (ps2.map pcD)) rfl)))
      (pss_cons (ps_if (PW.pt (pw_or (pt_cmpR op_ne (pe_callB call_len_str (by rfl) z_len boot_len (pa_cons (pe_callO o_wr r5 (by rfl) (pa_cons (pv 5) (pa_cons (pe_lit 3 (d := .list (([20000] : List Int).map PyData.int)) rfl) pa_nil))) pa_nil)) pe_int (nomark _))
          (pw_or1 (pt_cmpR op_notBl (pe_callO o_wg r6 (by rfl) (pa_cons (pe_lit 6 (d := .list (ps2.map pcD)) rfl) (pa_cons (pv 5) (pa_cons (pe_lit 3 (d := .list (([20001] : List Int).map PyData.int)) rfl) pa_nil)))) pe_bl (nomark _))))) (pss_one (ps_ret pe_bl)) pss_nil)
      (pss_one (ps_ret (pe_and (pe_cmpR op_eq (pe_callO o_wr r5 (by rfl) (pa_cons (pe_mkT o_mk r7 (by rfl) pe_int (pe_lst pa_nil)) (pa_cons (pe_lst pa_nil) pa_nil))) pe_str (nomark _)) (pe_one (pe_callG o_ref ag r7 (by rfl) (pa_cons (pv 4) pa_nil))))))))))), ?_⟩
    refine ⟨3, rfl, by decide, by decide, for_range (lo := 0) (n := 3) (fun i σ H' => (∃ x1 x2 x3, σ = [some (.ref a), x1, x2, x3, none, none]) ∧ Same H H') ⟨⟨_, _, _, rfl⟩, Same.refl _⟩ ?_ ?_⟩
    · rintro i σ H' hi ⟨⟨x1, x2, x3, rfl⟩, sm⟩
      rw [Int.zero_add]
      refine ⟨_, rfl, _, rfl, a, ns, i, rfl, sm.seq hS, by omega, fun H1 g s1 ng d1 => ?_⟩
      refine ⟨_, rfl, g, 1000 * i, 4, rfl, d1, by omega, by decide, by decide +kernel, fun H2 r r0 r4' b2 d2 => ?_⟩
      obtain ⟨m, rfl⟩ := Int.eq_ofNat_of_zero_le r0
      have hm : m ≤ 3 := by omega
      refine ⟨_, rfl, _, rfl, _, rfl, _, rfl, g, 1000 * i + 20, m, 5, rfl, by decide, hm, d2, by omega, fun H3 pl ps npl hL hk l5 b3 d3 => ?_⟩
      refine ⟨m, 1000 * i + 20 + 10000, g, pl, ps, rfl, hm, hL, hk, l5, d3, by omega, fun H4 b4 => ⟨true, rfl, iteF ⟨⟨_, _, _, rfl⟩, fun b o e => ?_⟩⟩⟩
      have e1 := sm _ _ e
      exact ((b2.trans b3).trans b4) _ _ (fun z => by rw [z, ng] at e1; cases e1) (s1 _ _ e1)
    rintro σ H1 ⟨⟨x1, x2, x3, rfl⟩, sm⟩
    -- the text
    refine fun v1 H2 s2 dv1 => ?_
    obtain ⟨pl, rfl, hL⟩ := da_pcs ps1 dv1
    refine ⟨2, pl, ps1, rfl, rfl, by decide, hL, pks_ps pk1 (by decide), pks_meas pk1 (by decide), fun H3 x done s3 nx tx ni ld dn => ?_⟩
    have ld2 : done.length ≤ 2 * 2 + 1 := ld
    have l90 : done.length ≤ 90 := by omega
    have hL3 := hL.keep s3
    have vv : ∀ ys : List Int, Nn ys → NP.V ys done = NP.V ys ps1 := fun ys h => by
      have := ni.v ys h
      rw [List.append_nil] at this
      exact this.symm
    have eD : ∀ k : Nat → Bool, ((List.range 3).map fun j => lin k j done) = (List.range 3).map fun j => lin k j ps1 := fun k => congrArg (fun f => (List.range 3).map f) (funext fun j => ni_lin ni k j)
    -- what it writes at [2, 1]
    refine ⟨_, rfl, fun v2 H4 s4 dv2 => ?_⟩
    obtain ⟨b1, rfl, hb1⟩ := da_lst [2, 1] dv2
    have w21 : WG C H4 pl x b1 2 ps1 done [2, 1] := ⟨hL3.keep s4, pk1, by decide, tx.keep s4, ni, dn, l90, by decide, hb1, rfl, szB (by decide +kernel)⟩
    have e9 : lenR (done.map (rn [2, 1])) = 9 := by
      rw [w21.wholeD, V_len]
      decide +kernel
    refine ⟨.ref x, .ref b1, rfl, .inr ⟨x, 2, done, true, rfl, w21.hx, w21.isP, .inr ⟨rfl, b1, [2, 1], w21.gd, fun _ H5 z s5 hz => ?_, fun gt => by rw [e9] at gt; omega⟩⟩⟩
    have ez : z = "abababbbb" := cs_ext (hz.trans ((vv [2, 1] w21.nn).trans (by decide +kernel)))
    subst ez
    have tx5 := (tx.keep s4).keep s5
    -- its length
    refine ⟨_, rfl, .ref x, rfl, .inr ⟨x, 2, done, rfl, tx5, by decide, dn, l90, fun H6 p1 s6 hp1 => ?_⟩⟩
    rw [show (2 + 1 : Nat) = 3 from rfl, eD, show ((List.range 3).map fun j => lin tt j ps1) = [2, 2, 3] by decide +kernel] at hp1
    have tx6 := tx5.keep s6
    -- its letters
    refine ⟨_, rfl, .ref x, .str "b", rfl, .inr ⟨x, 2, done, rfl, tx6, .str _, (fun z e => by have := V.str.inj e; subst this; decide +kernel), .inr ⟨98, by decide +kernel, rfl, by decide, dn, l90, fun H7 p2 s7 hp2 => ?_⟩⟩⟩
    rw [show (2 + 1 : Nat) = 3 from rfl, eD, show ((List.range 3).map fun j => lin (fun x => decide (x = 98)) j ps1) = [1, 1, 3] by decide +kernel] at hp2
    have tx7 := tx6.keep s7
    -- a letter far out
    refine ⟨_, rfl, _, _, rfl, rfl, ⟨by decide, by decide, by decide⟩, (by show 2 ≤ sizeLine; omega), fun b2 nb2 => ?_⟩
    have s8 := same_new (o := .lst [.int ((10 : Int) ^ (20 : Int).toNat), .int 0]) nb2
    have hb2 : (upd H7 b2 (.lst [.int ((10 : Int) ^ (20 : Int).toNat), .int 0])) b2 = some (.lst (([(10 : Int) ^ (20 : Int).toNat, 0] : List Int).map V.int)) := upd_same
    generalize upd H7 b2 (.lst [.int ((10 : Int) ^ (20 : Int).toNat), .int 0]) = H8 at *
    have S38 := (((s4.trans s5).trans s6).trans s7).trans s8
    have w8 : WG C H8 pl x b2 2 ps1 done [(10 : Int) ^ (20 : Int).toNat, 0] := ⟨hL3.keep S38, pk1, by decide, tx7.keep s8, ni, dn, l90, by decide, hb2, rfl, szB (by decide +kernel)⟩
    have eF : lenR (done.map (rn [(10 : Int) ^ (20 : Int).toNat, 0])) = 200000000000000000002 := by
      rw [w8.wholeD, V_len]
      decide +kernel
    refine ⟨_, _, rfl, rfl, ⟨by decide, by decide, by decide⟩, _, _, rfl, rfl, (by show (2 : Int).natAbs.log2 + ((10 : Int) ^ (20 : Int).toNat).natAbs.log2 < 1000000; decide +kernel), _, _, rfl, rfl, ?_⟩
    refine ⟨.ref x, .ref b2, _, rfl, .inr ⟨x, 2, done, true, rfl, w8.hx, w8.isP, .inr ⟨rfl, b2, _, w8.gd, .int _, fun _ H9 i c s9 ei ec => ?_, fun eb => ?_⟩⟩⟩
    · have ei : i = 200000000000000000001 := by
        have := V.int.inj ei
        have e2 : (2 : Int) * (10 : Int) ^ (20 : Int).toNat + 1 = 200000000000000000001 := by decide +kernel
        have this : (2 : Int) * (10 : Int) ^ (20 : Int).toNat + 1 = (i : Int) := this
        omega
      subst ei
      rw [vv _ w8.nn, V_at, show letterR (toR (ps1.map (rn [(10 : Int) ^ (20 : Int).toNat, 0]))) 200000000000000000001 = some 98 by decide +kernel] at ec
      cases ec
      refine ⟨(by show 4 ≤ sizeLine; omega), fun lt nlt => ?_⟩
      have s10 := same_new (o := .lst [.str "abababbbb", .ref p1, .ref p2, .str ⟨#[98]⟩]) nlt
      have hlt : (upd H9 lt (.lst [.str "abababbbb", .ref p1, .ref p2, .str ⟨#[98]⟩])) lt = some (.lst [.str "abababbbb", .ref p1, .ref p2, .str ⟨#[98]⟩]) := upd_same
      have g1 := (((s7.trans s8).trans s9).trans s10) _ _ hp1
      have g2 := ((s8.trans s9).trans s10) _ _ hp2
      have S := (S38.trans s9).trans s10
      generalize upd H9 lt (.lst [.str "abababbbb", .ref p1, .ref p2, .str ⟨#[98]⟩]) = H10 at *
      refine fun vL HL sL dL => ⟨.list [.str "abababbbb", .tuple (([2, 2, 3] : List Int).map PyData.int), .tuple (([1, 1, 3] : List Int).map PyData.int), .str "b"], _, ?_, dL.dp, by decide +kernel, by decide +kernel, ?_⟩
      · exact .lst (SqL.of (sL _ _ hlt)) (.cons (.str _) (.cons (.tup (SqT.of (sL _ _ g1)) (dp_ints [2, 2, 3])) (.cons (.tup (SqT.of (sL _ _ g2)) (dp_ints [1, 1, 3])) (.cons (.str _) .nil))))
      · rw [SeqAt.eqv_refl _ (by decide +kernel)]
        refine ⟨false, rfl, iteF ?_⟩
        have txL := tx.keep (S.trans sL)
        -- the line
        refine fun v3 H11 s11 dv3 => ?_
        obtain ⟨pl2, rfl, hL2⟩ := da_pcs ps2 dv3
        refine ⟨1, pl2, ps2, rfl, rfl, by decide, hL2, pks_ps pk2 (by decide), pks_meas pk2 (by decide), fun H12 y done2 s12 ny ty ni2 ld2' dn2 => ?_⟩
        have ld3 : done2.length ≤ 2 * 1 + 1 := ld2'
        have l902 : done2.length ≤ 90 := by omega
        refine ⟨_, rfl, fun v4 H13 s13 dv4 => ?_⟩
        obtain ⟨b3, rfl, hb3⟩ := da_lst [20000] dv4
        have w3 : WG C H13 pl2 y b3 1 ps2 done2 [20000] := ⟨(hL2.keep s12).keep s13, pk2, by decide, ty.keep s13, ni2, dn2, l902, by decide, hb3, rfl, szB (by decide +kernel)⟩
        have e3 : (NP.V [20000] ps2).length = 20000 := by
          rw [V_len]
          decide +kernel
        refine ⟨.ref y, .ref b3, rfl, .inr ⟨y, 1, done2, true, rfl, w3.hx, w3.isP, .inr ⟨rfl, b3, [20000], w3.gd, fun _ H14 z2 s14 hz2 => ?_, fun gt => by rw [w3.wholeD, e3] at gt; omega⟩⟩⟩
        have lz2 : z2.length = 20000 := by rw [cs_len, hz2, ← w3.vv, e3]
        refine ⟨z2, rfl, by omega, rfl, false, ?_, iteF ?_⟩
        · rw [lz2]
          rfl
        · refine fun v5 H15 s15 dv5 => ?_
          obtain ⟨pl3, rfl, hL3'⟩ := da_pcs ps2 dv5
          refine ⟨_, rfl, fun v6 H16 s16 dv6 => ?_⟩
          obtain ⟨b4, rfl, hb4⟩ := da_lst [20001] dv6
          have S1216 := ((s13.trans s14).trans s15).trans s16
          refine ⟨1, pl3, y, b4, ps2, done2, [20001], rfl, ⟨hL3'.keep s16, pk2, by decide, ty.keep S1216, ni2, dn2, l902, by decide, hb4, rfl, szB (by decide +kernel)⟩, fun H17 s17 => ⟨true, true, rfl, rfl, false, rfl, iteF ?_⟩⟩
          -- the empty text
          refine ⟨(by show 0 ≤ sizeLine; omega), fun e0 ne0 => ?_⟩
          have s18 := same_new (o := .lst []) ne0
          refine ⟨0, e0, [], rfl, rfl, by decide, ⟨[], upd_same, .nil⟩, pks_ps (fun p hp => by cases hp) (by decide), by decide +kernel, fun H19 t done3 s19 nt tt3 ni3 ld4 dn3 => ?_⟩
          have ld5 : done3.length ≤ 2 * 0 + 1 := ld4
          refine ⟨(by show 0 ≤ sizeLine; omega), fun e1 ne1 => ?_⟩
          have s20 := same_new (o := .lst []) ne1
          have w5 : WG C (upd H19 e1 (.lst [])) e0 t e1 0 [] done3 [] := ⟨⟨[], s20 _ _ (s19 _ _ upd_same), .nil⟩, fun p hp => (by cases hp), by decide, tt3.keep s20, ni3, dn3, by omega, by decide, upd_same, rfl, fun y hy => (by cases hy)⟩
          refine ⟨.ref t, .ref e1, rfl, .inr ⟨t, 0, done3, true, rfl, w5.hx, w5.isP, .inr ⟨rfl, e1, [], w5.gd, fun _ H20 z3 s21 hz3 => ?_, fun gt => by rw [w5.wholeD] at gt; have : (0 : Int) > 20000 := gt; omega⟩⟩⟩
          have ez3 : z3 = "" := cs_nil (hz3.trans w5.vv.symm)
          subst ez3
          refine ⟨rfl, true, congrArg V.bl (decide_eq_true rfl), iteT ?_⟩
          exact ⟨_, rfl, x, done, rfl, txL.keep ((((((s11.trans s12).trans S1216).trans s17).trans s18).trans s19).trans (s20.trans s21)), dn, l90, e9, fun H' _ => q H'⟩
    · have eb2 : belV (lenR (done.map (rn [(10 : Int) ^ (20 : Int).toNat, 0]))) (.int ((2 : Int) * (10 : Int) ^ (20 : Int).toNat + 1)) = true := by
        rw [eF]
        decide +kernel
      have eb3 : belV (lenR (done.map (rn [(10 : Int) ^ (20 : Int).toNat, 0]))) (.int ((2 : Int) * (10 : Int) ^ (20 : Int).toNat + 1)) = false := eb
      rw [eb2] at eb3
      cases eb3
end
end K4
set_option Elab.async false
set_option linter.all false
set_option maxRecDepth 100000
set_option maxHeartbeats 2000000
namespace XV
open PySem PySem.Spec PyProof.Rows L2
/-! ### what isinstance says of a class, by its order of classes -/
def mroB (K : PySem.W.Frag) (C : Addr) (m : List Value) : Bool := match K.lookup C with
  | some ⟨t, _, .cls cd, _⟩ => decide (t = .type "type") && decide (cd.mro = m)
  | _ => false
theorem mroB_ok {K : PySem.W.Frag} {C : Addr} {m : List Value} (h : mroB K C m = true) : (∃ cd, PySem.W.clsIn K C = some cd ∧ cd.mro = m) ∧ PySem.W.typeIn K (.ref C) = some (.type "type") := by
  unfold mroB at h
  split at h
  · rename_i t d cd sl ho
    obtain ⟨h1, h2⟩ := He.ba h
    have e1 : t = .type "type" := of_decide_eq_true h1
    have e2 : cd.mro = m := of_decide_eq_true h2
    refine ⟨⟨cd, ?_, e2⟩, ?_⟩
    · unfold PySem.W.clsIn
      rw [ho]
    · show (K.lookup C).map (fun o => o.cls) = _
      rw [ho, e1]
      rfl
  · cases h
theorem sub_mro {K : PySem.W.Frag} {C : Addr} {m : List Value} (h : mroB K C m = true) (hm : m.isEmpty = false) (b : Value) : PySem.W.subIn K (.ref C) b = some (m.contains b) := by
  obtain ⟨⟨cd, h1, h2⟩, _⟩ := mroB_ok h
  show PySem.W.mroIn K C b = _
  unfold PySem.W.mroIn
  rw [h1]
  show (if cd.mro.isEmpty = true then none else some (cd.mro.contains b)) = _
  rw [h2, hm, if_neg Bool.false_ne_true]
theorem kit_mro {K : PySem.W.Frag} {C D : Addr} {m m' : List Value} (h : mroB K C m = true) (hm : m.isEmpty = false) (h' : mroB K D m' = true) (hs : C = D → m.contains (.ref D) = true) : PySem.W.kitOne K (.ref C) (.ref D) = some (m.contains (.ref D)) := by
  unfold PySem.W.kitOne
  by_cases e : C = D
  · rw [hs e, if_pos (beq_iff_eq.mpr (congrArg Value.ref e))]
  · rw [if_neg (fun z => e (Value.ref.inj (beq_iff_eq.mp z)))]
    obtain ⟨⟨cd, h1, _⟩, h2⟩ := mroB_ok h'
    show (if ((PySem.W.clsIn K D).isSome && PySem.W.typeIn K (.ref D) == some (.type "type")) = true then PySem.W.subIn K (.ref C) (.ref D) else none) = _
    rw [h1, h2, if_pos (by rw [Bool.and_eq_true]; exact ⟨rfl, beq_iff_eq.mpr rfl⟩)]
    exact sub_mro h hm _
theorem kit_ve {K : PySem.W.Frag} {C : Addr} {m : List Value} (h : mroB K C m = true) (hm : m.isEmpty = false) : PySem.W.kitOne K (.ref C) (.type "ValueError") = some (m.contains (.type "ValueError")) := by
  unfold PySem.W.kitOne
  rw [if_neg (fun z => by cases (beq_iff_eq.mp z))]
  show (if PySem.W.kitMeta "ValueError" = true then PySem.W.subIn K (.ref C) (.type "ValueError") else none) = _
  rw [if_pos (by decide +kernel)]
  exact sub_mro h hm _
/-! ### a part of the heap, each object once, written out -/
def refsK (o : Obj) : List Addr := match o.data with
  | .dict es _ => es.toList.flatMap fun e => He.refV e.val
  | .func fd => He.refV fd.code ++ He.refV fd.defaults
  | .cls cd => [cd.ns]
  | _ => []
def refsA (g : Addr → Option Obj) (a : Addr) : List Addr := match g a with
  | some o => refsK o
  | none => []
def frcA {α : Type} (l : List Addr) (k : List Addr → α) : α := match l with
  | [] => k []
  | a :: r => HandSHeadRun.frNat a fun a => frcA r fun r => k (a :: r)
theorem frcA_eq {α : Type} : ∀ (l : List Addr) (k : List Addr → α), frcA l k = k l
  | [], _ => rfl
  | a :: r, k => by
    show HandSHeadRun.frNat a (fun a => frcA r fun r => k (a :: r)) = _
    rw [HandSHeadRun.frNat_eq, frcA_eq r]
def asK (g : Addr → Option Obj) : List Addr := frcA (refsA g mainGlobals) fun l1 => frcA (l1.flatMap (refsA g)) fun l2 => frcA (l2.flatMap (refsA g)) fun l3 => frcA (l3.flatMap (refsA g)) fun l4 => mainGlobals :: (l1 ++ (l2 ++ (l3 ++ l4)))
def frcK {α : Type} (l : PySem.W.Frag) (k : PySem.W.Frag → α) : α := match l with
  | [] => k []
  | (a, o) :: r => HandSHeadRun.frNat a fun a => frcK r fun r => k ((a, o) :: r)
theorem frcK_eq {α : Type} : ∀ (l : PySem.W.Frag) (k : PySem.W.Frag → α), frcK l k = k l
  | [], _ => rfl
  | (a, o) :: r, k => by
    show HandSHeadRun.frNat a (fun a => frcK r fun r => k ((a, o) :: r)) = _
    rw [HandSHeadRun.frNat_eq, frcK_eq r]
def hookF (α : Type) (obs : PySem.W.Frag → α) (val : α) : PySem.W.Hook where
  α := α
  obs := fun s => obs (He.frG s.heap.get? (asK s.heap.get?))
  val := fun _ => val
  says := fun _ h => ∃ K : PySem.W.Frag, K.In h ∧ obs K = val
  of := fun _ _ e => ⟨_, He.frG_in, e⟩
  keeps := fun _ _ _ ⟨K, hK, c⟩ k => ⟨K, PySem.W.Frag.In.keeps hK k, c⟩
def obF {α : Type} (obs : PySem.W.Frag → α) (s : PySem.W.SharedT) : α := frcK (He.frG (HandSHeadRun.getT s) (asK (HandSHeadRun.getT s))) obs
theorem obF_eq {α : Type} {obs : PySem.W.Frag → α} {val : α} (s : PySem.W.SharedT) : obF obs s = (hookF α obs val).obs s.abs := by
  unfold obF
  rw [frcK_eq]
  have e : HandSHeadRun.getT s = s.abs.heap.get? := funext (HandSHeadRun.getT_eq s)
  rw [e]
  rfl
theorem map_two {S A B C D : Type} {e : Option S} {f : S → A} {g : S → B} {o : S → C} {o' : S → D} {a : A} {b : B} {c : C} {d : D} (h1 : e.map (fun s => (f s, g s, o s)) = some (a, b, c)) (h2 : e.map (fun s => o' s) = some d) :
    e.map (fun s => (f s, g s, (o s, o' s))) = some (a, b, (c, d)) := by
  cases e with
  | none => cases h1
  | some s =>
    have z1 : (f s, g s, o s) = (a, b, c) := Option.some.inj h1
    have z2 : o' s = d := Option.some.inj h2
    cases z2
    cases z1
    rfl
end XV
set_option Elab.async false
set_option linter.all false
set_option maxRecDepth 100000
set_option maxHeartbeats 0
namespace K4
open PySem PySem.Spec PyProof.Rows L2 XV
/-! ### what the top must say -/
def dF (x : Str) (i : Nat) : He.DefD := ⟨(x, none), x, x, defArgs (top i), defBody (top i), defScope (top i), [], []⟩
def dM (x q : Str) (s : Stmt) : He.DefD := ⟨("OpenText", some x), x, q, defArgs s, defBody s, defScope s, [], []⟩
def dI (x q : Str) (l : Nat) (fld : Str) : He.DefD := ⟨(x, some "__init__"), "__init__", q, initA fld ⟨l, 17, l, 21⟩ ⟨l, 23, l, 28⟩ ⟨l, 29, l, 33⟩, initB fld ⟨l + 1, 8, l + 1, 12⟩ ⟨l + 1, 8, l + 1, 18⟩ ⟨l + 1, 21, l + 1, 26⟩ ⟨l + 1, 8, l + 1, 26⟩, initS fld, [.non], []⟩
def fn : List He.DefD := [dI "InvalidText" "InvalidText.__init__" 22 "value", dI "InvalidPoint" "InvalidPoint.__init__" 14 "value", dI "InvalidWord" "InvalidWord.__init__" 10 "value", dI "InvalidNumber" "InvalidNumber.__init__" 6 "value", dI "TooLong" "TooLong.__init__" 30 "value", dF "is_whole" 12, dF "is_count" 13, dF "is_count_below" 14, dF "require_many" 15, dF "is_string_of_letters" 16, dF "is_letter" 17, dF "is_point" 18, dF "has_form" 20, dF "form_value" 21, dF "is_plain" 22, dF "form_times" 23, dF "sum_of_forms" 24, dF "plain_form" 25, dF "root_of" 27, dF "common_end" 28, dF "turned" 29, dF "letters_of_runs" 30, dF "normal" 35, dF "is_piece" 36, dF "measure" 37, dF "require_measure" 38, dF "normal_pieces" 39, dF "add_fixed" 40, dF "add_power" 41, dF "written" 44, dF "text_letter" 45, dF "length" 46, dF "letters" 47, dF "require_text" 48, dF "require_text_point" 49, dF "runs_at" 50, dF "letter_of_runs" 51, dF "_law_hash" 53, dF "_law_generator" 54, dF "_law_random" 55, dF "_law_word" 56, dF "_law_piece" 57, dF "_law_pieces" 58, dF "_law_value" 59, dF "_law_written" 60, dF "_law_letter" 61, dF "_law_forms_good" 62, dF "_law_letters_good" 63, dF "_law_written_good" 64, dF "_law_good" 65, dF "_law_caught" 66, dF "_law_only" 67, dF "_law_refused" 68, dF "law" 69, dM "__init__" "OpenText.__init__" sInit, dM "many" "OpenText.many" sManyT, dM "pieces" "OpenText.pieces" sPiecesT]
def fa : List He.Fa := [.glo "is_whole", .glo "is_count", .glo "is_count_below", .glo "require_many", .glo "is_string_of_letters", .glo "is_letter", .glo "is_point", .glo "has_form", .glo "form_value", .glo "is_plain", .glo "form_times", .glo "sum_of_forms", .glo "plain_form", .glo "root_of", .glo "common_end", .glo "turned", .glo "letters_of_runs", .glo "normal", .glo "is_piece", .glo "measure", .glo "require_measure", .glo "normal_pieces", .glo "add_fixed", .glo "add_power", .glo "written", .glo "text_letter", .glo "length", .glo "letters", .glo "require_text", .glo "require_text_point", .glo "runs_at", .glo "letter_of_runs", .glo "_law_hash", .glo "_law_generator", .glo "_law_random", .glo "_law_word", .glo "_law_piece", .glo "_law_pieces", .glo "_law_value", .glo "_law_written", .glo "_law_letter", .glo "_law_forms_good", .glo "_law_letters_good", .glo "_law_written_good", .glo "_law_good", .glo "_law_caught", .glo "_law_only", .glo "_law_refused", .glo "law", .glo "OpenText", .free "isinstance", .free "int", .free "bool", .free "str", .free "tuple", .free "list", .free "len", .free "all", .free "any", .free "sum", .free "range", .free "max", .free "min", .free "zip", .free "repr", .int "MOST_UNKNOWNS" 3, .int "LONGEST_WORD" 20000, .int "LONGEST_PIECE" 2000, .int "MOST_PIECES" 5000, .int "MOST_MEASURE" 2000, .cls "OpenText", .mkr "OpenText", .noat "OpenText" "_pieces", .noat "OpenText" "_many", .meth "OpenText" "many", .meth "OpenText" "pieces"]
abbrev GA (K : PySem.W.Frag) : Addr := He.ga K "OpenText"
def bxX (K : PySem.W.Frag) : Bool := (List.range 5).all fun i => xclsB K (nm4 i) "value"
def mroI (K : PySem.W.Frag) (i : Nat) : List Value := .ref (C4 K i) :: .ref (C4 K 5) :: He.veBase
def bxK (K : PySem.W.Frag) : Bool := ecls0B K "LoopError" && ((Nat.blt (C4 K 5) (C4 K 3) && (Nat.blt (C4 K 3) (C4 K 2) && (Nat.blt (C4 K 2) (C4 K 1) && (Nat.blt (C4 K 1) (C4 K 0) && Nat.blt (C4 K 0) (C4 K 4))))) && (((List.range 5).all fun i => mroB K (C4 K i) (mroI K i)) && mroB K (C4 K 5) (.ref (C4 K 5) :: He.veBase)))
def bxT (K : PySem.W.Frag) : Bool := He.eqO (PySem.W.findIn K (.ref (GA K)) "__class__") (some (some (.builtin "object.__class__"))) && (He.eqO (PySem.W.specialIn K (.builtin "object.__class__") "__get__") (some (some (.builtin "getset_descriptor.__get__"))) &&
  (decide (PySem.W.takesIn K (.builtin "object.__class__") = some true) && (decide (PySem.W.mroIn K (GA K) (.type "object") = some true) && (decide (PySem.W.kitOne K (.ref (GA K)) (.ref (GA K)) = some true) &&
  (tys.all fun T => decide (PySem.W.kitOne K (.type T) (.ref (GA K)) = some false))))))
def bx (K : PySem.W.Frag) : Bool := bxX K && (bxK K && bxT K)
end K4
set_option Elab.async false
set_option linter.all false
set_option maxRecDepth 100000
set_option maxHeartbeats 0
namespace K4
open PySem PySem.Spec PyProof.Rows L2 XV
section
variable {P : Program} {w : World} {K : PySem.W.Frag} {mg : Str → Option Value} {base h : Heap}
theorem cl_of (X : K.In h) (G : h.Ns mainGlobals mg) (c : He.SaysD fa fn K) (b : bx K = true) : Cl4 P w K mg base := by
  obtain ⟨b1, b⟩ := He.ba b
  obtain ⟨b2, _⟩ := He.ba b
  obtain ⟨b2, b⟩ := He.ba b2
  obtain ⟨k1, b⟩ := He.ba b
  obtain ⟨k3, k4⟩ := He.ba b
  obtain ⟨q1, k1⟩ := He.ba k1
  obtain ⟨q2, k1⟩ := He.ba k1
  obtain ⟨q3, k1⟩ := He.ba k1
  obtain ⟨q4, q5⟩ := He.ba k1
  have a53 : C4 K 5 < C4 K 3 := Nat.le_of_ble_eq_true q1
  have a32 : C4 K 3 < C4 K 2 := Nat.le_of_ble_eq_true q2
  have a21 : C4 K 2 < C4 K 1 := Nat.le_of_ble_eq_true q3
  have a10 : C4 K 1 < C4 K 0 := Nat.le_of_ble_eq_true q4
  have a04 : C4 K 0 < C4 K 4 := Nat.le_of_ble_eq_true q5
  have a31 : C4 K 3 < C4 K 1 := Nat.lt_trans a32 a21
  have a30 : C4 K 3 < C4 K 0 := Nat.lt_trans a31 a10
  have a34 : C4 K 3 < C4 K 4 := Nat.lt_trans a30 a04
  have a20 : C4 K 2 < C4 K 0 := Nat.lt_trans a21 a10
  have a24 : C4 K 2 < C4 K 4 := Nat.lt_trans a20 a04
  have a14 : C4 K 1 < C4 K 4 := Nat.lt_trans a10 a04
  have a52 : C4 K 5 < C4 K 2 := Nat.lt_trans a53 a32
  have a51 : C4 K 5 < C4 K 1 := Nat.lt_trans a53 a31
  have a50 : C4 K 5 < C4 K 0 := Nat.lt_trans a53 a30
  have a54 : C4 K 5 < C4 K 4 := Nat.lt_trans a53 a34
  have five : ∀ i, i < 5 → i = 0 ∨ i = 1 ∨ i = 2 ∨ i = 3 ∨ i = 4 := fun i h => by omega
  have lL : ∀ i, i < 5 → C4 K 5 < C4 K i := fun i hi => by
    rcases five i hi with rfl | rfl | rfl | rfl | rfl <;> assumption
  have ne : ∀ i, i < 5 → ∀ j, j < 5 → i ≠ j → ¬ C4 K i = C4 K j := fun i hi j hj hij => by
    rcases five i hi with rfl | rfl | rfl | rfl | rfl <;> rcases five j hj with rfl | rfl | rfl | rfl | rfl <;> first
      | exact absurd rfl hij
      | exact Nat.ne_of_lt (by assumption)
      | exact fun z => absurd z.symm (Nat.ne_of_lt (by assumption))
  have hm : ∀ i, i < 5 → mroB K (C4 K i) (mroI K i) = true := fun i hi => List.all_eq_true.mp k3 i (List.mem_range.mpr hi)
  have ct : ∀ i x, (mroI K i).contains (.ref x) = (decide (C4 K i = x) || decide (C4 K 5 = x)) := fun i x => by
    have e : ∀ y : Addr, (Value.ref x == Value.ref y) = decide (y = x) := fun y => by
      by_cases q : y = x
      · rw [q, decide_eq_true rfl]; exact beq_iff_eq.mpr rfl
      · rw [decide_eq_false q]; exact beq_eq_false_iff_ne.mpr (fun z => q (Value.ref.inj z).symm)
    have e2 : ∀ n : String, (Value.ref x == Value.type n) = false := fun n => beq_eq_false_iff_ne.mpr (fun z => by cases z)
    unfold mroI He.veBase
    simp only [List.contains_cons, List.contains_nil, e, e2, Bool.or_false]
  have hx : ∀ i, i < 5 → xclsB K (nm4 i) "value" = true := fun i hi => List.all_eq_true.mp b1 i (List.mem_range.mpr hi)
  have gL := (He.ba b2).1
  have eL : ExcC K (C4 K 5) := excB_ok (He.ba (He.ba (He.ba b2).2).2).2
  have tL := (mroB_ok k4).2
  refine ⟨?_, ?_, ?_, ?_, ?_, ?_, ?_⟩
  · intro i hi
    have x0 : ∃ fI fd, XCls P w K mg base (nm4 0) "value" (C4 K 0) fI fd := by
      obtain ⟨fd, F⟩ := c.def_ 0 (d := dI "InvalidText" "InvalidText.__init__" 22 "value") rfl
      exact ⟨_, fd, xcls_V (nm := "InvalidText") X G (hx 0 (by decide)) F⟩
    have x1 : ∃ fI fd, XCls P w K mg base (nm4 1) "value" (C4 K 1) fI fd := by
      obtain ⟨fd, F⟩ := c.def_ 1 (d := dI "InvalidPoint" "InvalidPoint.__init__" 14 "value") rfl
      exact ⟨_, fd, xcls_V (nm := "InvalidPoint") X G (hx 1 (by decide)) F⟩
    have x2 : ∃ fI fd, XCls P w K mg base (nm4 2) "value" (C4 K 2) fI fd := by
      obtain ⟨fd, F⟩ := c.def_ 2 (d := dI "InvalidWord" "InvalidWord.__init__" 10 "value") rfl
      exact ⟨_, fd, xcls_V (nm := "InvalidWord") X G (hx 2 (by decide)) F⟩
    have x3 : ∃ fI fd, XCls P w K mg base (nm4 3) "value" (C4 K 3) fI fd := by
      obtain ⟨fd, F⟩ := c.def_ 3 (d := dI "InvalidNumber" "InvalidNumber.__init__" 6 "value") rfl
      exact ⟨_, fd, xcls_V (nm := "InvalidNumber") X G (hx 3 (by decide)) F⟩
    have x4 : ∃ fI fd, XCls P w K mg base (nm4 4) "value" (C4 K 4) fI fd := by
      obtain ⟨fd, F⟩ := c.def_ 4 (d := dI "TooLong" "TooLong.__init__" 30 "value") rfl
      exact ⟨_, fd, xcls_V (nm := "TooLong") X G (hx 4 (by decide)) F⟩
    match i, hi with
    | 0, _ => exact x0
    | 1, _ => exact x1
    | 2, _ => exact x2
    | 3, _ => exact x3
    | 4, _ => exact x4
    | _ + 5, hi => exact absurd hi (by omega)
  · intro i hi
    by_cases q : i < 5
    · exact PySem.W.mg_of X G (He.eqO_ok (He.ba (hx i q)).1)
    · obtain rfl : i = 5 := by omega
      exact PySem.W.mg_of X G (He.eqO_ok gL)
  · intro i hi
    exact (xcls_E (hx i hi)).1
  · intro i hi
    exact (xcls_E (hx i hi)).2
  · intro i hi j hj
    rw [kit_mro (hm i hi) rfl (hm j hj) (fun e => by rw [ct, decide_eq_true e]; rfl), ct]
    have nL : ¬ C4 K 5 = C4 K j := fun z => absurd z (Nat.ne_of_lt (lL j hj))
    rw [decide_eq_false nL, Bool.or_false]
    by_cases q : i = j
    · rw [q, decide_eq_true rfl, decide_eq_true rfl]
    · rw [decide_eq_false q, decide_eq_false (ne i hi j hj q)]
  · intro i hi
    refine PySem.W.exm_ref eL.hs eL.hd tL ?_
    rw [sub_mro (hm i hi) rfl, ct, decide_eq_true (rfl : C4 K 5 = C4 K 5), Bool.or_true]
  · intro i hi
    have e2 : ExcC K (C4 K i) := (xcls_E (hx i hi)).1
    refine PySem.W.exm_ref e2.hs e2.hd (mroB_ok (hm i hi)).2 ?_
    rw [sub_mro (hm i hi) rfl, ct, decide_eq_true (rfl : C4 K i = C4 K i), Bool.true_or]
theorem tt_of (X : K.In h) (G : h.Ns mainGlobals mg) (c : He.SaysD fa fn K) (b : bx K = true) : TT K mg (GA K) := by
  obtain ⟨_, b⟩ := He.ba b
  obtain ⟨_, t⟩ := He.ba b
  obtain ⟨t1, t⟩ := He.ba t
  obtain ⟨t2, t⟩ := He.ba t
  obtain ⟨t3, t⟩ := He.ba t
  obtain ⟨t4, t⟩ := He.ba t
  obtain ⟨t5, t6⟩ := He.ba t
  exact ⟨⟨He.cls_ok (c.fact 70 (f := .cls "OpenText") rfl), He.eqO_ok t1, He.eqO_ok t2, of_decide_eq_true t3, of_decide_eq_true t4, of_decide_eq_true t5⟩, He.noat_ok (c.fact 72 (f := .noat "OpenText" "_pieces") rfl), He.noat_ok (c.fact 73 (f := .noat "OpenText" "_many") rfl), He.glo_ok X G (c.fact 49 (f := .glo "OpenText") rfl), fun T hT => of_decide_eq_true (List.all_eq_true.mp t6 T hT)⟩
theorem facts {f : Addr} (X : K.In h) (G : h.Ns mainGlobals mg) (hfa : mg ("law" : Str) = some (.ref f)) (c : He.SaysD fa fn K) (b : bx K = true) :
    ∃ fd : FuncData, (∀ (s : Shared) (v : Value), BindsTo s fd ⟨[v], []⟩ [("_law_script", v)]) ∧ ∀ base : Heap, K.In base → base.Ns mainGlobals mg → FnG P w K mg base CX0 9 f fd ["_law_script"] (spLaw K) := by
  obtain ⟨fd_is_whole, F_is_whole⟩ := c.def_ 5 (d := dF "is_whole" 12) rfl
  obtain ⟨fd_is_count, F_is_count⟩ := c.def_ 6 (d := dF "is_count" 13) rfl
  obtain ⟨fd_is_count_below, F_is_count_below⟩ := c.def_ 7 (d := dF "is_count_below" 14) rfl
  obtain ⟨fd_require_many, F_require_many⟩ := c.def_ 8 (d := dF "require_many" 15) rfl
  obtain ⟨fd_is_string_of_letters, F_is_string_of_letters⟩ := c.def_ 9 (d := dF "is_string_of_letters" 16) rfl
  obtain ⟨fd_is_letter, F_is_letter⟩ := c.def_ 10 (d := dF "is_letter" 17) rfl
  obtain ⟨fd_is_point, F_is_point⟩ := c.def_ 11 (d := dF "is_point" 18) rfl
  obtain ⟨fd_has_form, F_has_form⟩ := c.def_ 12 (d := dF "has_form" 20) rfl
  obtain ⟨fd_form_value, F_form_value⟩ := c.def_ 13 (d := dF "form_value" 21) rfl
  obtain ⟨fd_is_plain, F_is_plain⟩ := c.def_ 14 (d := dF "is_plain" 22) rfl
  obtain ⟨fd_form_times, F_form_times⟩ := c.def_ 15 (d := dF "form_times" 23) rfl
  obtain ⟨fd_sum_of_forms, F_sum_of_forms⟩ := c.def_ 16 (d := dF "sum_of_forms" 24) rfl
  obtain ⟨fd_plain_form, F_plain_form⟩ := c.def_ 17 (d := dF "plain_form" 25) rfl
  obtain ⟨fd_root_of, F_root_of⟩ := c.def_ 18 (d := dF "root_of" 27) rfl
  obtain ⟨fd_common_end, F_common_end⟩ := c.def_ 19 (d := dF "common_end" 28) rfl
  obtain ⟨fd_turned, F_turned⟩ := c.def_ 20 (d := dF "turned" 29) rfl
  obtain ⟨fd_letters_of_runs, F_letters_of_runs⟩ := c.def_ 21 (d := dF "letters_of_runs" 30) rfl
  obtain ⟨fd_normal, F_normal⟩ := c.def_ 22 (d := dF "normal" 35) rfl
  obtain ⟨fd_is_piece, F_is_piece⟩ := c.def_ 23 (d := dF "is_piece" 36) rfl
  obtain ⟨fd_measure, F_measure⟩ := c.def_ 24 (d := dF "measure" 37) rfl
  obtain ⟨fd_require_measure, F_require_measure⟩ := c.def_ 25 (d := dF "require_measure" 38) rfl
  obtain ⟨fd_normal_pieces, F_normal_pieces⟩ := c.def_ 26 (d := dF "normal_pieces" 39) rfl
  obtain ⟨fd_add_fixed, F_add_fixed⟩ := c.def_ 27 (d := dF "add_fixed" 40) rfl
  obtain ⟨fd_add_power, F_add_power⟩ := c.def_ 28 (d := dF "add_power" 41) rfl
  obtain ⟨fd_written, F_written⟩ := c.def_ 29 (d := dF "written" 44) rfl
  obtain ⟨fd_text_letter, F_text_letter⟩ := c.def_ 30 (d := dF "text_letter" 45) rfl
  obtain ⟨fd_length, F_length⟩ := c.def_ 31 (d := dF "length" 46) rfl
  obtain ⟨fd_letters, F_letters⟩ := c.def_ 32 (d := dF "letters" 47) rfl
  obtain ⟨fd_require_text, F_require_text⟩ := c.def_ 33 (d := dF "require_text" 48) rfl
  obtain ⟨fd_require_text_point, F_require_text_point⟩ := c.def_ 34 (d := dF "require_text_point" 49) rfl
  obtain ⟨fd_runs_at, F_runs_at⟩ := c.def_ 35 (d := dF "runs_at" 50) rfl
  obtain ⟨fd_letter_of_runs, F_letter_of_runs⟩ := c.def_ 36 (d := dF "letter_of_runs" 51) rfl
  obtain ⟨fd__law_hash, F__law_hash⟩ := c.def_ 37 (d := dF "_law_hash" 53) rfl
  obtain ⟨fd__law_generator, F__law_generator⟩ := c.def_ 38 (d := dF "_law_generator" 54) rfl
  obtain ⟨fd__law_random, F__law_random⟩ := c.def_ 39 (d := dF "_law_random" 55) rfl
  obtain ⟨fd__law_word, F__law_word⟩ := c.def_ 40 (d := dF "_law_word" 56) rfl
  obtain ⟨fd__law_piece, F__law_piece⟩ := c.def_ 41 (d := dF "_law_piece" 57) rfl
  obtain ⟨fd__law_pieces, F__law_pieces⟩ := c.def_ 42 (d := dF "_law_pieces" 58) rfl
  obtain ⟨fd__law_value, F__law_value⟩ := c.def_ 43 (d := dF "_law_value" 59) rfl
  obtain ⟨fd__law_written, F__law_written⟩ := c.def_ 44 (d := dF "_law_written" 60) rfl
  obtain ⟨fd__law_letter, F__law_letter⟩ := c.def_ 45 (d := dF "_law_letter" 61) rfl
  obtain ⟨fd__law_forms_good, F__law_forms_good⟩ := c.def_ 46 (d := dF "_law_forms_good" 62) rfl
  obtain ⟨fd__law_letters_good, F__law_letters_good⟩ := c.def_ 47 (d := dF "_law_letters_good" 63) rfl
  obtain ⟨fd__law_written_good, F__law_written_good⟩ := c.def_ 48 (d := dF "_law_written_good" 64) rfl
  obtain ⟨fd__law_good, F__law_good⟩ := c.def_ 49 (d := dF "_law_good" 65) rfl
  obtain ⟨fd__law_caught, F__law_caught⟩ := c.def_ 50 (d := dF "_law_caught" 66) rfl
  obtain ⟨fd__law_only, F__law_only⟩ := c.def_ 51 (d := dF "_law_only" 67) rfl
  obtain ⟨fd__law_refused, F__law_refused⟩ := c.def_ 52 (d := dF "_law_refused" 68) rfl
  obtain ⟨fd_law, F_law⟩ := c.def_ 53 (d := dF "law" 69) rfl
  obtain ⟨fdm___init__, Fm___init__⟩ := c.def_ 54 (d := dM "__init__" "OpenText.__init__" sInit) rfl
  obtain ⟨fdm_many, Fm_many⟩ := c.def_ 55 (d := dM "many" "OpenText.many" sManyT) rfl
  obtain ⟨fdm_pieces, Fm_pieces⟩ := c.def_ 56 (d := dM "pieces" "OpenText.pieces" sPiecesT) rfl
  have g_is_whole : mg "is_whole" = some (.ref (He.ga K "is_whole")) := He.glo_ok X G (c.fact 0 (f := .glo "is_whole") rfl)
  have g_is_count : mg "is_count" = some (.ref (He.ga K "is_count")) := He.glo_ok X G (c.fact 1 (f := .glo "is_count") rfl)
  have g_is_count_below : mg "is_count_below" = some (.ref (He.ga K "is_count_below")) := He.glo_ok X G (c.fact 2 (f := .glo "is_count_below") rfl)
  have g_require_many : mg "require_many" = some (.ref (He.ga K "require_many")) := He.glo_ok X G (c.fact 3 (f := .glo "require_many") rfl)
  have g_is_string_of_letters : mg "is_string_of_letters" = some (.ref (He.ga K "is_string_of_letters")) := He.glo_ok X G (c.fact 4 (f := .glo "is_string_of_letters") rfl)
  have g_is_letter : mg "is_letter" = some (.ref (He.ga K "is_letter")) := He.glo_ok X G (c.fact 5 (f := .glo "is_letter") rfl)
  have g_is_point : mg "is_point" = some (.ref (He.ga K "is_point")) := He.glo_ok X G (c.fact 6 (f := .glo "is_point") rfl)
  have g_has_form : mg "has_form" = some (.ref (He.ga K "has_form")) := He.glo_ok X G (c.fact 7 (f := .glo "has_form") rfl)
  have g_form_value : mg "form_value" = some (.ref (He.ga K "form_value")) := He.glo_ok X G (c.fact 8 (f := .glo "form_value") rfl)
  have g_is_plain : mg "is_plain" = some (.ref (He.ga K "is_plain")) := He.glo_ok X G (c.fact 9 (f := .glo "is_plain") rfl)
  have g_form_times : mg "form_times" = some (.ref (He.ga K "form_times")) := He.glo_ok X G (c.fact 10 (f := .glo "form_times") rfl)
  have g_sum_of_forms : mg "sum_of_forms" = some (.ref (He.ga K "sum_of_forms")) := He.glo_ok X G (c.fact 11 (f := .glo "sum_of_forms") rfl)
  have g_plain_form : mg "plain_form" = some (.ref (He.ga K "plain_form")) := He.glo_ok X G (c.fact 12 (f := .glo "plain_form") rfl)
  have g_root_of : mg "root_of" = some (.ref (He.ga K "root_of")) := He.glo_ok X G (c.fact 13 (f := .glo "root_of") rfl)
  have g_common_end : mg "common_end" = some (.ref (He.ga K "common_end")) := He.glo_ok X G (c.fact 14 (f := .glo "common_end") rfl)
  have g_turned : mg "turned" = some (.ref (He.ga K "turned")) := He.glo_ok X G (c.fact 15 (f := .glo "turned") rfl)
  have g_letters_of_runs : mg "letters_of_runs" = some (.ref (He.ga K "letters_of_runs")) := He.glo_ok X G (c.fact 16 (f := .glo "letters_of_runs") rfl)
  have g_normal : mg "normal" = some (.ref (He.ga K "normal")) := He.glo_ok X G (c.fact 17 (f := .glo "normal") rfl)
  have g_is_piece : mg "is_piece" = some (.ref (He.ga K "is_piece")) := He.glo_ok X G (c.fact 18 (f := .glo "is_piece") rfl)
  have g_measure : mg "measure" = some (.ref (He.ga K "measure")) := He.glo_ok X G (c.fact 19 (f := .glo "measure") rfl)
  have g_require_measure : mg "require_measure" = some (.ref (He.ga K "require_measure")) := He.glo_ok X G (c.fact 20 (f := .glo "require_measure") rfl)
  have g_normal_pieces : mg "normal_pieces" = some (.ref (He.ga K "normal_pieces")) := He.glo_ok X G (c.fact 21 (f := .glo "normal_pieces") rfl)
  have g_add_fixed : mg "add_fixed" = some (.ref (He.ga K "add_fixed")) := He.glo_ok X G (c.fact 22 (f := .glo "add_fixed") rfl)
  have g_add_power : mg "add_power" = some (.ref (He.ga K "add_power")) := He.glo_ok X G (c.fact 23 (f := .glo "add_power") rfl)
  have g_written : mg "written" = some (.ref (He.ga K "written")) := He.glo_ok X G (c.fact 24 (f := .glo "written") rfl)
  have g_text_letter : mg "text_letter" = some (.ref (He.ga K "text_letter")) := He.glo_ok X G (c.fact 25 (f := .glo "text_letter") rfl)
  have g_length : mg "length" = some (.ref (He.ga K "length")) := He.glo_ok X G (c.fact 26 (f := .glo "length") rfl)
  have g_letters : mg "letters" = some (.ref (He.ga K "letters")) := He.glo_ok X G (c.fact 27 (f := .glo "letters") rfl)
  have g_require_text : mg "require_text" = some (.ref (He.ga K "require_text")) := He.glo_ok X G (c.fact 28 (f := .glo "require_text") rfl)
  have g_require_text_point : mg "require_text_point" = some (.ref (He.ga K "require_text_point")) := He.glo_ok X G (c.fact 29 (f := .glo "require_text_point") rfl)
  have g_runs_at : mg "runs_at" = some (.ref (He.ga K "runs_at")) := He.glo_ok X G (c.fact 30 (f := .glo "runs_at") rfl)
  have g_letter_of_runs : mg "letter_of_runs" = some (.ref (He.ga K "letter_of_runs")) := He.glo_ok X G (c.fact 31 (f := .glo "letter_of_runs") rfl)
  have g__law_hash : mg "_law_hash" = some (.ref (He.ga K "_law_hash")) := He.glo_ok X G (c.fact 32 (f := .glo "_law_hash") rfl)
  have g__law_generator : mg "_law_generator" = some (.ref (He.ga K "_law_generator")) := He.glo_ok X G (c.fact 33 (f := .glo "_law_generator") rfl)
  have g__law_random : mg "_law_random" = some (.ref (He.ga K "_law_random")) := He.glo_ok X G (c.fact 34 (f := .glo "_law_random") rfl)
  have g__law_word : mg "_law_word" = some (.ref (He.ga K "_law_word")) := He.glo_ok X G (c.fact 35 (f := .glo "_law_word") rfl)
  have g__law_piece : mg "_law_piece" = some (.ref (He.ga K "_law_piece")) := He.glo_ok X G (c.fact 36 (f := .glo "_law_piece") rfl)
  have g__law_pieces : mg "_law_pieces" = some (.ref (He.ga K "_law_pieces")) := He.glo_ok X G (c.fact 37 (f := .glo "_law_pieces") rfl)
  have g__law_value : mg "_law_value" = some (.ref (He.ga K "_law_value")) := He.glo_ok X G (c.fact 38 (f := .glo "_law_value") rfl)
  have g__law_written : mg "_law_written" = some (.ref (He.ga K "_law_written")) := He.glo_ok X G (c.fact 39 (f := .glo "_law_written") rfl)
  have g__law_letter : mg "_law_letter" = some (.ref (He.ga K "_law_letter")) := He.glo_ok X G (c.fact 40 (f := .glo "_law_letter") rfl)
  have g__law_forms_good : mg "_law_forms_good" = some (.ref (He.ga K "_law_forms_good")) := He.glo_ok X G (c.fact 41 (f := .glo "_law_forms_good") rfl)
  have g__law_letters_good : mg "_law_letters_good" = some (.ref (He.ga K "_law_letters_good")) := He.glo_ok X G (c.fact 42 (f := .glo "_law_letters_good") rfl)
  have g__law_written_good : mg "_law_written_good" = some (.ref (He.ga K "_law_written_good")) := He.glo_ok X G (c.fact 43 (f := .glo "_law_written_good") rfl)
  have g__law_good : mg "_law_good" = some (.ref (He.ga K "_law_good")) := He.glo_ok X G (c.fact 44 (f := .glo "_law_good") rfl)
  have g__law_caught : mg "_law_caught" = some (.ref (He.ga K "_law_caught")) := He.glo_ok X G (c.fact 45 (f := .glo "_law_caught") rfl)
  have g__law_only : mg "_law_only" = some (.ref (He.ga K "_law_only")) := He.glo_ok X G (c.fact 46 (f := .glo "_law_only") rfl)
  have g__law_refused : mg "_law_refused" = some (.ref (He.ga K "_law_refused")) := He.glo_ok X G (c.fact 47 (f := .glo "_law_refused") rfl)
  have g_law : mg "law" = some (.ref (He.ga K "law")) := He.glo_ok X G (c.fact 48 (f := .glo "law") rfl)
  have z_isinstance : mg "isinstance" = none := He.free_ok X G (c.fact 50 (f := .free "isinstance") rfl)
  have z_int : mg "int" = none := He.free_ok X G (c.fact 51 (f := .free "int") rfl)
  have z_bool : mg "bool" = none := He.free_ok X G (c.fact 52 (f := .free "bool") rfl)
  have z_str : mg "str" = none := He.free_ok X G (c.fact 53 (f := .free "str") rfl)
  have z_tuple : mg "tuple" = none := He.free_ok X G (c.fact 54 (f := .free "tuple") rfl)
  have z_list : mg "list" = none := He.free_ok X G (c.fact 55 (f := .free "list") rfl)
  have z_len : mg "len" = none := He.free_ok X G (c.fact 56 (f := .free "len") rfl)
  have z_all : mg "all" = none := He.free_ok X G (c.fact 57 (f := .free "all") rfl)
  have z_any : mg "any" = none := He.free_ok X G (c.fact 58 (f := .free "any") rfl)
  have z_sum : mg "sum" = none := He.free_ok X G (c.fact 59 (f := .free "sum") rfl)
  have z_range : mg "range" = none := He.free_ok X G (c.fact 60 (f := .free "range") rfl)
  have z_max : mg "max" = none := He.free_ok X G (c.fact 61 (f := .free "max") rfl)
  have z_min : mg "min" = none := He.free_ok X G (c.fact 62 (f := .free "min") rfl)
  have z_zip : mg "zip" = none := He.free_ok X G (c.fact 63 (f := .free "zip") rfl)
  have z_repr : mg "repr" = none := He.free_ok X G (c.fact 64 (f := .free "repr") rfl)
  obtain ⟨t_MOST_UNKNOWNS, h_MOST_UNKNOWNS⟩ := He.int_ok X G (c.fact 65 (f := .int "MOST_UNKNOWNS" 3) rfl)
  obtain ⟨t_LONGEST_WORD, h_LONGEST_WORD⟩ := He.int_ok X G (c.fact 66 (f := .int "LONGEST_WORD" 20000) rfl)
  obtain ⟨t_LONGEST_PIECE, h_LONGEST_PIECE⟩ := He.int_ok X G (c.fact 67 (f := .int "LONGEST_PIECE" 2000) rfl)
  obtain ⟨t_MOST_PIECES, h_MOST_PIECES⟩ := He.int_ok X G (c.fact 68 (f := .int "MOST_PIECES" 5000) rfl)
  obtain ⟨t_MOST_MEASURE, h_MOST_MEASURE⟩ := He.int_ok X G (c.fact 69 (f := .int "MOST_MEASURE" 2000) rfl)
  have MK : Mk K (GA K) (He.ma K (GA K) "__init__") := He.mkr_ok (c.fact 71 (f := .mkr "OpenText") rfl)
  obtain ⟨ma1, ma2, ma3⟩ := He.meth_ok (c.fact 74 (f := .meth "OpenText" "many") rfl)
  obtain ⟨ml1, ml2, ml3⟩ := He.meth_ok (c.fact 75 (f := .meth "OpenText" "pieces") rfl)
  have T := tt_of X G c b
  have eL := hfa.symm.trans g_law
  cases eL
  have bL := FunD.bindsA (ps := ["_law_script"]) F_law fun _ _ _ _ _ _ us hl => match us, hl with | [_], _ => rfl
  refine ⟨fd_law, fun s v => bL s [v] rfl, fun base Xb _ => ?_⟩
  have Z : Cl4 P w K mg base := cl_of X G c b
  have o__law_hash := Ok.mk' (P := P) (w := w) (base := base) F__law_hash g__law_hash (fun _ _ _ _ _ _ us hl => match us, hl with | [_, _], _ => rfl) (ok_hash F__law_hash z_int)
  have o__law_random := Ok.mk' (P := P) (w := w) (base := base) F__law_random g__law_random (fun _ _ _ _ _ _ us hl => match us, hl with | [_, _], _ => rfl) (ok_rand F__law_random o__law_hash z_int z_range)
  have o__law_generator := Ok.mk' (P := P) (w := w) (base := base) F__law_generator g__law_generator (fun _ _ _ _ _ _ us hl => match us, hl with | [_, _], _ => rfl) (ok_gen F__law_generator z_int z_len z_sum z_max)
  have o_is_whole := Ok.mk' (P := P) (w := w) (base := base) F_is_whole g_is_whole (fun _ _ _ _ _ _ us hl => match us, hl with | [_], _ => rfl) (ok_whole F_is_whole z_isinstance z_int z_bool)
  have o_is_count := Ok.mk' (P := P) (w := w) (base := base) F_is_count g_is_count (fun _ _ _ _ _ _ us hl => match us, hl with | [_], _ => rfl) (ok_count F_is_count o_is_whole)
  have o_is_count_below := Ok.mk' (P := P) (w := w) (base := base) F_is_count_below g_is_count_below (fun _ _ _ _ _ _ us hl => match us, hl with | [_, _], _ => rfl) (ok_below F_is_count_below o_is_count)
  have o_is_point := Ok.mk' (P := P) (w := w) (base := base) F_is_point g_is_point (fun _ _ _ _ _ _ us hl => match us, hl with | [_, _], _ => rfl) (ok_isPoint F_is_point o_is_count z_isinstance z_list z_len z_all)
  have o_has_form := Ok.mk' (P := P) (w := w) (base := base) F_has_form g_has_form (fun _ _ _ _ _ _ us hl => match us, hl with | [_, _], _ => rfl) (ok_hasForm F_has_form o_is_count z_isinstance z_tuple z_len z_all)
  have o_form_value := Ok.mk' (P := P) (w := w) (base := base) F_form_value g_form_value (fun _ _ _ _ _ _ us hl => match us, hl with | [_, _], _ => rfl) (ok_formValue F_form_value z_sum z_zip)
  have o_form_times := Ok.mk' (P := P) (w := w) (base := base) F_form_times g_form_times (fun _ _ _ _ _ _ us hl => match us, hl with | [_, _], _ => rfl) (ok_times F_form_times z_tuple)
  have o_sum_of_forms := Ok.mk' (P := P) (w := w) (base := base) F_sum_of_forms g_sum_of_forms (fun _ _ _ _ _ _ us hl => match us, hl with | [_, _], _ => rfl) (ok_sum F_sum_of_forms z_tuple z_sum z_range)
  have o_plain_form := Ok.mk' (P := P) (w := w) (base := base) F_plain_form g_plain_form (fun _ _ _ _ _ _ us hl => match us, hl with | [_, _], _ => rfl) (ok_plain F_plain_form z_tuple)
  have o_is_plain := Ok.mk' (P := P) (w := w) (base := base) F_is_plain g_is_plain (fun _ _ _ _ _ _ us hl => match us, hl with | [_], _ => rfl) (ok_plainQ F_is_plain z_any)
  have o_is_string_of_letters := Ok.mk' (P := P) (w := w) (base := base) F_is_string_of_letters g_is_string_of_letters (fun _ _ _ _ _ _ us hl => match us, hl with | [_], _ => rfl) (ok_letters F_is_string_of_letters z_isinstance z_str)
  have l_is_string_of_letters := Ok.mk' (P := P) (w := w) (base := base) F_is_string_of_letters g_is_string_of_letters (fun _ _ _ _ _ _ us hl => match us, hl with | [_], _ => rfl) (ok_low F_is_string_of_letters z_isinstance z_str)
  have o_is_letter := Ok.mk' (P := P) (w := w) (base := base) F_is_letter g_is_letter (fun _ _ _ _ _ _ us hl => match us, hl with | [_], _ => rfl) (ok_isLetter F_is_letter l_is_string_of_letters z_len)
  have o_root_of := Ok.mk' (P := P) (w := w) (base := base) F_root_of g_root_of (fun _ _ _ _ _ _ us hl => match us, hl with | [_], _ => rfl) (ok_root F_root_of )
  have o_common_end := Ok.mk' (P := P) (w := w) (base := base) F_common_end g_common_end (fun _ _ _ _ _ _ us hl => match us, hl with | [_, _], _ => rfl) (ok_common F_common_end z_len)
  have o_turned := Ok.mk' (P := P) (w := w) (base := base) F_turned g_turned (fun _ _ _ _ _ _ us hl => match us, hl with | [_, _], _ => rfl) (ok_turned F_turned z_len)
  have o_add_fixed := Ok.mk' (P := P) (w := w) (base := base) F_add_fixed g_add_fixed (fun _ _ _ _ _ _ us hl => match us, hl with | [_, _, _], _ => rfl) (ok_addF F_add_fixed o_plain_form)
  have o_add_power := Ok.mk' (P := P) (w := w) (base := base) F_add_power g_add_power (fun _ _ _ _ _ _ us hl => match us, hl with | [_, _, _, _], _ => rfl) (ok_addP F_add_power o_is_plain o_sum_of_forms)
  have o_normal_pieces := Ok.mk' (P := P) (w := w) (base := base) F_normal_pieces g_normal_pieces (fun _ _ _ _ _ _ us hl => match us, hl with | [_, _], _ => rfl) (ok_np F_normal_pieces o_is_plain o_root_of o_form_times o_common_end o_turned o_add_fixed o_add_power z_any z_len)
  have o_require_many := Ok.mk' (P := P) (w := w) (base := base) F_require_many g_require_many (fun _ _ _ _ _ _ us hl => match us, hl with | [_], _ => rfl) (ok_reqMany F_require_many o_is_count_below h_MOST_UNKNOWNS)
  have o_is_piece := Ok.mk' (P := P) (w := w) (base := base) F_is_piece g_is_piece (fun _ _ _ _ _ _ us hl => match us, hl with | [_, _], _ => rfl) (ok_isPiece F_is_piece o_is_string_of_letters o_has_form z_isinstance z_tuple z_len h_LONGEST_PIECE)
  have o_measure := Ok.mk' (P := P) (w := w) (base := base) F_measure g_measure (fun _ _ _ _ _ _ us hl => match us, hl with | [_], _ => rfl) (ok_measure F_measure o_is_plain z_sum z_len)
  have o_require_measure := Ok.mk' (P := P) (w := w) (base := base) F_require_measure g_require_measure (fun _ _ _ _ _ _ us hl => match us, hl with | [_], _ => rfl) (ok_reqMeas F_require_measure h_MOST_MEASURE)
  have o_normal := Ok.mk' (P := P) (w := w) (base := base) F_normal g_normal (fun _ _ _ _ _ _ us hl => match us, hl with | [_, _], _ => rfl) (ok_normal F_normal o_require_many o_is_piece o_measure o_require_measure o_normal_pieces z_isinstance z_list z_len h_MOST_PIECES)
  have FI := ok_init (P := P) (w := w) (base := base) Fm___init__ T o_normal
  have o_mk : OkMkT P w K mg base (GA K) := ⟨_, _, MK, FI, FunD.bindsN Fm___init__ fun _ _ _ _ _ _ us hl => match us, hl with | [_, _, _], _ => rfl, T.g⟩
  have o_many : OkMt P w K mg base (GA K) "many" (spManyT (GA K)) := ⟨_, _, ok_manyT Fm_many T, ⟨ma1, ma2, ma3⟩, FunD.bindsN Fm_many fun _ _ _ _ _ _ us hl => match us, hl with | [_], _ => rfl⟩
  have o_pieces : OkMt P w K mg base (GA K) "pieces" (spPiecesT (GA K)) := ⟨_, _, ok_piecesT Fm_pieces T z_list, ⟨ml1, ml2, ml3⟩, FunD.bindsN Fm_pieces fun _ _ _ _ _ _ us hl => match us, hl with | [_], _ => rfl⟩
  have o_runs_at := Ok.mk' (P := P) (w := w) (base := base) F_runs_at g_runs_at (fun _ _ _ _ _ _ us hl => match us, hl with | [_, _], _ => rfl) (ok_runs F_runs_at o_form_value)
  have o_letters_of_runs := Ok.mk' (P := P) (w := w) (base := base) F_letters_of_runs g_letters_of_runs (fun _ _ _ _ _ _ us hl => match us, hl with | [_], _ => rfl) (ok_letR F_letters_of_runs z_sum z_len)
  have o_letter_of_runs := Ok.mk' (P := P) (w := w) (base := base) F_letter_of_runs g_letter_of_runs (fun _ _ _ _ _ _ us hl => match us, hl with | [_, _], _ => rfl) (ok_ltr F_letter_of_runs z_len)
  have x_require_text := OkX.mk' (P := P) (w := w) (base := base) F_require_text g_require_text (fun _ _ _ _ _ _ us hl => match us, hl with | [_], _ => rfl) (ok_reqText F_require_text T Z z_isinstance)
  have x_require_text_point := OkX.mk' (P := P) (w := w) (base := base) F_require_text_point g_require_text_point (fun _ _ _ _ _ _ us hl => match us, hl with | [_, _], _ => rfl) (ok_reqTP F_require_text_point T Z x_require_text o_many o_is_point)
  have x_text_letter := OkX.mk' (P := P) (w := w) (base := base) F_text_letter g_text_letter (fun _ _ _ _ _ _ us hl => match us, hl with | [_, _, _], _ => rfl) (ok_tletter F_text_letter T Z x_require_text_point o_pieces o_runs_at o_letters_of_runs o_letter_of_runs o_is_count_below)
  have x_length := OkX.mk' (P := P) (w := w) (base := base) F_length g_length (fun _ _ _ _ _ _ us hl => match us, hl with | [_], _ => rfl) (ok_length F_length T x_require_text o_many o_pieces o_form_times o_sum_of_forms z_len)
  have x_letters := OkX.mk' (P := P) (w := w) (base := base) F_letters g_letters (fun _ _ _ _ _ _ us hl => match us, hl with | [_, _], _ => rfl) (ok_lettersT F_letters T Z x_require_text o_is_letter o_many o_pieces o_form_times o_sum_of_forms)
  have x_written := OkX.mk' (P := P) (w := w) (base := base) F_written g_written (fun _ _ _ _ _ _ us hl => match us, hl with | [_, _], _ => rfl) (ok_written F_written T Z x_require_text_point o_pieces o_runs_at o_letters_of_runs h_LONGEST_WORD)
  have k_text_letter := OkKX.mk' (P := P) (w := w) (base := base) F_text_letter g_text_letter (fun _ _ _ _ _ _ us hl => match us, hl with | [_, _, _], _ => rfl) (ok_tletter F_text_letter T Z x_require_text_point o_pieces o_runs_at o_letters_of_runs o_letter_of_runs o_is_count_below)
  have k_length := OkKX.mk' (P := P) (w := w) (base := base) F_length g_length (fun _ _ _ _ _ _ us hl => match us, hl with | [_], _ => rfl) (ok_length F_length T x_require_text o_many o_pieces o_form_times o_sum_of_forms z_len)
  have k_letters := OkKX.mk' (P := P) (w := w) (base := base) F_letters g_letters (fun _ _ _ _ _ _ us hl => match us, hl with | [_, _], _ => rfl) (ok_lettersT F_letters T Z x_require_text o_is_letter o_many o_pieces o_form_times o_sum_of_forms)
  have k_written := OkKX.mk' (P := P) (w := w) (base := base) F_written g_written (fun _ _ _ _ _ _ us hl => match us, hl with | [_, _], _ => rfl) (ok_written F_written T Z x_require_text_point o_pieces o_runs_at o_letters_of_runs h_LONGEST_WORD)
  have o__law_value := Ok.mk' (P := P) (w := w) (base := base) F__law_value g__law_value (fun _ _ _ _ _ _ us hl => match us, hl with | [_, _], _ => rfl) (ok_lvalue F__law_value z_sum z_range z_len)
  have o__law_letter := Ok.mk' (P := P) (w := w) (base := base) F__law_letter g__law_letter (fun _ _ _ _ _ _ us hl => match us, hl with | [_, _, _], _ => rfl) (ok_lletter F__law_letter o__law_value z_len z_int)
  have o__law_word := Ok.mk' (P := P) (w := w) (base := base) F__law_word g__law_word (fun _ _ _ _ _ _ us hl => match us, hl with | [_, _], _ => rfl) (ok_lword F__law_word o__law_random z_range)
  have o__law_piece := Ok.mk' (P := P) (w := w) (base := base) F__law_piece g__law_piece (fun _ _ _ _ _ _ us hl => match us, hl with | [_, _, _, _], _ => rfl) (ok_lpiece F__law_piece o__law_random o__law_word z_len z_tuple z_range)
  have o__law_pieces := Ok.mk' (P := P) (w := w) (base := base) F__law_pieces g__law_pieces (fun _ _ _ _ _ _ us hl => match us, hl with | [_, _, _, _], _ => rfl) (ok_lpieces F__law_pieces o__law_random o__law_piece z_range)
  have o__law_forms_good := OkG.mk' (P := P) (w := w) (base := base) F__law_forms_good g__law_forms_good (fun _ _ _ _ _ _ us hl => match us, hl with | [_, _, _], _ => rfl) (ok_formsGood F__law_forms_good x_length.calm k_length.calm x_letters.calm k_letters.calm z_tuple z_sum z_range z_len z_repr)
  have o__law_written_good := Ok.mk' (P := P) (w := w) (base := base) F__law_written_good g__law_written_good (fun _ _ _ _ _ _ us hl => match us, hl with | [_, _, _], _ => rfl) (ok_writtenGood F__law_written_good Z o__law_value x_written k_written.calm z_sum z_len)
  have o__law_letters_good := Ok.mk' (P := P) (w := w) (base := base) F__law_letters_good g__law_letters_good (fun _ _ _ _ _ _ us hl => match us, hl with | [_, _, _, _], _ => rfl) (ok_lettersGood F__law_letters_good Z o__law_value x_length.calm o__law_random x_text_letter.calm k_text_letter o__law_letter z_sum z_len z_range z_max z_min)
  have o__law_good := OkG.mk' (P := P) (w := w) (base := base) F__law_good g__law_good (fun _ _ _ _ _ _ us hl => match us, hl with | [_, _, _], _ => rfl) (ok_good F__law_good o_mk o__law_forms_good o__law_written_good o__law_letters_good o__law_random z_list z_range)
  have o__law_caught := OkG.mk' (P := P) (w := w) (base := base) F__law_caught g__law_caught (fun _ _ _ _ _ _ us hl => match us, hl with | [_, _], _ => rfl) (ok_caught F__law_caught Z x_written x_text_letter x_letters x_length z_isinstance z_repr)
  have o__law_only := OkG.mk' (P := P) (w := w) (base := base) F__law_only g__law_only (fun _ _ _ _ _ _ us hl => match us, hl with | [_, _], _ => rfl) (ok_only F__law_only z_range z_repr)
  have o__law_refused := OkG.mk' (P := P) (w := w) (base := base) F__law_refused g__law_refused (fun _ _ _ _ _ _ us hl => match us, hl with | [_], _ => rfl) (ok_refused F__law_refused o__law_caught o__law_only z_range)
  exact ok_law F_law o__law_generator o__law_random o__law_good o__law_pieces o_mk x_written.calm x_length.calm x_letters.calm x_text_letter.calm o__law_written_good o__law_refused z_range z_len
end
end K4
set_option Elab.async false
set_option linter.all false
set_option maxRecDepth 100000
set_option maxHeartbeats 0
namespace K4
open PySem PySem.Spec PyProof.Rows L2 XV
abbrev R : PySem.W.OpenRow := PySem.W.OpenLaw.row PySem.Challenge.rw_openloops_k04_whole_words_and_letters
abbrev qv : Program := PySem.W.view R.prog [69]
def names : List PySem.Str := (["LoopError", "InvalidNumber", "InvalidWord", "InvalidPoint", "InvalidPieces", "InvalidText", "InvalidPiece", "TooLong", "MOST_UNKNOWNS", "LONGEST_WORD", "is_whole", "is_count", "is_count_below", "require_many", "is_string_of_letters", "is_letter", "is_point", "has_form", "form_value", "is_plain"] : List PySem.Str) ++ (["form_times", "sum_of_forms", "plain_form", "root_of", "common_end", "turned", "letters_of_runs", "LONGEST_PIECE", "MOST_PIECES", "MOST_MEASURE", "normal", "is_piece", "measure", "require_measure", "normal_pieces", "add_fixed", "add_power", "OpenText", "written", "text_letter"] : List PySem.Str) ++ (["length", "letters", "require_text", "require_text_point", "runs_at", "letter_of_runs", "_law_hash", "_law_generator", "_law_random", "_law_word", "_law_piece", "_law_pieces", "_law_value", "_law_written", "_law_letter", "_law_forms_good", "_law_letters_good", "_law_written_good", "_law_good", "_law_caught", "_law_only", "_law_refused"] : List PySem.Str)
noncomputable abbrev endR (w : World) (os : OsState) : Option PySem.W.SharedT := HandSHeadRun.endF (HandSHeadRun.stepQ (HandSHeadRun.denQ HandSHeadRun.tabQ) R.prog w) 12000 R.prog w os
end K4
set_option Elab.async false
set_option linter.all false
set_option maxRecDepth 100000
set_option maxHeartbeats 0
namespace K4
open PySem PySem.Spec PyProof.Rows L2 XV
def obsK (K : PySem.W.Frag) : He.AlD × Bool := (He.obsD fa fn K, bx K)
abbrev hk : PySem.W.Hook := hookF (He.AlD × Bool) obsK (He.valD fn, true)
def ob (s : PySem.W.SharedT) : He.AlD × Bool := obF obsK s
theorem ob_eq (s : PySem.W.SharedT) : ob s = hk.obs s.abs := obF_eq (val := (He.valD fn, true)) s
theorem run (w : World) : HandSHeadRun.RunEq R qv hk ob 12000 names w := by
  intro os
  kernel_rfl
end K4
set_option Elab.async false
set_option linter.all false
set_option maxRecDepth 100000
set_option maxHeartbeats 0
open PySem PySem.W PySem.Calls PyProof.Rows
theorem PySem.Challenge.cw_openloops_k04_whole_words_and_letters_holds : PySem.Challenge.rw_openloops_k04_whole_words_and_letters.Holds := by
  w_on; o_law
  refine HandSHeadRun.head_any (r := OpenLaw.row PySem.Challenge.rw_openloops_k04_whole_words_and_letters) (q := view (OpenLaw.row PySem.Challenge.rw_openloops_k04_whole_words_and_letters).prog [69]) (H := K4.hk) (ob := K4.ob) (M := 12000) (loose := K4.names)
    (d := HandSHeadRun.topDef (OpenLaw.row PySem.Challenge.rw_openloops_k04_whole_words_and_letters).prog 69) (kwd := []) K4.ob_eq
    (by kernel_rfl) (fun s => by kernel_rfl) K4.run (by kernel_rfl) (by kernel_rfl) (by kernel_rfl) (by rfl) (by first | assumption | decide +kernel) (by decide +kernel) ⟨rfl, rfl, rfl, rfl, rfl, by decide +kernel⟩ ?hw ?hc
  case hw => w_witness2
  case hc =>
    refine XV.walk_ofG (l := PySem.Challenge.rw_openloops_k04_whole_words_and_letters) (n := 63) (k := 9) (x := "_law_script") rfl (by decide) (by kernel_rfl) ⟨rfl, by decide, by decide⟩ ?F
    intro w mg fa h Y G hmg0
    obtain ⟨K, KX, cb⟩ := Y
    have c : He.SaysD K4.fa K4.fn K := congrArg Prod.fst cb
    have b : K4.bx K = true := congrArg Prod.snd cb
    have hmg : mg ("law" : PySem.Str) = some (.ref fa) := by
      have e : (HandSHeadRun.topDef (OpenLaw.row PySem.Challenge.rw_openloops_k04_whole_words_and_letters).prog 69).name = ("law" : PySem.Str) := by kernel_rfl
      rw [← e]
      exact hmg0
    obtain ⟨fd, hb, hF⟩ := K4.facts (P := (PySem.Challenge.rw_openloops_k04_whole_words_and_letters).prog) (w := w) KX G hmg c b
    exact ⟨K, fd, K4.spLaw K, KX, hb, fun H a ns hl _ hS => ⟨a, ns, rfl, hS, hl, fun _ => rfl⟩, hF⟩
