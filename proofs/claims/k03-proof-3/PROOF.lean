import PyProof.Rows.All
import Wide.All
import OpenK.AllK
import Wide.FinOn
import KE.KSuper
import KE.KExcSuper
import KE.KIsAll
import KE.KTryMore
import HandS.ForExc
import HandS.ExcInit
import HandS.ExcIs
import HandS.IsInst
import HandS.ForMost
import HandS.More
import HandS.Wide
import PySem.Challenge.RW_stuckrows_k03_errors_as_told
set_option Elab.async false
set_option linter.all false
set_option maxRecDepth 100000
set_option maxHeartbeats 8000000
namespace PySem
namespace XE
open PySem.W PySem.Calls PyProof.Rows PySem.HandSPX

section
variable {prog : Program} {w : World} {A : Around} {E : Value → Shared → Prop} {R : Result → Shared → Prop} {H : Heap} {gs : Array GenState} {dr : Drawn} {tk : Nat} {os : OsState}
  {nm qn : Str} {C N : Addr} {bs bm sub : List Value} {sn : List Str} {ab : Bool} {col : Option Bool} {dd : Option Addr} {k0 k1 k2 k3 k5 : Option Value} {as : List Value} {kw : List (Str × Value)} {fI : Addr}
/-- an own class over ValueError is made, whatever the keywords: the check of __new__'s call -/
theorem kwCheck {M : Model} (hv : refsVE bm = true) {Q : Unit → Shared → Prop} (hC : H.get? C = some (excClassObj nm qn C N bs bm true sn sub ab col dd k0 k1 k2 k3 k5 "ValueError.__new__")) (hQ : Q () ⟨H, gs, dr, tk, os⟩) :
    wpAny M A (checkBuiltinCall "ValueError.__new__" ⟨.ref C :: as, kw⟩) Q E ⟨H, gs, dr, tk, os⟩ := by
  have FV := F.excBase_ValueError
  have sV : (Value.ref C :: bm).contains (.type "ValueError") = true := by
    rw [List.contains_cons, refsVE_contains _ _ hv]; rfl
  have st := FV.noStar
  simp only [checkBuiltinCall, FV.newKind, FV.newSplit, FV.newRow]
  repeat (first
    | with_reducible refine wpAny_loadPart_at hC ?_
    | (with_reducible refine wpAny_isSubtype_exc hC ?_
       rw [sV])
    | with_reducible refine wpAny_madeBy_exc hC ?_
    | with_reducible refine wpAny_staticBase_exc hC ?_
    | simp only [bne_self_eq_false, Bool.false_eq_true, if_false]
    | wp_step)
  exact hQ
/-- .. and the object itself is laid -/
theorem kwNew (hv : refsVE bm = true) (hz : as.length ≤ sizeLine) (hC : H.get? C = some (excClassObj nm qn C N bs bm true sn sub ab col dd k0 k1 k2 k3 k5 "ValueError.__new__"))
    (hR : R (.ok (.ret (.ref (H.objs.size + 1)))) ⟨(H.push (kdv_tup as)).push (excO C H.objs.size), gs, dr, tk, os⟩) :
    codeAny (model prog w) A (.builtin "ValueError.__new__" ⟨.ref C :: as, kw⟩) R ⟨H, gs, dr, tk, os⟩ := by
  have FV := F.excBase_ValueError
  have en := FV.ends
  have has : ∀ X : String, (Value.ref C :: bm).contains (.type X) = veTail.contains (.type X) := fun X => by
    rw [List.contains_cons, refsVE_contains _ _ hv]; rfl
  have sV : (Value.ref C :: bm).contains (.type "ValueError") = true := (has _).trans (by decide +kernel)
  have sA : (Value.ref C :: bm).contains (.type "AttributeError") = false := (has _).trans (by decide +kernel)
  have sN : (Value.ref C :: bm).contains (.type "NameError") = false := (has _).trans (by decide +kernel)
  refine codeAny_builtinAt FV.entry ?_
  unfold Builtin.«BaseException.__new__»
  refine wpAt_bind (show wpAt _ _ _ (stack >>= _) _ _ _ from wpAt_bind (wpAt_stack fun _ _ => wpAt_of_wpAny ?_))
  wp_walk
  refine wpAt_of_wpAny ?_
  rw [FV.owner]
  repeat (first
    | with_reducible refine wpAny_madeHere_exc FV.canon hC ?_
    | with_reducible refine wpAny_loadPart_at hC ?_
    | (with_reducible refine wpAny_isSubtype_exc hC ?_
       first | rw [sV] | rw [sA] | rw [sN])
    | wp_step)
  show R _ _
  rw [Heap.size_push]
  exact hR
/-- C(..) with keywords: the object, then the class's own __init__ -/
theorem kwCall (hv : refsVE bm = true) (hz : as.length ≤ sizeLine) (hC : H.get? C = some (excClassObj nm qn C N bs bm true sn sub ab col dd k0 k1 k2 k3 k5 "ValueError.__new__"))
    (hi : Looks (model prog w) H (typeLookup (.ref C) "__init__") (some (.ref fI))) (hb : ∀ o, Looks (model prog w) H (bindSpecial (.ref fI) o) (.ref fI, [o]))
    (hR : codeAny (model prog w) (A.under (.builtin "type.__call__" ⟨.ref C :: as, kw⟩)) (.call (.ref fI) ⟨.ref (H.objs.size + 1) :: as, kw⟩) (InitBack (H.objs.size + 1) R)
      ⟨(H.push (kdv_tup as)).push (excO C H.objs.size), gs, dr, tk, os⟩) :
    codeAny (model prog w) A (.call (.ref C) ⟨as, kw⟩) R ⟨H, gs, dr, tk, os⟩ := by
  have FV := F.excBase_ValueError
  have a1 := tc_lookup
  have a2 := tc_bind (.ref C)
  have a3 : (⟨H, gs, dr, tk, os⟩ : Shared).TypeIs (.ref C) "type" := ⟨_, hC, rfl⟩
  have up : ∀ b o, H.get? b = some o → ((H.push (kdv_tup as)).push (excO C H.objs.size)).get? b = some o := fun b o e => Heap.get?_push_of_some _ (Heap.get?_push_of_some _ e)
  have at1 : ((H.push (kdv_tup as)).push (excO C H.objs.size)).get? (H.objs.size + 1) = some (excO C H.objs.size) := by heap_get
  have C1 := up _ _ hC
  have sC : (Value.ref C :: bm).contains (.ref C) = true := by simp
  have mid : ∀ {A' : Around} {Q : Fin → Shared → Prop} {E : Value → Shared → Prop}, codeAny (model prog w) A' (.call (.ref fI) ⟨.ref (H.objs.size + 1) :: as, kw⟩)
      (fun r s' => match r with | .ok (.ret v) => v = .none ∧ Q (.done (.ret (.ref (H.objs.size + 1)))) s' | .ok _ => False | .error e => E e s')
      ⟨(H.push (kdv_tup as)).push (excO C H.objs.size), gs, dr, tk, os⟩ → wpAny (model prog w) A' (Builtin.«type.__call__» ⟨.ref C :: as, kw⟩) Q E ⟨H, gs, dr, tk, os⟩ := by
    intro A' Q E hq
    repeat (first
      | with_reducible refine wpAny_madeBy_exc hC ?_
      | with_reducible refine wpAny_loadPart_at hC ?_
      | wp_step)
    refine codeAny_call_builtin_code (Code.quiet_builtin _ FV.quiet) (kwCheck hv hC (kwNew hv hz hC ?_))
    show wpAny _ _ _ _ _ _
    unfold isInstance
    repeat (first
      | (with_reducible refine wpAny_isSubtype_exc C1 ?_
         rw [sC])
      | with_reducible refine wpAny_loadPart_at at1 ?_
      | wp_step)
    refine (hi.keeps up).at ?_
    refine wpAny_holding (wpAny_bind (((hb (.ref (H.objs.size + 1))).keeps up).at ?_))
    refine wpAny_bind (wpAny_call (codeAny_mono hq fun r s' z => ?_))
    cases r with
    | error e => exact z
    | ok f =>
      cases f with
      | ret v =>
        obtain ⟨z1, z2⟩ := z
        subst z1
        first
          | exact wpAny_pure (wpAny_pure z2)
          | (wp_walk
             exact z2)
      | next => exact z.elim
      | brk => exact z.elim
      | cont => exact z.elim
  refine codeAny_of_tree (show wpAny _ _ (callAny (.ref C) _) _ _ _ from ?_)
  repeat (any_goals (first | assumption | with_reducible refine wpAny_loadPart_at hC ?_ | wp_step))
  refine ⟨rfl, codeAny_call_builtin_at (Code.quiet_builtin _ (by decide +kernel)) entry_typeCall (wpAny_check_type_call_sub hC (mid ?_))⟩
  refine codeAny_mono hR fun r s' z => ?_
  rcases r with e | (v | _ | _ | _) <;> exact z
end
end XE
end PySem
namespace PySem
namespace XE
open PySem.W PySem.Calls PyProof.Rows PySem.HandSPX
/-- the parameters of an own __init__: self and the fields -/
def iArg (p : Pos) (f : Str) : Arg := { arg := f, annotation := none, pos := p }
def iArgs (p : Pos) (l : List (Pos × Str)) : Arguments := { posonlyargs := [], args := iArg p "self" :: l.map fun q => iArg q.1 q.2, vararg := none, kwonlyargs := [], kw_defaults := [], kwarg := none, defaults := [] }
/-- super().__init__('..') -/
def iSup (m : Str) (j : Nat) (p1 p2 p3 p4 p5 p6 : Pos) : Stmt := .Expr (.Call (.Attribute (.Call (.Name "super" p1) [] [] p2) "__init__" p3) [.Constant (.str m) j p4] [] p5) p6
/-- self.f = f -/
def iSet (f : Str) (q1 q2 q3 q4 : Pos) : Stmt := .Assign [.Attribute (.Name "self" q1) f q2] (.Name f q3) q4
/-- the facts of an own error class at C whose own __init__ stands at fI -/
structure XT (K : Frag) (mg : Str → Option Value) (x : Str) (C : Addr) : Prop where
  gC : mg x = some (.ref C)
  kC : keepIn K (.ref C) = true
  cls : ∃ nm q N bs bm sn sub ab col dd k0 k1 k2 k3 k5, K.lookup C = some (excClassObj nm q C N bs bm true sn sub ab col dd k0 k1 k2 k3 k5 "ValueError.__new__") ∧ refsVE bm = true ∧ alongIn K "__init__" bm = some (some (.builtin "ValueError.__init__"))
  sa : findIn K (.ref C) "__setattr__" = some (some (.builtin "object.__setattr__"))
  ga : findIn K (.ref C) "__getattribute__" = some (some (.builtin "BaseException.__getattribute__"))
  gg : findIn K (.ref C) "__getattr__" = some none
  hsB : subIn K (.ref C) (.type "BaseException") = some true
  hsV : subIn K (.ref C) (.type "ValueError") = some true
  tyC : typeIn K (.ref C) = some (.type "type")
  hd : hasDictIn K C = true
  ha : findIn K (.ref C) "__class__" = some (some (.builtin "object.__class__"))
  hm : mroIn K C (.type "object") = some true
  hself : mroIn K C (.ref C) = some true
/-- what all of them share -/
structure XG0 (K : Frag) : Prop where
  hn : specialIn K (.builtin "object.__class__") "__get__" = some (some (.builtin "getset_descriptor.__get__"))
  ht : takesIn K (.builtin "object.__class__") = some true
structure XG (prog : Program) (K : Frag) : Prop extends XG0 K where
  op : nsIn K cStatics "thirdparty.any" = some none
  sup : nsIn K mainGlobals "super" = some none
  top : (prog.main.scope.names.lookup ("super" : Str)).isSome = false
/-- its __init__, at fI: the fields fl in order; body behind super().__init__ -/
structure XI (prog : Program) (K : Frag) (C fI : Addr) (fl : List Str) (rest : List Stmt) : Prop where
  fi : findIn K (.ref C) "__init__" = some (some (.ref fI))
  ti : typeIn K (.ref fI) = some (.type "function")
  fn : ∃ (oc : Value) (od : Option Addr) (q : Str) (kV doc pm ct : Value) (an : Option Addr) (cda : Addr) (osl : Array (Option Value)) (l : List (Pos × Str)) (p p1 p2 p3 p4 p5 p6 : Pos) (m : Str) (j : Nat) (scope : Scope) (cc : Addr)
      (ccl cl : Value) (cdd cld : Option Addr) (vs : Array Value) (ccs csl : Array (Option Value)) (file : Str) (tf : Tok),
    K.lookup fI = some ⟨oc, od, .func (fnX "__init__" q (iArgs p l) (iSup m j p1 p2 p3 p4 p5 p6 :: rest) scope [("__class__", cc)] .none kV doc pm an (.ref cda) ct), osl⟩ ∧ codeIn K (.ref cda) q = true ∧ l.map (·.2) = fl ∧
    K.lookup cda = some ⟨ccl, cdd, .fields vs, ccs⟩ ∧ vs[2]? = some (.str file tf) ∧ ((prog.main.file : Str) == file) = true ∧ K.lookup cc = some ⟨cl, cld, .cell (some (.ref C)), csl⟩ ∧
    (p3.endLine == p5.line) = true ∧ scope.kind = .function ∧ scope.isCoroutine = false ∧ scope.isGenerator = false ∧ (∀ x ∈ scope.names, x.2 ≠ .cell) ∧ scope.names.lookup ("super" : Str) = some .globalImplicit ∧ scope.names.lookup ("__class__" : Str) = some .free ∧
    scope.names.lookup ("self" : Str) = some .local ∧ ∀ f ∈ fl, scope.names.lookup f = some .local
section
variable {prog : Program} {w : World} {A : Around} {E : Value → Shared → Prop} {R : Result → Shared → Prop} {s : Shared} {K : Frag} {mg mb : Str → Option Value} {x : Str} {C fI : Addr} {fl : List Str} {rest : List Stmt}
theorem lookup_rev {α : Type} {n : Str} {v : α} : ∀ {l : List (Str × α)}, (l.map (·.1)).Nodup → (n, v) ∈ l → l.reverse.lookup n = some v := by
  have key : ∀ (l : List (Str × α)), (l.map (·.1)).Nodup → (n, v) ∈ l → l.lookup n = some v := by
    intro l
    induction l with
    | nil => intro _ h; cases h
    | cons p l ih =>
      intro hn h
      obtain ⟨a, b⟩ := p
      simp only [List.map_cons, List.nodup_cons] at hn
      rcases List.mem_cons.mp h with e | h
      · cases e
        simp [List.lookup]
      · have ne : n ≠ a := fun e => hn.1 (List.mem_map.mpr ⟨_, h, e⟩)
        have e : (n == a) = false := by simpa using ne
        simp only [List.lookup, e]
        exact ih hn.2 h
  intro l hn h
  refine key _ ?_ (List.mem_reverse.mpr h)
  rw [List.map_reverse]
  exact List.pairwise_reverse.mpr (hn.imp fun h => Ne.symm h)
theorem sup_eq {m : Str} {j : Nat} {p1 p2 p3 p4 p5 : Pos} {env : Env} (hp : (p3.endLine == p5.line) = true) :
    ∃ pl : Sem Bool, eval (.Call (.Attribute (.Call (.Name "super" p1) [] [] p2) "__init__" p3) [.Constant (.str m) j p4] [] p5) env = (do
      let ov ← attributeBase (.Call (.Name "super" p1) [] [] p2) "__init__" env (eval (.Call (.Name "super" p1) [] [] p2) env)
      standAt p3.atName
      let (f, first) ← holding [ov] (getMethod ov "__init__" pl)
      callWith p5 f first (backTo p5 (starEach [.Constant (.str m) j p4] env)) []) := by
  refine ⟨(do return (← importBound (.Call (.Name "super" p1) [] [] p2) env).getD true), ?_⟩
  have e : methodCallPos true (.Call (.Name "super" p1) [] [] p2) env p3 p5 = pure p5 := by
    unfold methodCallPos
    rw [hp]
    rfl
  show (attributeBase _ _ env _ >>= fun ov => standAt _ >>= fun _ => methodCall _ _ p3 p5 env ov 1 (backTo p5 (starEach [.Constant (.str m) j p4] env)) []) = _
  unfold methodCall
  have hf : methodCallForm 1 (backTo p5 (starEach [.Constant (.str m) j p4] env)) [] = true := rfl
  rw [hf, e]
  rfl
/-- the instance e at the fields' stores: the frame at L holds self and the fields -/
theorem init_enter (T : XT K mg x C) (G : XG prog K) (I : XI prog K C fI fl rest) {e t0 : Addr} {us : List Value} {args : Args} (X : K.In s.heap) (hlim : s.heap.NoLimit) (hg : s.heap.Ns mainGlobals mg) (hmg : mg "super" = none)
    (hb : s.heap.Ns builtinsNs mb) (hbv : mb "super" = some (.type "super"))
    (he : s.heap.get? e = some (excO C t0)) (hroom : A.depth < recursionLimit) (hlen : us.length = fl.length) (hnd : ("self" :: fl : List Str).Nodup)
    (hbind : ∀ fd, (∃ oc od osl, K.lookup fI = some ⟨oc, od, .func fd, osl⟩) → BindsTo s fd args (("self", .ref e) :: fl.zip us))
    (h : ∀ (env : Env) (h₁ : Heap) (t1 : Addr) (tk : Nat), env.scope.kind = .function → env.kindOf "self" = some .local → (∀ f ∈ fl, env.kindOf f = some .local) → h₁.Ns env.locals (fun y => ((("self", Value.ref e) :: fl.zip us : List (Str × Value)).reverse).lookup y) → s.heap.objs.size ≤ env.locals → env.locals ≠ e →
      (∀ b o, b ≠ e → s.heap.get? b = some o → h₁.get? b = some o) → h₁.get? e = some (excO C t1) →
      wpAny (model prog w) (A.deeper env) (execs rest env) (fun f s' => R (.ok (.ret (match f with | .ret v => v | _ => .none))) s')
        (fun e s' => wpAny (model prog w) (A.deeper env) (leaving env e) (fun _ s'' => R (.error e) s'') (fun e' s'' => R (.error e') s'') s') { s with heap := h₁, toks := tk }) :
    codeAny (model prog w) A (.call (.ref fI) args) R s := by
  obtain ⟨oc, od, q, kV, doc, pm, ct, an, cda, osl, l, p, p1, p2, p3, p4, p5, p6, m, j, scope, cc, ccl, cl, cdd, cld, vs, ccs, csl, file, tf, lk, hcd, hfl, lkc, hvs, hfile, lkcc, hpp, hk, hco, hgen, hcell, hks, hkc, hself, hloc⟩ := I.fn
  obtain ⟨nm, qq, N, bs, bm, sn, sub, ab, col, dd, k0, k1, k2, k3, k5, hC, hbm, hal⟩ := T.cls
  have hcl : clsIn K C = some { name := nm, bases := bs, mro := .ref C :: bm, ns := N, qualname := qq, hasDict := true, slotNames := sn, subclasses := sub, abstract := ab, collection := col, hasDel := false } := by unfold clsIn; rw [hC] <;> rfl
  have hloc2 : ∀ y ∈ (("self", .ref e) :: fl.zip us : List (Str × Value)), scope.names.lookup y.1 = some .local := by
    intro y hy
    rcases List.mem_cons.mp hy with rfl | hy
    · exact hself
    · exact hloc _ (List.of_mem_zip hy).1
  refine ks_codeAny_call_defAt (fd := fnX "__init__" q (iArgs p l) (iSup m j p1 p2 p3 p4 p5 p6 :: rest) scope [("__class__", cc)] .none kV doc pm an (.ref cda) ct) (body := iSup m j p1 p2 p3 p4 p5 p6 :: rest) (binds := ("self", .ref e) :: fl.zip us)
    hroom (X _ _ lk) rfl hlim (codeRec_of X hcd) rfl (hbind _ ⟨_, _, _, lk⟩) hcell hloc2 (fun h₁ hns hk₁ => ?_) hco hgen hk
  have X1 : K.In h₁ := X.keeps hk₁
  obtain ⟨pl, heq⟩ := sup_eq (m := m) (j := j) (p1 := p1) (p2 := p2) (p4 := p4) (env := callEnv (fnX "__init__" q (iArgs p l) (iSup m j p1 p2 p3 p4 p5 p6 :: rest) scope [("__class__", cc)] .none kV doc pm an (.ref cda) ct) s.heap.objs.size fI) hpp
  refine ks_wpAt_execs_cons (ks_wpAt_Expr_any (ks_wpAt_MethodCall (pl := pl) ?_ heq) (by simp [interactive, callEnv, newEnv, hk]))
  have hvself : (("self", .ref e) :: fl.zip us : List (Str × Value)).reverse.lookup ("self" : Str) = some (.ref e) := by
    refine lookup_rev ?_ List.mem_cons_self
    have : (("self", Value.ref e) :: fl.zip us : List (Str × Value)).map (·.1) = ("self" : Str) :: fl := by
      rw [List.map_cons]
      congr 1
      rw [List.map_fst_zip]
      omega
    rw [this]
    exact hnd
  have hsub : mroIn K C (.ref C) = some true := T.hself
  have he1 : h₁.get? e = some (excO C t0) := hk₁ _ _ he
  have hC1 := X1 _ _ hC
  refine ks_wpAt_super_base (f := fI) (cc := cda) (ar := iArg p "self") hks hkc (by decide) rfl (X1 _ _ lk) rfl rfl rfl (X1 _ _ lkc) rfl hvs hfile G.top ?_
  refine ks_loadName_global hk hks (loadGlobal_builtin (hg.keeps hk₁) hmg (hb.keeps hk₁) hbv ⟨rfl, ?_⟩)
  refine wpAny_loadName_free hk hkc rfl ⟨_, X1 _ _ lkcc, rfl⟩ ?_
  refine wpAny_loadName_local hk hself hns hvself ?_
  refine ks_wpAny_isType_cls hC1 rfl ⟨rfl, ?_⟩
  refine ks_wpAny_call_super hC1 rfl he1 rfl (fun c z => nomatch z) (looks_mroIn X1 hsub) (fun h₂ hso k2 => ?_)
  have X2 : K.In h₂ := X1.keeps k2
  have he2 := k2 _ _ he1
  have hxC : e ≠ C := fun z => by
    rw [z, hC1] at he1
    cases he1
  have Ie : InstAt h₂ e (excO C t0) C none := ⟨he2, rfl, rfl, trivial⟩
  have hI : Looks (model prog w) h₂ (isInstance (.ref e) (.type "ValueError")) true := Ie.type.andThen (looks_subIn X2 T.hsV)
  refine kxs_getMethod kxs_ValueError (x := e) (C := C) (D := C) (K := K) (l₀ := .ref C :: bm) (l := bm) hso (looks_opaque X2 G.op) (fun A Q E s k q => wpAny_bind ((looks_clsIn X2 hcl) A _ E s k (wpAny_pure q))) (by simp [List.dropWhile_cons]) X2 hal hI hxC (by decide) ?_
  have hup : ∀ b o, h₂.get? b = some o → (h₂.push (kxs_mw "ValueError.__init__" e)).get? b = some o := fun b o z => Heap.get?_push_of_some _ z
  have hu : (h₂.push (kxs_mw "ValueError.__init__" e)).get? h₂.objs.size = some (kxs_mw "ValueError.__init__" e) := Heap.get?_push_at rfl rfl
  have X3 : K.In (h₂.push (kxs_mw "ValueError.__init__" e)) := X2.keeps hup
  have he3 := hup _ _ he2
  have hC3 := X3 _ _ hC
  generalize henv : callEnv (fnX "__init__" q (iArgs p l) (iSup m j p1 p2 p3 p4 p5 p6 :: rest) scope [("__class__", cc)] .none kV doc pm an (.ref cda) ct) s.heap.objs.size fI = env at *
  show wpAny _ _ (callWith p5 (.ref h₂.objs.size) [] (backTo p5 (starEach [.Constant (.str m) j p4] env)) []) _ _ _
  refine kxs_callWith (i := "ValueError.__init__") (x := e) rfl (evalArgs_plain ?_)
  show wpAny _ _ (spliced ((false, eval (.Constant (.str m) j p4) env) :: backTo p5 (starEach [] env))) _ _ _
  refine Calls.spliced_cons (Calls.Constant_str ?_)
  refine Calls.spliced_nil ⟨hu, ?_⟩
  show wpAny _ _ (call (.ref h₂.objs.size) [Value.str m _]) _ _ _
  refine wpAny_call (codeAny_of_tree ?_)
  show wpAny _ (A.deeper env).in1 (callAny (.ref h₂.objs.size) ⟨[Value.str m _], []⟩) _ _ _
  simp only [callAny]
  refine wpAny_bind (wpAny_load hu ?_)
  simp only [kxs_mw, show (Value.type "method-wrapper" == Value.type "method" || Value.type "method-wrapper" == Value.type "builtin_function_or_method" || Value.type "method-wrapper" == Value.type "method-wrapper") = true by decide, if_true]
  refine KFB.if_so (by decide) ?_
  refine wpAny_bind (check_bound_init F.excBase_ValueError.toExcCallFacts hC3 he3 rfl ?_)
  refine wpAny_bind (wpAny_pure (wpAny_pure ?_))
  refine ⟨plainId_quiet F.excBase_ValueError.init.plain _, codeAny_builtin F.excBase_ValueError.initEntry ?_⟩
  refine exc_init_tree (cls := .ref C) (t0 := t0) (dv := none) (c2 := .none) (c3 := .none) (b4 := .bool false) he3 (by show 1 ≤ sizeLine; rw [sizeLine_eq]; omega) (fun h4 k4 he4 _ => ?_)
  have kAll : ∀ b o, b ≠ e → s.heap.get? b = some o → h4.get? b = some o := fun b o hb z => k4 b o hb (hup b o (k2 b o (hk₁ b o z)))
  have hL : env.locals = s.heap.objs.size := by rw [← henv]; rfl
  have heL : env.locals ≠ e := by
    rw [hL]
    exact Nat.ne_of_gt (Heap.lt_size he)
  have hns4 : h4.Ns env.locals (fun y => ((("self", Value.ref e) :: fl.zip us : List (Str × Value)).reverse).lookup y) := by
    have hns' : h₁.Ns env.locals (fun y => ((("self", Value.ref e) :: fl.zip us : List (Str × Value)).reverse).lookup y) := by
      rw [hL]
      exact hns
    obtain ⟨oL, es, ep, hoL, r⟩ := hns'
    exact ⟨oL, es, ep, k4 _ _ heL (hup _ _ (k2 _ _ hoL)), r⟩
  show wpAt _ _ _ (execs rest env) _ _ _
  refine wpAt_of_wpAny ?_
  exact h env h4 _ _ (by rw [← henv]; exact hk) (by rw [← henv]; exact hself) (fun f hf => by rw [← henv]; exact hloc f hf) hns4 (Nat.le_of_eq hL.symm) heL kAll he4
end
end XE
end PySem
namespace PySem
namespace XE
open PySem.W PySem.Calls PyProof.Rows PySem.HandSPX
/-- behind __init__: the error at e has its own dict at dx, which holds the fields -/
structure InitE (h h' : Heap) (e C dx t1 : Addr) (fvs : List (Str × Value)) : Prop where
  keep : ∀ b o, b ≠ e → h.get? b = some o → h'.get? b = some o
  obj : h'.get? e = some { cls := .ref C, dict := some dx, data := .fields #[.ref t1, .none, .none, .none, .bool false, .none] }
  dbig : h.objs.size ≤ dx
  dne : dx ≠ e
  ns : ∃ mA, h'.Ns1 dx mA ∧ ∀ y, mA y = fvs.lookup y
/-- the fields that a class stores, each by self.f = f -/
def setsOf : List (Str × Pos × Pos × Pos × Pos) → List Stmt
  | [] => []
  | (f, q1, q2, q3, q4) :: l => iSet f q1 q2 q3 q4 :: setsOf l
section
variable {prog : Program} {w : World} {A : Around} {E : Value → Shared → Prop} {R : Result → Shared → Prop} {s : Shared} {K : Frag} {mg mb : Str → Option Value} {x : Str} {C fI : Addr} {fl : List Str} {rest : List Stmt}
theorem lookup_if {α : Type} (f y : Str) (v : α) (l : List (Str × α)) : ((f, v) :: l).lookup y = if y = f then some v else l.lookup y := by
  by_cases h : y = f
  · subst h
    simp [List.lookup]
  · have e : (y == f) = false := by simpa using h
    rw [if_neg h]
    simp [List.lookup, e]
/-- one store: self.f = f, the name f holding v -/
theorem set_one {env : Env} {m : Str → Option Value} {e : Addr} {f : Str} {v : Value} {q1 q2 q3 q4 : Pos} {Q : Flow → Shared → Prop} (hk : env.scope.kind = .function) (hs : env.kindOf "self" = some .local) (hf : env.kindOf f = some .local) (hn : s.heap.Ns env.locals m)
    (ms : m "self" = some (.ref e)) (mf : m f = some v) (h : wpAny (model prog w) A (setAttr (.ref e) f v) (fun _ => Q .next) E s)
    (hd : (f == ("__debug__" : Str)) = false) : wpAny (model prog w) A (exec (iSet f q1 q2 q3 q4) env) Q E s := by
  refine plainObj_wpAny_Assign_Attribute ?_ rfl
  exact wpAny_Name (wpAny_loadName_local hk hf hn mf (wpAny_Name (wpAny_loadName_local hk hs hn ms h) (by decide))) hd
/-- the stores one after another, from an error that has some of its fields already -/
theorem sets_run (T : XT K mg x C) {env : Env} {e t1 : Addr} (hk : env.scope.kind = .function) (hs : env.kindOf "self" = some .local) (heL : env.locals ≠ e) :
    ∀ (l : List (Str × Pos × Pos × Pos × Pos)) (us : List Value) (m : Str → Option Value) (s : Shared) (dx : Addr) (fvs : List (Str × Value)) {Q : Flow → Shared → Prop} {E : Value → Shared → Prop}, K.In s.heap → s.heap.Ns env.locals m → m "self" = some (.ref e) →
      (∀ p ∈ (l.map (·.1)).zip us, m p.1 = some p.2) → us.length = l.length → (∀ p ∈ l, findIn K (.ref C) p.1 = some none ∧ env.kindOf p.1 = some .local ∧ (p.1 == ("__debug__" : Str)) = false) → env.locals ≠ dx → dx ≠ e → K.lookup dx = none → K.lookup e = none → fvs.length + l.length ≤ 100 →
      s.heap.get? e = some { cls := .ref C, dict := some dx, data := .fields #[.ref t1, .none, .none, .none, .bool false, .none] } → (∃ mA, s.heap.Ns1 dx mA ∧ ∀ y, mA y = fvs.lookup y) →
      (∀ h' tk, (∀ b o, b ≠ dx → s.heap.get? b = some o → h'.get? b = some o) → (∃ mA, h'.Ns1 dx mA ∧ ∀ y, mA y = ((((l.map (·.1)).zip us).reverse) ++ fvs).lookup y) → Q .next { s with heap := h', toks := tk }) →
      wpAny (model prog w) A (execs (setsOf l) env) Q E s := by
  obtain ⟨nm, qq, N, bs, bm, sn, sub, ab, col, dd, k0, k1, k2, k3, k5, hC, hbm, hal⟩ := T.cls
  have hcl : clsIn K C = some { name := nm, bases := bs, mro := .ref C :: bm, ns := N, qualname := qq, hasDict := true, slotNames := sn, subclasses := sub, abstract := ab, collection := col, hasDel := false } := by unfold clsIn; rw [hC] <;> rfl
  intro l
  induction l with
  | nil =>
    intro us m s dx fvs Q E X hn ms hz hlen hfs hLd hde hKd hKe hsz he hns hQ
    have : us = [] := List.length_eq_zero_iff.mp hlen
    subst this
    exact wpAny_execs_nil (hQ s.heap s.toks (fun _ _ _ z => z) hns)
  | cons p l ih =>
    intro us m s dx fvs Q E X hn ms hz hlen hfs hLd hde hKd hKe hsz he hns hQ
    obtain ⟨f, q1, q2, q3, q4⟩ := p
    cases us with
    | nil => simp at hlen
    | cons v us =>
      obtain ⟨hno, hkf, hdb⟩ := hfs _ List.mem_cons_self
      have mf : m f = some v := hz (f, v) (by simp)
      obtain ⟨mA, hns1, hmA⟩ := hns
      obtain ⟨oD, _, _, hoD, _, _⟩ := hns1.count (ns := fvs.map (·.1)) (by
        intro y hy
        rw [hmA y] at hy
        have key : ∀ (L : List (Str × Value)), L.lookup y ≠ none → y ∈ L.map (·.1) := by
          intro L
          induction L with
          | nil => intro z; exact absurd rfl z
          | cons a L ih2 =>
            intro z
            obtain ⟨a1, a2⟩ := a
            rw [lookup_if] at z
            by_cases ey : y = a1
            · rw [ey]; exact List.mem_cons_self
            · rw [if_neg ey] at z
              exact List.mem_cons_of_mem _ (ih2 z)
        exact key fvs hy)
      have hw : Within mA (fvs.map (·.1)) := by
        intro y hy
        rw [hmA y] at hy
        have key : ∀ (L : List (Str × Value)), L.lookup y ≠ none → y ∈ L.map (·.1) := by
          intro L
          induction L with
          | nil => intro z; exact absurd rfl z
          | cons a L ih2 =>
            intro z
            obtain ⟨a1, a2⟩ := a
            rw [lookup_if] at z
            by_cases ey : y = a1
            · rw [ey]; exact List.mem_cons_self
            · rw [if_neg ey] at z
              exact List.mem_cons_of_mem _ (ih2 z)
        exact key fvs hy
      show wpAny _ _ (execs (iSet f q1 q2 q3 q4 :: setsOf l) env) _ _ _
      refine wpAny_execs_cons (set_one hk hs hkf hn ms mf ?_ hdb)
      obtain ⟨hp, g, d, t, os⟩ := s
      refine set_plain X (ox := { cls := .ref C, dict := some dx, data := .fields #[.ref t1, .none, .none, .none, .bool false, .none] }) (od := some oD) ⟨he, rfl, rfl, hoD⟩ T.sa ?_
      refine PySem.OEX.osa_old X he hns1 hw (by rw [List.length_map]; simp only [List.length_cons] at hsz; omega) hcl (show refsVE (.ref C :: bm) = true from hbm) rfl hno (fun h₂ tk₂ k₂ hn₂ => ?_)
      have X2 : K.In h₂ := fun a o z => k₂ a o (fun e2 => by rw [e2, hKd] at z; cases z) (X a o z)
      have hnF : h₂.Ns env.locals m := by
        obtain ⟨oL, es, ep, hoL, r⟩ := hn
        exact ⟨oL, es, ep, k₂ _ _ hLd hoL, r⟩
      show wpAny _ _ (execs (setsOf l) env) _ _ _
      refine ih us m ⟨h₂, g, d, tk₂, os⟩ dx ((f, v) :: fvs) X2 hnF ms (fun p hp => hz p (by simp only [List.map_cons, List.zip_cons_cons]; exact List.mem_cons_of_mem _ hp)) (by simpa using hlen) (fun p hp => hfs p (List.mem_cons_of_mem _ hp)) hLd hde hKd hKe (by simp only [List.length_cons] at hsz ⊢; omega) (k₂ _ _ (Ne.symm hde) he)
        ⟨_, hn₂, fun y => by rw [lookup_if, hmA y]⟩ ?_
      intro h' tk k' hns'
      refine hQ h' tk (fun b o hb z => k' b o hb (k₂ b o hb z)) ?_
      obtain ⟨mB, hB, hmB⟩ := hns'
      refine ⟨mB, hB, fun y => ?_⟩
      rw [hmB y]
      simp only [List.map_cons, List.zip_cons_cons, List.reverse_cons, List.append_assoc, List.singleton_append]
end
end XE
end PySem
namespace PySem
namespace XE
open PySem.W PySem.Calls PyProof.Rows PySem.HandSPX
section
variable {prog : Program} {w : World} {A : Around} {E : Value → Shared → Prop} {R : Result → Shared → Prop} {s : Shared} {K : Frag} {mg mb : Str → Option Value} {x : Str} {C fI : Addr}
theorem not_in {h : Heap} {a : Addr} (X : K.In h) (ha : h.objs.size ≤ a) : K.lookup a = none := by
  cases e : K.lookup a with
  | none => rfl
  | some o => exact absurd (Heap.lt_size (X _ _ e)) (Nat.not_lt.mpr ha)
theorem zip_fst {α : Type} : ∀ {l : List Str} {us : List α}, us.length = l.length → (l.zip us).map (·.1) = l
  | [], [], _ => rfl
  | a :: l, b :: us, h => by
    simp only [List.zip_cons_cons, List.map_cons]
    rw [zip_fst (by simpa using h)]
/-- an own __init__ over a fresh error at e -/
theorem init_run (T : XT K mg x C) (G : XG prog K) {l : List (Str × Pos × Pos × Pos × Pos)} (I : XI prog K C fI (l.map (·.1)) (setsOf l)) (hl : l ≠ []) (hl9 : l.length ≤ 9) {e t0 : Addr} {us : List Value} {args : Args}
    (X : K.In s.heap) (hlim : s.heap.NoLimit) (hg : s.heap.Ns mainGlobals mg) (hmg : mg "super" = none) (hb : s.heap.Ns builtinsNs mb) (hbv : mb "super" = some (.type "super"))
    (he : s.heap.get? e = some (excO C t0)) (hKe : K.lookup e = none) (hroom : A.depth < recursionLimit) (hlen : us.length = l.length) (hnd : ("self" :: l.map (·.1) : List Str).Nodup)
    (hno : ∀ p ∈ l, findIn K (.ref C) p.1 = some none ∧ (p.1 == ("__debug__" : Str)) = false)
    (hbind : ∀ fd, (∃ oc od osl, K.lookup fI = some ⟨oc, od, .func fd, osl⟩) → BindsTo s fd args (("self", .ref e) :: (l.map (·.1)).zip us))
    (hq : ∀ h' tk dx t1, InitE s.heap h' e C dx t1 (((l.map (·.1)).zip us).reverse) → R (.ok (.ret .none)) { s with heap := h', toks := tk }) :
    codeAny (model prog w) A (.call (.ref fI) args) R s := by
  refine init_enter T G I (us := us) (t0 := t0) X hlim hg hmg hb hbv he hroom (by simpa using hlen) hnd hbind ?_
  intro env h₁ t1 tk hk hs hfl hns hLs hLe k1 he1
  obtain ⟨nm, qq, N, bs, bm, sn, sub, ab, col, dd, k0, k1', k2', k3, k5, hC, hbm, hal⟩ := T.cls
  have hcl : clsIn K C = some { name := nm, bases := bs, mro := .ref C :: bm, ns := N, qualname := qq, hasDict := true, slotNames := sn, subclasses := sub, abstract := ab, collection := col, hasDel := false } := by unfold clsIn; rw [hC] <;> rfl
  have X1 : K.In h₁ := fun a o z => k1 a o (fun e2 => by rw [e2, hKe] at z; cases z) (X a o z)
  have hzn : ((("self", Value.ref e) :: (l.map (·.1)).zip us : List (Str × Value)).map (·.1)).Nodup := by
    rw [List.map_cons, zip_fst (by simpa using hlen)]
    exact hnd
  have m0 : (("self", Value.ref e) :: (l.map (·.1)).zip us : List (Str × Value)).reverse.lookup ("self" : Str) = some (.ref e) := lookup_rev hzn List.mem_cons_self
  have mz : ∀ p ∈ (l.map (·.1)).zip us, (("self", Value.ref e) :: (l.map (·.1)).zip us : List (Str × Value)).reverse.lookup p.1 = some p.2 := fun p hp => lookup_rev hzn (List.mem_cons_of_mem _ hp)
  cases l with
  | nil => exact absurd rfl hl
  | cons p l =>
    obtain ⟨f, q1, q2, q3, q4⟩ := p
    cases us with
    | nil => simp at hlen
    | cons v us =>
      have hkf : env.kindOf f = some .local := hfl f (by simp)
      obtain ⟨hnf, hdb⟩ := hno _ List.mem_cons_self
      have mf := mz (f, v) (by simp)
      show wpAny _ _ (execs (iSet f q1 q2 q3 q4 :: setsOf l) env) _ _ _
      refine wpAny_execs_cons (set_one hk hs hkf hns m0 mf ?_ hdb)
      obtain ⟨hp, g, d, t, os⟩ := s
      refine set_plain X1 (ox := excO C t1) (od := none) ⟨he1, rfl, rfl, trivial⟩ T.sa ?_
      refine exc_osa X1 he1 hcl (show refsVE (.ref C :: bm) = true from hbm) rfl hnf (fun h₂ tk₂ dx k₂ hdb2 hde he2 hn2 => ?_)
      have X2 : K.In h₂ := fun a o z => k₂ a o (fun e2 => by rw [e2, hKe] at z; cases z) (X1 a o z)
      have hKd : K.lookup dx = none := not_in X1 hdb2
      have hnF : h₂.Ns env.locals (fun y => (("self", Value.ref e) :: (((f, q1, q2, q3, q4) :: l : List (Str × Pos × Pos × Pos × Pos)).map (·.1)).zip (v :: us) : List (Str × Value)).reverse.lookup y) := by
        obtain ⟨oL, es, ep, hoL, r⟩ := hns
        exact ⟨oL, es, ep, k₂ _ _ hLe hoL, r⟩
      have hLd : env.locals ≠ dx := by
        obtain ⟨oL, es, ep, hoL, r⟩ := hns
        exact Nat.ne_of_lt (Nat.lt_of_lt_of_le (Heap.lt_size hoL) hdb2)
      show wpAny _ _ (execs (setsOf l) env) _ _ _
      have hsz : hp.objs.size ≤ h₁.objs.size := by
        have : env.locals < h₁.objs.size := hns.lt
        have h3 : hp.objs.size ≤ env.locals := hLs
        exact Nat.le_of_lt (Nat.lt_of_le_of_lt h3 this)
      refine sets_run T hk hs hLe l us _ ⟨h₂, g, d, tk₂, os⟩ dx [(f, v)] X2 hnF m0 (fun p hp => mz p (by simp only [List.map_cons, List.zip_cons_cons]; exact List.mem_cons_of_mem _ hp)) (by simpa using hlen)
        (fun p hp => ⟨(hno p (List.mem_cons_of_mem _ hp)).1, hfl p.1 (by simp only [List.map_cons]; exact List.mem_cons_of_mem _ (List.mem_map_of_mem hp)), (hno p (List.mem_cons_of_mem _ hp)).2⟩) hLd hde hKd hKe
        (by simp only [List.length_cons, List.length_nil] at hl9 ⊢; omega) he2 ⟨_, hn2, fun y => by rw [lookup_if]; rfl⟩ ?_
      intro h' tk' k' hns'
      refine hq h' tk' dx t1 ⟨fun b o hbe z => ?_, ?_, Nat.le_trans hsz hdb2, hde, ?_⟩
      · have z1 := k1 b o hbe z
        refine k' b o ?_ (k₂ b o hbe z1)
        exact Nat.ne_of_lt (Nat.lt_of_lt_of_le (Heap.lt_size z1) hdb2)
      · exact k' _ _ (Ne.symm hde) he2
      · obtain ⟨mB, hB, hmB⟩ := hns'
        refine ⟨mB, hB, fun y => ?_⟩
        rw [hmB y]
        simp only [List.map_cons, List.zip_cons_cons, List.reverse_cons]
end
end XE
end PySem
namespace PySem
namespace XE
open PySem.W PySem.Calls PyProof.Rows PySem.HandSPX
/-- how a call C(..) binds: us by place, ws by the keywords ks; g puts them in the order of the fields -/
structure XB (K : Frag) (fI : Addr) (fl ks : List Str) (n : Nat) (g : {α : Type} → List α → List α → List α) : Prop where
  to : ∀ (s : Shared) (e : Addr) (us ws : List Value) (fd : FuncData), (∃ oc od osl, K.lookup fI = some ⟨oc, od, .func fd, osl⟩) → us.length = n → ws.length = ks.length →
    (g us ws).length = fl.length ∧ BindsTo s fd ⟨.ref e :: us, ks.zip ws⟩ (("self", .ref e) :: fl.zip (g us ws))
theorem XI.binds {prog : Program} {K : Frag} {C fI : Addr} {fl ks : List Str} {n : Nat} {rest : List Stmt} {g : {α : Type} → List α → List α → List α} (I : XI prog K C fI fl rest)
    (h : ∀ (q : Str) (kV doc pm ct cdv : Value) (an : Option Addr) (l : List (Pos × Str)) (p : Pos) (scope : Scope) (cc e : Addr) (body : List Stmt) (us ws : List Value), l.map (·.2) = fl → us.length = n → ws.length = ks.length →
      (g us ws).length = fl.length ∧ bindArgs (fnX "__init__" q (iArgs p l) body scope [("__class__", cc)] .none kV doc pm an cdv ct) ⟨.ref e :: us, ks.zip ws⟩ = pure ((("self", Value.ref e) :: fl.zip (g us ws) : List (Str × Value)))) : XB K fI fl ks n g := by
  refine ⟨fun s e us ws fd hfd l1 l2 => ?_⟩
  obtain ⟨oc, od, q, kV, doc, pm, ct, an, cda, osl, l, p, p1, p2, p3, p4, p5, p6, m, j, scope, cc, ccl, cl, cdd, cld, vs, ccs, csl, file, tf, lk, hcd, hfl, _⟩ := I.fn
  obtain ⟨oc', od', osl', lk'⟩ := hfd
  rw [lk] at lk'
  simp only [Option.some.injEq, Obj.mk.injEq, Data.func.injEq] at lk'
  obtain ⟨_, _, hfe, _⟩ := lk'
  subst hfe
  obtain ⟨h1, h2⟩ := h q kV doc pm ct (.ref cda) an l p scope cc e _ us ws hfl l1 l2
  exact ⟨h1, BindsTo.of_eq h2⟩
/-- a made error: all that stood stands -/
structure MadeE (h h' : Heap) (e C dx t1 : Addr) (fvs : List (Str × Value)) : Prop where
  keep : ∀ b o, h.get? b = some o → h'.get? b = some o
  new : h.objs.size ≤ e
  obj : h'.get? e = some { cls := .ref C, dict := some dx, data := .fields #[.ref t1, .none, .none, .none, .bool false, .none] }
  dbig : h.objs.size ≤ dx
  dne : dx ≠ e
  ns : ∃ mA, h'.Ns1 dx mA ∧ ∀ y, mA y = fvs.lookup y
section
variable {prog : Program} {w : World} {A : Around} {E : Value → Shared → Prop} {R : Result → Shared → Prop} {s : Shared} {K : Frag} {mg mb : Str → Option Value} {x : Str} {C fI : Addr}
theorem made_run (T : XT K mg x C) (G : XG prog K) {l : List (Str × Pos × Pos × Pos × Pos)} {ks : List Str} {n : Nat} {g : {α : Type} → List α → List α → List α} (I : XI prog K C fI (l.map (·.1)) (setsOf l)) (B : XB K fI (l.map (·.1)) ks n g) (hl : l ≠ []) (hl9 : l.length ≤ 9) {us ws : List Value}
    (X : K.In s.heap) (hlim : s.heap.NoLimit) (hg : s.heap.Ns mainGlobals mg) (hmg : mg "super" = none) (hb : s.heap.Ns builtinsNs mb) (hbv : mb "super" = some (.type "super"))
    (hroom : A.depth + 1 < recursionLimit) (l1 : us.length = n) (l2 : ws.length = ks.length) (hz : us.length ≤ 1000) (hnd : ("self" :: l.map (·.1) : List Str).Nodup)
    (hno : ∀ p ∈ l, findIn K (.ref C) p.1 = some none ∧ (p.1 == ("__debug__" : Str)) = false)
    (hq : ∀ h' tk e dx t1, MadeE s.heap h' e C dx t1 (((l.map (·.1)).zip (g us ws)).reverse) → R (.ok (.ret (.ref e))) { s with heap := h', toks := tk }) :
    codeAny (model prog w) A (.call (.ref C) ⟨us, ks.zip ws⟩) R s := by
  obtain ⟨nm, qq, N, bs, bm, sn, sub, ab, col, dd, k0, k1', k2', k3, k5, hC, hbm, hal⟩ := T.cls
  obtain ⟨hp, gs, dr, tk, os⟩ := s
  have up : ∀ b o, hp.get? b = some o → ((hp.push (kdv_tup us)).push (excO C hp.objs.size)).get? b = some o := fun b o e => Heap.get?_push_of_some _ (Heap.get?_push_of_some _ e)
  have at1 : ((hp.push (kdv_tup us)).push (excO C hp.objs.size)).get? (hp.objs.size + 1) = some (excO C hp.objs.size) := by heap_get
  refine kwCall hbm (Nat.le_trans hz (by rw [sizeLine_eq]; omega)) (X _ _ hC) (looks_findIn X I.fi) (fun o => bind_fn X o I.ti) ?_
  have hbi := fun fd hfd => B.to ⟨(hp.push (kdv_tup us)).push (excO C hp.objs.size), gs, dr, tk, os⟩ (hp.objs.size + 1) us ws fd hfd l1 l2
  have hlg : (g us ws).length = l.length := by
    obtain ⟨oc, od, q, kV, doc, pm, ct, an, cda, osl, l', p, p1, p2, p3, p4, p5, p6, m, j, scope, cc, ccl, cl, cdd, cld, vs, ccs, csl, file, tf, lk, _⟩ := I.fn
    have := (hbi _ ⟨_, _, _, lk⟩).1
    simpa using this
  refine init_run (s := ⟨(hp.push (kdv_tup us)).push (excO C hp.objs.size), gs, dr, tk, os⟩) (us := g us ws) (t0 := hp.objs.size) T G I hl hl9 (X.keeps up) (hlim.keeps up) (hg.keeps up) hmg (hb.keeps up) hbv at1 (not_in X (Nat.le_succ _)) (by show A.depth + 1 < recursionLimit; exact hroom) hlg hnd hno (fun fd hfd => (hbi fd hfd).2) ?_
  intro h' tk' dx t1 P
  refine ⟨rfl, hq h' tk' (hp.objs.size + 1) dx t1 ⟨fun b o z => P.keep b o (Nat.ne_of_lt (Nat.lt_succ_of_lt (Heap.lt_size z))) (up b o z), Nat.le_succ _, P.obj, ?_, P.dne, P.ns⟩⟩
  have := P.dbig
  simp only [Heap.size_push] at this
  show hp.objs.size ≤ dx
  omega
end
end XE
end PySem

namespace L2
open PySem PySem.Spec PyProof.Rows
section
variable {fs ex : List Addr} {H : Hp} {h h' : Heap} {a b : Addr} {o u : HO}
/-- two new objects are laid and tracked -/
theorem Un.laid2 (k : ∀ c v, h.get? c = some v → h'.get? c = some v) (ha : h.objs.size ≤ a) (hb : h.objs.size ≤ b) (na : H a = none) (nb : H b = none) : Un fs ex H (upd (upd H a o) b u) h h' where
  keep := fun c v q _ _ _ => k c v q
  slot := fun c v q _ _ _ => ⟨v.slots, k c v q⟩
  free := fun c v q n _ => by
    rw [upd_ne (Nat.ne_of_lt (Nat.lt_of_lt_of_le (Heap.lt_size q) hb)), upd_ne (Nat.ne_of_lt (Nat.lt_of_lt_of_le (Heap.lt_size q) ha))]
    exact n
  there := fun c v q _ => ⟨v, k c v q⟩
  tups := fun c xs q => by
    rw [upd_ne (ne_of_none q nb), upd_ne (ne_of_none q na)]
    exact q
  frzs := fun c v xs q => by
    rw [upd_ne (ne_of_none q nb), upd_ne (ne_of_none q na)]
    exact q
  tbls := fun c ps q => ⟨#[], by
    rw [upd_ne (ne_of_none q nb), upd_ne (ne_of_none q na), q]
    simp⟩
end
/-- C(..): a new error whose own dict d holds the fields -/
def tMkX (C : Addr) (fl : List Str) (n m : Nat) (g : {α : Type} → List α → List α → List α) (t tk : TA) : TE := fun σ H Q => t σ H fun vs H1 => tk σ H1 fun zs H2 => vs.length = n ∧ zs.length = m ∧
  ∀ d e : Addr, H2 d = none → H2 e = none → d ≠ e → Q (.ref e) (upd (upd H2 d (exd d ((fl.zip (g vs zs)).reverse))) e (exo e C (some d)))
section
variable {X : Cx} {pins : List (Addr × Obj)} {σ : St} {H : Hp} {s : Shared} {C fI : Addr} {x : Str} {l : List (Str × Pos × Pos × Pos × Pos)} {ks : List Str} {n k : Nat} {g : {α : Type} → List α → List α → List α}
/-- all that a class's call wants to know -/
structure XM (X : Cx) (x : Str) (C fI : Addr) (l : List (Str × Pos × Pos × Pos × Pos)) : Prop where
  T : PySem.XE.XT X.K X.mg x C
  I : PySem.XE.XI X.prog X.K C fI (l.map (·.1)) (PySem.XE.setsOf l)
  G : PySem.XE.XG X.prog X.K
  sup : X.mg "super" = none
  ne : l ≠ []
  few : l.length ≤ 9
  nd : ("self" :: l.map (·.1) : List Str).Nodup
  no : ∀ p ∈ l, PySem.W.findIn X.K (.ref C) p.1 = some none ∧ (p.1 == ("__debug__" : Str)) = false
theorem rel_lookup {us : List Value} {vs : List V} (r : Vals vs us) : ∀ (fl : List Str) (y : Str), RelO ((fl.zip vs).lookup y) ((fl.zip us).lookup y) := by
  induction r with
  | nil => intro fl y; simp [RelO]
  | cons r t ih =>
    intro fl y
    cases fl with
    | nil => simp [RelO]
    | cons f fl =>
      simp only [List.zip_cons_cons]
      rw [PySem.XE.lookup_if, PySem.XE.lookup_if]
      split
      · exact r
      · exact ih fl y
theorem Vals.rev : ∀ {vs : List V} {us : List Value}, Vals vs us → Vals vs.reverse us.reverse := by
  intro vs us r
  induction r with
  | nil => exact .nil
  | cons r t ih =>
    rw [List.reverse_cons, List.reverse_cons]
    exact ih.append (.cons r .nil)
theorem zip_rev {α : Type} : ∀ {l : List Str} {us : List α}, us.length = l.length → (l.zip us).reverse = l.reverse.zip us.reverse
  | [], [], _ => rfl
  | a :: l, b :: us, h => by
    have h' : us.length = l.length := by simpa using h
    rw [List.zip_cons_cons, List.reverse_cons, List.reverse_cons, List.reverse_cons, zip_rev h', List.zip_append (by simpa using h'.symm)]
    rfl
theorem rel_lookup_rev {us : List Value} {vs : List V} (r : Vals vs us) {fl : List Str} (hl : vs.length = fl.length) (y : Str) : RelO (((fl.zip vs).reverse).lookup y) (((fl.zip us).reverse).lookup y) := by
  have e1 : (fl.zip vs).reverse = fl.reverse.zip vs.reverse := zip_rev hl
  have e2 : (fl.zip us).reverse = fl.reverse.zip us.reverse := zip_rev (r.length.symm.trans hl)
  rw [e1, e2]
  exact rel_lookup r.rev _ y
theorem run_mkX (M : XM X x C fI l) (B : PySem.XE.XB X.K fI (l.map (·.1)) ks n g) (hgr : ∀ {vs zs : List V} {us ws : List Value}, Vals vs us → Vals zs ws → Vals (g vs zs) (g us ws)) (hr : Room k X.A) {us ws : List Value} {vs zs : List V} {Q : VK} (I : Inv X pins σ H s) (r : Vals vs us) (rz : Vals zs ws) (l1 : vs.length = n) (l2 : zs.length = ks.length) (hz : n ≤ 1000)
    (h : ∀ d e : Addr, H d = none → H e = none → d ≠ e → Q (.ref e) (upd (upd H d (exd d (((l.map (·.1)).zip (g vs zs)).reverse))) e (exo e C (some d)))) :
    wpAny (model X.prog X.w) X.A (call (.ref C) us (ks.zip ws)) (EP X pins σ Q) X.xe s := by
  obtain ⟨mb, hb1, hb2⟩ := I.mod.blt
  have hglob : s.heap.Ns mainGlobals X.mg := I.mod.glob.keeps I.bk
  have hlen : (g vs zs).length = (l.map (·.1)).length := by
    obtain ⟨oc, od, q, kV, doc, pm, ct, an, cda, osl, l', p, p1, p2, p3, p4, p5, p6, m, j, scope, cc, ccl, cl, cdd, cld, vs', ccs, csl, file, tf, lk, _⟩ := M.I.fn
    have h1 := (B.to s 0 us ws _ ⟨_, _, _, lk⟩ (r.length.symm.trans l1) (rz.length.symm.trans l2)).1
    rw [← h1]
    exact (hgr r rz).length
  refine wpAny_call (PySem.XE.made_run M.T M.G M.I B M.ne M.few I.kIn I.nolimit hglob M.sup (hb1.keeps I.bk) ((hb2 "super" (by decide)).trans (by decide +kernel)) (by have := hr.dp; omega) (r.length.symm.trans l1) (rz.length.symm.trans l2) (by rw [← r.length, l1]; exact hz) M.nd M.no ?_)
  intro h' tk e dx t1 P
  obtain ⟨mA, hns, hmA⟩ := P.ns
  have nd : H dx = none := I.hok.fresh P.dbig
  have ne : H e = none := I.hok.fresh P.new
  have rel : ∀ f, RelO ((((l.map (·.1)).zip (g vs zs)).reverse).lookup f) (mA f) := fun f => by
    rw [hmA f]
    exact rel_lookup_rev (hgr r rz) hlen f
  refine ⟨.ref e, _, I.un (h' := h') (t' := tk) (Un.laid2 (o := exd dx (((l.map (·.1)).zip (g vs zs)).reverse)) (u := exo e C (some dx)) P.keep P.dbig P.new nd ne) ?_, rfl, h dx e nd ne P.dne⟩
  intro b o z
  by_cases hbe : b = e
  · subst hbe
    rw [upd_same] at z
    cases z
    exact exo_ok P.obj
  · rw [upd_ne hbe] at z
    by_cases hbd : b = dx
    · subst hbd
      rw [upd_same] at z
      cases z
      exact exd_ok hns rel
    · rw [upd_ne hbd] at z
      exact (I.hok b o z).stay (fun c v _ q => P.keep c v q) (fun c q => by rw [upd_ne (ne_of_none q ne), upd_ne (ne_of_none q nd)]; exact q) fun c xs q => by rw [upd_ne (ne_of_none q ne), upd_ne (ne_of_none q nd)]; exact q
end
end L2
namespace PySem
namespace XE
open PySem.W PySem.Calls PyProof.Rows PySem.HandSPX
/-- isinstance's first step: e.__class__, e an error with a dict of its own -/
theorem classOf {prog : Program} {w : World} {A : Around} {E : Value → Shared → Prop} {s : Shared} {K : Frag} {mg : Str → Option Value} {x : Str} {e C : Addr} {oe : Obj} {od : Option Obj} {Q : Option Value → Shared → Prop} (T : XT K mg x C) (G : XG0 K)
    (X : K.In s.heap) (I : InstAt s.heap e oe C od) (h : Q (some (.ref C)) { s with toks := s.toks + 1 }) : wpAny (model prog w) A (getAttr? (.ref e) "__class__") Q E s := by
  have hf : findObj K C od "__class__" = some (.bind (.builtin "getset_descriptor.__get__") (.builtin "object.__class__")) := by
    obtain ⟨cd, hc, _⟩ := any_some T.hd
    unfold findObj
    rw [hc, Option.bind_some, T.ha, Option.bind_some]
    simp [G.hn, G.ht]
  obtain ⟨hp, g, d, t, os⟩ := s
  have L0 := I.type (M := model prog w)
  have L1 := looks_findIn (M := model prog w) X T.ga
  have L2 := looks_findIn (M := model prog w) X T.gg
  have L3 := looks_find (M := model prog w) X I hf
  have sub : Looks (model prog w) hp (isInstance (.ref e) (.type "BaseException")) true := L0.andThen (looks_subIn X T.hsB)
  have n2 : (Value.builtin "BaseException.__getattribute__" == Value.builtin "object.__getattribute__") = false := by decide +kernel
  unfold getAttr? getAttrBy? getAttrBy
  refine wpAny_bind (wpAny_mkText (wpAny_bind (wpAny_attempt (wpAny_holding (wpAny_bind (L0.at (wpAny_bind (L1.at ?_))))))))
  show wpAny _ _ (if (onTheHeap (Value.ref C) && Value.builtin "BaseException.__getattribute__" == Value.builtin "object.__getattribute__") = true then _ else _) _ _ _
  rw [if_neg (by rw [n2, Bool.and_false]; decide)]
  unfold getAttrByItsOwn hookBefore
  refine wpAny_bind ?_
  rw [if_pos (show onTheHeap (Value.ref C) = true from rfl)]
  refine L2.at (wpAny_bind (wpAny_attempt (wpAny_holding ?_)))
  unfold callGetattribute
  rw [if_neg (show ¬ (false && onTheHeap (Value.builtin "BaseException.__getattribute__")) = true by decide)]
  unfold boundAndCalled
  rw [PySem.F.excAttr_ValueError.ga.bind (.ref e)]
  refine wpAny_bind (wpAny_pure ?_)
  show wpAny _ _ (call (.builtin "BaseException.__getattribute__") [.ref e, .str "__class__" t]) _ _ _
  refine wpAny_call (codeAny_call_builtin PySem.F.excAttr_ValueError.ga.plain PySem.F.entry_bexc_ga ?_)
  refine @check_slot (model prog w) _ _ ⟨hp, g, d, t + 1, os⟩ "BaseException.__getattribute__" "BaseException" "__getattribute__" (.ref e) [.str "__class__" t] [] _ (by decide +kernel) (by decide +kernel) sub (PySem.F.args_bexc_ga (.ref e) (.str "__class__" t)) ?_
  unfold Builtin.«object.__getattribute__»
  refine wpAny_bind (wpAny_of_eq (a := ((Value.ref e : Value), [Value.str "__class__" t])) (by first | rfl | (simp only [slotArgs]; rfl)) ?_)
  refine wpAny_bind (wpAny_pure (wpAny_bind (L0.at (wpAny_bind (L3.at ?_)))))
  show wpAny _ _ (holding [Value.builtin "object.__class__"] (call (.builtin "getset_descriptor.__get__") [.builtin "object.__class__", .ref e, .ref C]) >>= ret) _ _ _
  refine wpAny_bind (wpAny_holding (wpAny_call (class_get (s := ⟨hp, g, d, t + 1, os⟩) (ox := oe) (od := od) X I T.hm ?_)))
  refine wpAny_pure ?_
  show wpAny _ _ (handedOut (.ref C)) _ _ _
  rw [handedOut_of (v := .ref C) rfl]
  first
    | exact wpAny_pure h
    | exact wpAny_pure (wpAny_pure h)
    | exact wpAny_pure (wpAny_bind (wpAny_pure (wpAny_pure h)))
theorem kitErr {K : Frag} {mg : Str → Option Value} {x : Str} {e C : Addr} (T : XT K mg x C) (G : XG0 K) : KitX K (.ref e) (.ref C) (fun h => ∃ (oe : Obj) (od : Option Obj), InstAt h e oe C od) where
  ty := fun _ _ _ ⟨_, _, I⟩ => I.type
  it := fun _ _ X _ => by
    obtain ⟨nm, q, N, bs, bm, sn, sub, ab, col, dd, k0, k1, k2, k3, k5, hC, _⟩ := T.cls
    intro A' Q' E' s' k q
    unfold isType loadHead
    exact wpAny_bind (wpAny_loadPart (k _ _ (X _ _ hC)) (wpAny_pure q))
  ne := fun h tp dd its n sl X htp => by
    obtain ⟨nm, q, N, bs, bm, sn, sub, ab, col, dd', k0, k1, k2, k3, k5, hC, _⟩ := T.cls
    refine Bool.eq_false_iff.mpr fun q => ?_
    have e' : C = tp := Value.ref.inj (beq_iff_eq.mp q)
    subst e'
    have z := Option.some.inj ((X _ _ hC).symm.trans htp)
    have z2 : Value.type "type" = Value.type "tuple" := congrArg Obj.cls z
    exact absurd z2 (by decide +kernel)
  ca := fun X ⟨_, _, I⟩ k => classOf T G X I k
end XE
end PySem
namespace L2
open PySem PySem.Spec PyProof.Rows
/-- the class at C is an error class of ours -/
def ErrC (K : PySem.W.Frag) (C : Addr) : Prop := ∃ (mg : Str → Option Value) (x : Str), PySem.XE.XT K mg x C
/-- at a stands an error of the class at C whose own dict holds the fields fs -/
def ErrAt (H : Hp) (a C : Addr) (fs : List (Str × V)) : Prop := ∃ d : Addr, H a = some (exo a C (some d)) ∧ H d = some (exd d fs)
def tFldX (K : PySem.W.Frag) (f : Str) (ta : TE) : TE := fun σ H Q => ta σ H fun x H1 => ∃ (a C : Addr) (fs : List (Str × V)) (v : V), x = .ref a ∧ ErrAt H1 a C fs ∧ ErrC K C ∧ PySem.W.findIn K (.ref C) f = some none ∧ fs.lookup f = some v ∧ Q v H1
def rIsiX (K : PySem.W.Frag) : List V → Hp → VK → Prop := fun xs H Q => ∃ (a C : Addr) (fs : List (Str × V)) (c : V) (u : Value) (b : Bool), xs = [.ref a, c] ∧ ErrAt H a C fs ∧ ErrC K C ∧ ClsV c u ∧ PySem.W.kitOne K (.ref C) u = some b ∧ Q (.bl b) H
section
variable {X : Cx} {pins : List (Addr × Obj)} {σ : St} {H : Hp} {s : Shared}
theorem err_inst {a C : Addr} {fs : List (Str × V)} (I : Inv X pins σ H s) (h : ErrAt H a C fs) : ∃ (oe od : Obj) (mA : Str → Option Value), PySem.W.InstAt s.heap a oe C (some od) ∧ (∀ f, RelO (fs.lookup f) (mA f)) ∧ ∀ name, PySem.W.lookIn name od = some (mA name) := by
  obtain ⟨d, h1, h2⟩ := h
  obtain ⟨t1, ho⟩ := exo_at I.hok h1
  obtain ⟨mA, hns, hr⟩ := exd_at I.hok h2
  obtain ⟨od, hod, hl⟩ := lookIn_ns hns
  exact ⟨_, od, mA, ⟨ho, rfl, rfl, hod⟩, hr, hl⟩
theorem pe_fldX {e : Expr} {te : TE} {f : Str} {pos : Pos} (he : PE X e te) (hb : attributeBase e f X.env (eval e X.env) = eval e X.env := by rfl) : PE X (.Attribute e f pos) (tFldX X.K f te) := by
  refine ⟨fun pins s σ H Q I h => ?_⟩
  refine attr_of hb (thn (he.run pins s σ H _ I h) fun u s1 hh => ?_)
  obtain ⟨x, H1, I1, rx, a, C, fs, v, ex, hE, ⟨mg, xn, T⟩, hn, hl, q⟩ := hh
  subst ex
  obtain rfl : u = Value.ref a := rx
  obtain ⟨oe, od, mA, J, hr, hlk⟩ := err_inst I1 hE
  have hrf := hr f
  rw [hl] at hrf
  obtain ⟨u, hu, ru⟩ := RelO.some_of (v := v) (o := mA f) hrf
  exact PySem.HandSPX.exc_get I1.kIn J T.ga T.gg T.hsB (PySem.W.findObj_own T.hd hn rfl (by rw [hlk, hu])) (handed_of ru) ⟨v, H1, I1.tok _, ru, q⟩
theorem call_isiX (G : PySem.XE.XG0 X.K) : CallR X (.builtin "isinstance") (rIsiX X.K) := by
  intro pins s σ H xs us Q I r h
  obtain ⟨a, C, fs, c, u, b, rfl, hE, ⟨mg, xn, T⟩, k, e, q⟩ := h
  obtain ⟨u1, u2, rfl, r1, r2⟩ := vals2 r
  obtain rfl : u1 = Value.ref a := r1
  have e2 := k.eq r2
  subst e2
  obtain ⟨oe, od, mA, J, _, _⟩ := err_inst I hE
  exact PySem.W.kia_one (PySem.XE.kitErr T G) I.kIn ⟨_, _, J⟩ e (fun z => nomatch z) fun tk => ⟨.bl b, H, I.tok tk, rfl, q⟩
variable {C fI : Addr} {x : Str} {l : List (Str × Pos × Pos × Pos × Pos)} {ks : List Str} {n k : Nat} {g : {α : Type} → List α → List α → List α} {e : Expr} {es : List Expr} {kws : List Keyword} {t tk : TA} {p pos : Pos}
/-- C(e, ..) -/
theorem pe_mkX (M : XM X x C fI l) (B : PySem.XE.XB X.K fI (l.map (·.1)) [] n g) (hr : Room k X.A) (hg : Gl X x) (ha : PA X (e :: es) t) (hz : n ≤ 1000 := by decide) (hgr : ∀ {vs zs : List V} {us ws : List Value}, Vals vs us → Vals zs ws → Vals (g vs zs) (g us ws) := by intro _ _ _ _ a b; exact a)
    (hdb : (x == ("__debug__" : Str)) = false := by decide) (he : starEach (e :: es) X.env = (false, eval e X.env) :: starEach es X.env := by rfl) (hpl : (backTo pos (starEach es X.env)).any (·.1) = false := by rfl) :
    PE X (.Call (.Name x p) (e :: es) [] pos) (tMkX C (l.map (·.1)) n 0 g t tNil) := by
  refine ⟨fun pins s σ H Q I h => ?_⟩
  refine wpAny_Call_Name_kw (ld_glob I hg M.T.gC ?_ hdb)
  refine PySem.W.callWith_K (h₀ := X.base) I.ok.mod.kin M.T.kC (thn (ha.run pos pins s σ H _ I h) fun us s1 ⟨vs, H1, I1, r1, l1, _, q⟩ => ⟨I1.kIn, ?_⟩) he hpl
  exact run_mkX (ks := []) (ws := []) (zs := []) M B hgr hr I1 r1 .nil l1 rfl hz q
/-- C(k = v, ..) -/
theorem pe_mkXK (M : XM X x C fI l) (B : PySem.XE.XB X.K fI (l.map (·.1)) ks 0 g) (hr : Room k X.A) (hg : Gl X x) (hkw : PK X kws tk) (hgr : ∀ {vs zs : List V} {us ws : List Value}, Vals vs us → Vals zs ws → Vals (g vs zs) (g us ws) := by intro _ _ _ _ a b; exact b)
    (hall : (backToKw pos (keywordEach kws X.env)).all (·.1.isSome) = true := by rfl) (hks : (backToKw pos (keywordEach kws X.env)).filterMap (·.1) = ks := by rfl)
    (hdb : (x == ("__debug__" : Str)) = false := by decide) (hpl : ((backTo pos (starEach [] X.env)).any (·.1) || (backToKw pos (keywordEach kws X.env)).any (·.1.isNone)) = false := by rfl) :
    PE X (.Call (.Name x p) [] kws pos) (tMkX C (l.map (·.1)) 0 ks.length g tNil tk) := by
  refine ⟨fun pins s σ H Q I h => ?_⟩
  refine wpAny_Call_Name_kw (ld_glob I hg M.T.gC ?_ hdb)
  refine PySem.W.callWith_KW0 (h₀ := X.base) I.ok.mod.kin M.T.kC hall ?_ hpl
  refine thn (hkw.run pos pins s σ H _ I h) fun ws s2 ⟨zs, H2, I2, rz, _, l2, q⟩ => ⟨I2.kIn, ?_⟩
  rw [hks]
  exact run_mkX (us := []) (vs := []) M B hgr hr I2 .nil rz rfl l2 (Nat.zero_le _) q
end
end L2
namespace L2
open PySem PySem.Spec PyProof.Rows
section
variable {X : Cx}
/-- a reading that asks more serves too -/
theorem PE.weak {e : Expr} {t t' : TE} (h : PE X e t) (w : ∀ σ H Q, t' σ H Q → t σ H Q) : PE X e t' := ⟨fun pins s σ H Q I q => h.run pins s σ H Q I (w σ H Q q)⟩
/-- C(..), the heap behind it told by what it keeps -/
def tMkG (C : Addr) (fl : List Str) (n m : Nat) (g : {α : Type} → List α → List α → List α) (t tk : TA) : TE := fun σ H Q => t σ H fun vs H1 => tk σ H1 fun zs H2 => vs.length = n ∧ zs.length = m ∧
  ∀ (e : Addr) (H' : Hp), H2 e = none → Same H2 H' → ErrAt H' e C ((fl.zip (g vs zs)).reverse) → Q (.ref e) H'
theorem mkG_of {C : Addr} {fl : List Str} {n m : Nat} {g : {α : Type} → List α → List α → List α} {t tk : TA} (ht : ∀ σ H (P P' : List V → Hp → Prop), (∀ vs H1, P vs H1 → P' vs H1) → t σ H P → t σ H P') (hk : ∀ σ H (P P' : List V → Hp → Prop), (∀ vs H1, P vs H1 → P' vs H1) → tk σ H P → tk σ H P')
    (σ : St) (H : Hp) (Q : VK) (h : tMkG C fl n m g t tk σ H Q) : tMkX C fl n m g t tk σ H Q := by
  refine ht σ H _ _ (fun vs H1 q => hk σ H1 _ _ (fun zs H2 q => ?_) q) h
  obtain ⟨l1, l2, q⟩ := q
  refine ⟨l1, l2, fun d e nd ne hde => q e _ ne (fun b o z => ?_) ⟨d, upd_same, ?_⟩⟩
  · rw [upd_ne (ne_of_none z ne), upd_ne (ne_of_none z nd)]
    exact z
  · rw [upd_ne hde, upd_same]
theorem CallR.weak {f : Value} {r r' : List V → Hp → VK → Prop} (h : CallR X f r) (w : ∀ xs H Q, r' xs H Q → r xs H Q) : CallR X f r' := fun pins s σ H xs us Q I rs q => h pins s σ H xs us Q I rs (w xs H Q q)
theorem OpR.weak {f : Value → Value → Sem Value} {r r' : R2} (h : OpR X f r) (w : ∀ x y H Q, r' x y H Q → r x y H Q) : OpR X f r' := fun pins s σ H x y v u Q I rx ry q => h pins s σ H x y v u Q I rx ry (w x y H Q q)
/-- int(n), n a whole number -/
def rInt1 : List V → Hp → VK → Prop := fun xs H Q => ∃ i, xs = [.int i] ∧ Q (.int i) H
theorem call_intI : CallR X (.type "int") rInt1 := call_int1.weak fun _ _ _ h => .inl h
def rAbs1 : List V → Hp → VK → Prop := fun xs H Q => ∃ i, xs = [.int i] ∧ Q (.int (if i < 0 then -i else i)) H
theorem call_absI : CallR X (.builtin "abs") rAbs1 := call_abs.weak fun _ _ _ h => h
theorem IxR.weak {r r' : R2} (h : IxR X r) (w : ∀ x y H Q, r' x y H Q → r x y H Q) : IxR X r' := fun value slice pins s σ H x y v u Q I rx ry q hs => h value slice pins s σ H x y v u Q I rx ry (w x y H Q q) hs
/-- xs[i], a tracked list -/
def rIxH : R2 := fun x y H Q => ∃ p, x = .ref p ∧ ∃ i, y = .int i ∧ ∃ xs, H p = some (.lst xs) ∧ ∃ v, atI xs i = some v ∧ Q v H
theorem ix_listH : IxR X rIxH := ix_list.weak fun _ _ _ _ ⟨p, e1, i, e2, xs, h, v, hv, q⟩ => ⟨p, xs, i, v, e1, e2, SqL.of h, hv, q⟩
def rSetH : V → V → V → Hp → (Hp → Prop) → Prop := fun o i v H Q => ∃ p, o = .ref p ∧ ∃ k, i = .int k ∧ ∃ xs, H p = some (.lst xs) ∧ ∃ j, ixN xs.length k = some j ∧ Q (upd H p (.lst (xs.set j v)))
theorem set_listH : PSet X rSetH := fun pins s σ H o i v ov iv u Q I ro ri rv h => by
  obtain ⟨p, e1, k, e2, xs, hp, j, hj, q⟩ := h
  exact set_list pins s σ H o i v ov iv u Q I ro ri rv ⟨p, xs, k, j, e1, e2, hp, hj, q⟩
theorem atI0 {α : Type} (a : α) (l : List α) : atI (a :: l) 0 = some a := atI_nat (j := 0) rfl
theorem atI1 {α : Type} (a b : α) (l : List α) : atI (a :: b :: l) 1 = some b := atI_nat (j := 1) rfl
theorem atI2 {α : Type} (a b c : α) (l : List α) : atI (a :: b :: c :: l) 2 = some c := atI_nat (j := 2) rfl
theorem ixN3_0 : ixN (0 + 1 + 1 + 1) 0 = some 0 := rfl
theorem ixN3_2 : ixN (0 + 1 + 1 + 1) 2 = some 2 := rfl
/-- a power of any size that the model takes -/
def CPowW (i j : Int) : Prop := 0 ≤ j ∧ ((Builtin.Int.intBits i : Nat) : Int) * j ≤ 1000000
theorem op_powW : OpR X (binaryOp .Pow) (rI CPowW fun i j => .int (i ^ j.toNat)) := opI fun i j t u s Q E hc q => by
  refine pow_int hc.1 ?_ q
  have h := hc.2
  refine Int.le_trans h ?_
  decide +kernel
/-- xs.count(b), a list of truth values -/
def rCntB (K : PySem.W.Frag) : V → List V → Hp → VK → Prop := fun x xs H Q => ∃ (p : Addr) (bs : List Bool) (b : Bool), x = .ref p ∧ xs = [.bl b] ∧ SqL K H p (bs.map V.bl) ∧ Q (.int (bs.count b : Nat)) H
theorem reads_bls {hp : Heap} : ∀ bs : List Bool, ∃ as, ReadsAll hp (bs.map Value.bool) (bs.map PyData.bool) as
  | [] => ⟨_, .nil⟩
  | b :: bs => by
    obtain ⟨as, h⟩ := reads_bls (hp := hp) bs
    exact ⟨_, .cons (.bool b) h⟩
theorem countIn_bls (b : Bool) : ∀ bs : List Bool, countIn (.bool b) (bs.map PyData.bool) = ((bs.count b : Nat) : Int)
  | [] => rfl
  | c :: bs => by
    rw [List.map_cons, countIn, countIn_bls b bs, List.count_cons]
    cases b <;> cases c <;> simp [same] <;> omega
theorem mt_countB : MtR X "list.count" (rCntB X.K) := by
  intro pins s σ H x xs v us Q I rx rxs h
  obtain ⟨p, bs, b, rfl, rfl, hs, q⟩ := h
  obtain rfl : v = Value.ref p := rx
  obtain ⟨u, rfl, ru⟩ := rxs.one
  obtain rfl : u = Value.bool b := ru
  obtain ⟨its, rv, hl, hlen⟩ := I.list hs
  have e := rv.bls
  subst e
  obtain ⟨as, ra⟩ := reads_bls (hp := s.heap) bs
  refine count_list_bools (xs := bs.map PyData.bool) (as := as) (hp := s.heap) hl.isList ra (by simp [List.all_map, Shape.has, Function.comp_def]) ?_
  refine ⟨.int (bs.count b : Nat), H, I.tok _, ⟨s.toks, ?_⟩, q⟩
  rw [countIn_bls]
end
end L2
namespace K03
open PySem L2
def topS (i : Nat) : Stmt := PySem.Challenge.pw_stuckrows_k03_errors_as_told.main.body.getD i (.Pass ⟨0, 0, 0, 0⟩)
abbrev sMixed : Stmt := topS 19
abbrev sSource : Stmt := topS 20
abbrev sTake : Stmt := topS 21
abbrev sIsErr : Stmt := topS 23
abbrev sFirst : Stmt := topS 24
abbrev sLast : Stmt := topS 25
abbrev sApart : Stmt := topS 26
abbrev sLaw : Stmt := topS 27
/-- _law_mixed: some number below its modulus -/
def spMixed : Sp := fun vs H Q _ => ∃ c d : Int, vs = [.int c, .int d] ∧ ∀ r : Int, 0 ≤ r → r < 2147483563 → Q (.int r) H
/-- _law_source: a new list of three numbers, none of them below 0 -/
def spSource : Sp := fun vs H Q _ => ∃ c : Int, vs = [.int c] ∧ ∀ (p : Addr) (x y : Int), H p = none → 0 ≤ x → 0 ≤ y → Q (.ref p) (upd H p (.lst [.int x, .int y, .int 0]))
/-- _law_take: some number below the bound; the source goes on -/
def spTake : Sp := fun vs H Q _ => ∃ (a : Addr) (x y z b : Int), vs = [.ref a, .int b] ∧ H a = some (.lst [.int x, .int y, .int z]) ∧ 0 ≤ x ∧ 0 < b ∧ b < 1073741824 ∧
  ∀ r x' z' : Int, 0 ≤ r → r < b → 0 ≤ x' → Q (.int r) (upd H a (.lst [.int x', .int y, .int z']))
structure TxtB (mg : Str → Option Value) : Prop where
  int : mg "int" = none
  abs : mg "abs" = none
section
variable {P : Program} {w : World} {K : PySem.W.Frag} {mg : Str → Option Value} {base : Heap}
theorem scMixed : FnScope ["_law_cell", "_law_draw", "_law_figure"] ["_law_cell", "_law_draw"] (defScope sMixed) := ⟨rfl, rfl, rfl, by decide +kernel, rfl, by decide +kernel, by decide +kernel⟩
theorem ok_mixed {f : Addr} {fd : FuncData} (F : Fun K "_law_mixed" "_law_mixed" sMixed f fd) (B : TxtB mg) : FnOk P w K mg base CX0 1 f fd ["_law_cell", "_law_draw"] spMixed := by
  refine F.ok scMixed (fun vs H Q E h => ?_) (fun cdv A outer s H vs Q E hr h => ?_)
  · obtain ⟨c, d, rfl, _⟩ := h
    rfl
  · obtain ⟨c, d, rfl, k⟩ := h
    have I1 : ∀ {X : Cx} {e : Expr} {te : TE} {p pos : Pos} (hm : X.mg "int" = none) (hg : Gl X "int") (he : PE X e te) (h1 : starEach [e] X.env = (false, eval e X.env) :: starEach [] X.env), PE X (.Call (.Name "int" p) [e] [] pos) (tCB _ (tCons te tNil)) :=
      fun hm hg he h1 => pe_callTy call_intI hg hm (by decide +kernel) (pa_cons he pa_nil h1) (by decide) (by decide) h1 (by rfl)
    refine ⟨_, pss_cons (ps_set (i := 2) scMixed.nd rfl (.inl rfl) (pe_op op_mod (I1 B.int rfl (pe_op op_mul (pe_op op_add (pe_op op_mod (I1 B.int rfl (pv 0) rfl) pe_int) pe_int) (pe_op op_add (pe_op op_mul (pv 1) pe_int) pe_int)) rfl) pe_int))
      (pss_cons (ps_set (i := 2) scMixed.nd rfl (.inl rfl) (pe_op op_mod (I1 B.int rfl (pe_op op_mul (pe_op op_add (pv 2) (pe_op op_mul (pe_op op_mod (I1 B.int rfl (pe_op op_fdivW (pv 0) pe_int) rfl) pe_int) (pe_op op_add (pv 1) pe_int))) pe_int) rfl) pe_int))
      (pss_cons (ps_set (i := 2) scMixed.nd rfl (.inl rfl) (pe_op op_mod (I1 B.int rfl (pe_op op_mul (pv 2) (pe_op op_add (pe_op op_add (pe_op op_fdiv (pv 2) pe_int) pe_int) (pv 1))) rfl) pe_int))
      (pss_one (ps_ret (pe_op op_mod (I1 B.int rfl (pe_op op_mul (pv 2) (pe_op op_add (pe_op op_fdiv (pv 2) pe_int) pe_int)) rfl) pe_int))))), ?_⟩
    simp only [tSeq, tAsg, tRet, tOp, tCB, tCons, tNil, tVar, tC, gName, rI, rI0, L2.start, List.map_cons, List.map_nil, List.length_cons, List.length_nil, List.replicate, List.getElem?_cons_zero, List.getElem?_cons_succ, List.set_cons_zero, List.set_cons_succ, Option.some.injEq, exists_eq_left', V.int.injEq, List.cons.injEq, and_true, exists_and_left, exists_eq_left, rInt1, List.cons_append, List.nil_append]
    have nn : ∀ x m : Int, 0 < m → m < 4000000000 → -(2 ^ 64) < x % m ∧ x % m < 2 ^ 64 := fun x m h0 h1 => by
      have a := Int.emod_nonneg x (show m ≠ 0 by omega)
      have b := Int.emod_lt_of_pos x h0
      constructor <;> omega
    have n1 : -(2 ^ 64) < c % 2147483646 + 1 ∧ c % 2147483646 + 1 < 2 ^ 64 := by
      have a := Int.emod_nonneg c (show (2147483646 : Int) ≠ 0 by decide)
      have b := Int.emod_lt_of_pos c (show (0 : Int) < 2147483646 by decide)
      constructor <;> omega
    exact ⟨by decide, .inr ⟨by decide, by decide⟩, .inl n1, by decide, ⟨by decide, by decide +kernel⟩, by decide, .inl (nn _ _ (by decide) (by decide)), .inr ⟨by decide, by decide⟩, by decide, ⟨by decide, by decide⟩, .inl (nn _ _ (by decide) (by decide)), by decide,
      ⟨by decide, by decide⟩, .inl (nn _ _ (by decide) (by decide)), by decide, k _ (Int.emod_nonneg _ (by decide)) (Int.emod_lt_of_pos _ (by decide))⟩
theorem scSource : FnScope ["_law_cell"] ["_law_cell"] (defScope sSource) := ⟨rfl, rfl, rfl, by decide +kernel, rfl, by decide +kernel, by decide +kernel⟩
theorem ok_source {f : Addr} {fd : FuncData} (F : Fun K "_law_source" "_law_source" sSource f fd) (B : TxtB mg) : FnOk P w K mg base CX0 1 f fd ["_law_cell"] spSource := by
  refine F.ok scSource (fun vs H Q E h => ?_) (fun cdv A outer s H vs Q E hr h => ?_)
  · obtain ⟨c, rfl, _⟩ := h
    rfl
  · obtain ⟨c, rfl, k⟩ := h
    refine ⟨_, pss_cons (ps_if (pt_cmpR op_ge (pe_callB call_absI (by rfl) B.abs (by decide +kernel) (pa_cons (pv 0) pa_nil)) (pe_op op_pow pe_int pe_int) (nomark _)) (pss_one (ps_ret (pe_lst (pa_cons (pe_callB call_absI (by rfl) B.abs (by decide +kernel) (pa_cons (pv 0) pa_nil)) (pa_cons (pe_callB call_absI (by rfl) B.abs (by decide +kernel) (pa_cons (pv 0) pa_nil)) (pa_cons pe_int pa_nil)))))) pss_nil)
      (pss_one (ps_ret (pe_lst (pa_cons pe_int (pa_cons (pe_callB call_absI (by rfl) B.abs (by decide +kernel) (pa_cons (pv 0) pa_nil)) (pa_cons pe_int pa_nil)))))), ?_⟩
    simp only [tIfS, tNext, tTest, tLst, tSeq, tAsg, tRet, tOp, tCB, tCons, tNil, tVar, tC, gName, rI, rI0, L2.start, List.map_cons, List.map_nil, List.length_cons, List.length_nil, List.replicate, List.getElem?_cons_zero, List.getElem?_cons_succ, List.set_cons_zero, List.set_cons_succ, Option.some.injEq, exists_eq_left', V.int.injEq, V.bl.injEq, V.ref.injEq, V.str.injEq, decide_eq_true_eq, List.cons.injEq, and_true, exists_and_left, exists_eq_left, rInt1, List.cons_append, List.nil_append, rAbs1]
    have e : ∀ x : Int, (0 : Int) ≤ if x < 0 then -x else x := fun x => by split <;> omega
    refine ⟨⟨by decide, by decide, by decide⟩, ?_⟩
    refine ite2 (fun _ => ?_) (fun _ => ?_)
    · exact ⟨by show 3 ≤ sizeLine; decide, fun p hp => k p _ _ hp (e c) (e c)⟩
    · exact ⟨by show 3 ≤ sizeLine; decide, fun p hp => k p _ _ hp (by decide) (e c)⟩
theorem scTake : FnScope ["_law_source_here", "_law_bound", "_law_drawn"] ["_law_source_here", "_law_bound"] (defScope sTake) := ⟨rfl, rfl, rfl, by decide +kernel, rfl, by decide +kernel, by decide +kernel⟩
theorem ok_take {f fM : Addr} {fd fdM : FuncData} (F : Fun K "_law_take" "_law_take" sTake f fd) (B : TxtB mg) (FM : Fun K "_law_mixed" "_law_mixed" sMixed fM fdM) (bM : Binds K fdM ["_law_cell", "_law_draw"] []) (gM : mg "_law_mixed" = some (.ref fM)) :
    FnOk P w K mg base CX0 2 f fd ["_law_source_here", "_law_bound"] spTake := by
  have GM : FnOk P w K mg base CX0 1 fM fdM ["_law_cell", "_law_draw"] spMixed := ok_mixed FM B
  refine F.ok scTake (fun vs H Q E h => ?_) (fun cdv A outer s H vs Q E hr h => ?_)
  · obtain ⟨a, x, y, z, b, rfl, _⟩ := h
    rfl
  · obtain ⟨a, x, y, z, b, rfl, hH, hx, hb, hb2, k⟩ := h
    refine ⟨_, pss_cons (ps_if (pt_cmpR op_gt (pe_ix ix_listH (pv 0) pe_int (fun _ _ => rfl)) pe_int (nomark _))
        (pss_cons (ps_set (i := 2) scTake.nd rfl (.inl rfl) (pe_op op_mod (pe_callTy call_intI (by rfl) B.int (by decide +kernel) (pa_cons (pe_ix ix_listH (pv 0) pe_int (fun _ _ => rfl)) pa_nil)) (pv 1)))
        (pss_cons (ps_asg (pe_op op_fdiv (pe_ix ix_listH (pv 0) pe_int (fun _ _ => rfl)) (pv 1)) (pg_sub (pv 0) pe_int set_listH))
        (pss_one (ps_ret (pv 2))))) pss_nil)
      (pss_cons (ps_asg (pe_op op_add (pe_ix ix_listH (pv 0) pe_int (fun _ _ => rfl)) pe_int) (pg_sub (pv 0) pe_int set_listH))
      (pss_one (ps_ret (pe_op op_mod (pe_callTy call_intI (by rfl) B.int (by decide +kernel) (pa_cons (pe_call GM hr rfl gM FM.kp bM .nil pass0 (pa_cons (pe_ix ix_listH (pv 0) pe_int (fun _ _ => rfl)) (pa_cons (pe_ix ix_listH (pv 0) pe_int (fun _ _ => rfl)) pa_nil))) pa_nil)) (pv 1))))), ?_⟩
    simp only [tIfS, tNext, tTest, tLst, gSub, tCall, atI0, atI1, atI2, ixN3_0, ixN3_2, rIxH, rSetH, spMixed, tSeq, tAsg, tRet, tOp, tCB, tCons, tNil, tVar, tC, gName, rI, rI0, L2.start, List.map_cons, List.map_nil, List.length_cons, List.length_nil, List.replicate, List.getElem?_cons_zero, List.getElem?_cons_succ, List.set_cons_zero, List.set_cons_succ, Option.some.injEq, exists_eq_left', V.int.injEq, V.bl.injEq, V.ref.injEq, V.str.injEq, decide_eq_true_eq, List.cons.injEq, and_true, exists_and_left, exists_eq_left, rInt1, List.cons_append, List.nil_append, rAbs1, hH, HO.lst.injEq, upd_same]
    refine ite2 (fun h0 => ?_) (fun h0 => ?_)
    · exact ⟨hb, ⟨hb, hb2⟩, k _ _ _ (Int.emod_nonneg _ (by omega)) (Int.emod_lt_of_pos _ hb) (Int.ediv_nonneg hx (by omega))⟩
    · exact ⟨_, _, ⟨rfl, rfl⟩, fun r _ _ => ⟨hb, k _ _ _ (Int.emod_nonneg _ (by omega)) (Int.emod_lt_of_pos _ hb) hx⟩⟩
end
end K03
namespace K03
open PySem L2
/-- an error class of ours: straight under S, that one under ValueError -/
structure ErrIs (K : PySem.W.Frag) (S C : Addr) : Prop where
  err : ErrC K C
  isS : PySem.W.kitOne K (.ref C) (.ref S) = some true
  isV : PySem.W.kitOne K (.ref C) (.type "ValueError") = some true
/-- a value that is equal to itself, and whose type is known -/
structure EqK (K : PySem.W.Frag) (H : Hp) (v : V) : Prop where
  eq : (∃ d, Dp K H v d ∧ SeqAt.shaped d = true ∧ PyData.eqv d d = true) ∨ (∃ a kvs, v = .ref a ∧ H a = some (.dK kvs) ∧ (kvs.map (·.1)).Nodup ∧ ∀ p ∈ kvs, flatB p.2 = true)
  ty : ∃ t b, TyX K H v t ∧ PySem.W.kitOne K t (.type "bool") = some b
def rEqAny (K : PySem.W.Frag) : R2 := fun x y H Q => rEqD K x y H Q ∨ (∃ a b kvs, x = .ref a ∧ y = .ref b ∧ H a = some (.dK kvs) ∧ H b = some (.dK kvs) ∧ (kvs.map (·.1)).Nodup ∧ (∀ p ∈ kvs, flatB p.2 = true) ∧ Q (.bl true) H)
theorem op_eqAny {X : Cx} (hu : X.A.units + 64 < cLine) : OpR X (compareOp .Eq) (rEqAny X.K) := (op_eqD hu).or (op_eq_dict (by omega))
theorem eqAny_self {K : PySem.W.Frag} {H : Hp} {v : V} {Q : VK} (h : EqK K H v) (q : Q (.bl true) H) : rEqAny K v v H Q := by
  rcases h.eq with ⟨d, hd, hs, he⟩ | ⟨a, kvs, rfl, ha, nd, fl⟩
  · refine .inl ⟨d, d, hd, hd, hs, hs, ?_⟩
    rw [he]
    exact q
  · exact .inr ⟨a, a, kvs, rfl, rfl, ha, ha, nd, fl, q⟩
def spIsErr (K : PySem.W.Frag) (S : Addr) : Sp := fun vs H Q _ => ∃ (a C : Addr) (fs : List (Str × V)) (v : V), vs = [.ref a, v, v] ∧ ErrAt H a C fs ∧ ErrIs K S C ∧ EqK K H v ∧ Q (.bl true) H
structure TxtC (mg : Str → Option Value) (S : Addr) : Prop where
  isi : mg "isinstance" = none
  bool : mg "bool" = none
  ve : mg "ValueError" = none
  gS : mg "StuckError" = some (.ref S)
section
variable {P : Program} {w : World} {K : PySem.W.Frag} {mg : Str → Option Value} {base : Heap} {S : Addr}
theorem scIsErr : FnScope ["_law_error", "_law_held", "_law_thing"] ["_law_error", "_law_held", "_law_thing"] (defScope sIsErr) := ⟨rfl, rfl, rfl, by decide +kernel, rfl, by decide +kernel, by decide +kernel⟩
theorem ok_isErr {f : Addr} {fd : FuncData} (F : Fun K "_law_is_error" "_law_is_error" sIsErr f fd) (B : TxtC mg S) (G : PySem.XE.XG0 K) : FnOk P w K mg base CX0 1 f fd ["_law_error", "_law_held", "_law_thing"] (spIsErr K S) := by
  refine F.ok scIsErr (fun vs H Q E h => ?_) (fun cdv A outer s H vs Q E hr h => ?_)
  · obtain ⟨a, C, fs, v, rfl, _⟩ := h
    rfl
  · obtain ⟨a, C, fs, v, rfl, hE, hI, hv, k⟩ := h
    have hu := hr.units
    refine ⟨_, pss_cons (ps_if (PW.pt (pw_or (pt_not (pt_val (pe_callB (call_isiX G) (by rfl) B.isi (by decide +kernel) (pa_cons (pv 0) (pa_cons (pe_glob (v := .ref S) rfl B.gS rfl) pa_nil)))))
        (pw_or1 (pt_not (pt_val (pe_callB (call_isiX G) (by rfl) B.isi (by decide +kernel) (pa_cons (pv 0) (pa_cons (pe_bltn (v := .ty "ValueError") (by rfl) B.ve (by decide +kernel) rfl) pa_nil)))))))) (pss_one (ps_ret pe_bl)) pss_nil)
      (pss_one (ps_ret (pe_and (pe_cmpR (op_eqAny hu) (pv 1) (pv 2) (nomark _)) (pe_one (pe_cmpR op_eq (pe_callB call_isi (by rfl) B.isi (by decide +kernel) (pa_cons (pv 1) (pa_cons (pe_bltn (v := .ty "bool") (by rfl) B.bool (by decide +kernel) rfl) pa_nil)))
        (pe_callB call_isi (by rfl) B.isi (by decide +kernel) (pa_cons (pv 2) (pa_cons (pe_bltn (v := .ty "bool") (by rfl) B.bool (by decide +kernel) rfl) pa_nil))) (nomark _)))))), ?_⟩
    obtain ⟨t, b, ht, hb⟩ := hv.ty
    refine ⟨_, rfl, a, C, fs, .ref S, .ref S, true, rfl, hE, hI.err, .own S, hI.isS, _, rfl, ?_⟩
    refine iteF ?_
    refine ⟨_, rfl, a, C, fs, .ty "ValueError", .type "ValueError", true, rfl, hE, hI.err, .ty _, hI.isV, _, rfl, ?_⟩
    refine iteF ?_
    refine ⟨_, rfl, _, rfl, eqAny_self hv ⟨_, rfl, iteT ?_⟩⟩
    refine ⟨_, rfl, _, _, _, _, b, rfl, .ty _, ht, hb, _, rfl, _, _, _, _, b, rfl, .ty _, ht, hb, rfl, ?_⟩
    simpa using k
end
end K03
namespace K03
open PySem L2
/-- what the top says of one of the classes -/
structure ErrF (prog : Program) (K : PySem.W.Frag) (mg : Str → Option Value) (S : Addr) (x : Str) (C fI : Addr) (l : List (Str × Pos × Pos × Pos × Pos)) : Prop where
  T : PySem.XE.XT K mg x C
  I : PySem.XE.XI prog K C fI (l.map (·.1)) (PySem.XE.setsOf l)
  no : ∀ p ∈ l, PySem.W.findIn K (.ref C) p.1 = some none ∧ (p.1 == ("__debug__" : Str)) = false
  is : ErrIs K S C
  up : ∃ cd : ClassData, PySem.W.clsIn K C = some cd ∧ cd.mro = [.ref C, .ref S, .type "ValueError", .type "Exception", .type "BaseException", .type "object"]
theorem ErrF.xm {X : Cx} {S C fI : Addr} {x : Str} {l : List (Str × Pos × Pos × Pos × Pos)} (E : ErrF X.prog X.K X.mg S x C fI l) (G : PySem.XE.XG X.prog X.K) (hs : X.mg "super" = none) (ne : l ≠ [] := by decide) (few : l.length ≤ 9 := by decide) (nd : ("self" :: l.map (·.1) : List Str).Nodup := by decide +kernel) : XM X x C fI l :=
  ⟨E.T, E.I, G, hs, ne, few, nd, E.no⟩
/-- by place; by keyword; two by keyword, the other way round -/
def gPos {α : Type} : List α → List α → List α := fun us _ => us
def gKw {α : Type} : List α → List α → List α := fun _ ws => ws
def gSwap {α : Type} : List α → List α → List α := fun _ ws => match ws with | [a, b] => [b, a] | _ => []
theorem gSwap_rel {vs zs : List V} {us ws : List Value} (_ : Vals vs us) (r : Vals zs ws) : Vals (gSwap vs zs) (gSwap us ws) := by
  cases r with
  | nil => exact .nil
  | cons r t =>
    cases t with
    | nil => exact .nil
    | cons r2 t =>
      cases t with
      | nil => exact .cons r2 (.cons r .nil)
      | cons r3 t => exact .nil
section
variable {prog : Program} {K : PySem.W.Frag} {C fI : Addr} {rest : List Stmt} {f : Str}
theorem xp_part (I : PySem.XE.XI prog K C fI ["part"] rest) : PySem.XE.XB K fI ["part"] [] 1 gPos := I.binds fun q kV doc pm ct cdv an l p scope cc e body us ws hl h1 h2 => by
  match l, hl, us, h1, ws, h2 with
  | [(a, b)], hl, [u], _, [], _ =>
    simp only [List.map_cons, List.map_nil, List.cons.injEq, and_true] at hl
    subst hl
    exact ⟨rfl, rfl⟩
theorem xp_index (I : PySem.XE.XI prog K C fI ["index"] rest) : PySem.XE.XB K fI ["index"] [] 1 gPos := I.binds fun q kV doc pm ct cdv an l p scope cc e body us ws hl h1 h2 => by
  match l, hl, us, h1, ws, h2 with
  | [(a, b)], hl, [u], _, [], _ =>
    simp only [List.map_cons, List.map_nil, List.cons.injEq, and_true] at hl
    subst hl
    exact ⟨rfl, rfl⟩
theorem xp_owner (I : PySem.XE.XI prog K C fI ["owner"] rest) : PySem.XE.XB K fI ["owner"] [] 1 gPos := I.binds fun q kV doc pm ct cdv an l p scope cc e body us ws hl h1 h2 => by
  match l, hl, us, h1, ws, h2 with
  | [(a, b)], hl, [u], _, [], _ =>
    simp only [List.map_cons, List.map_nil, List.cons.injEq, and_true] at hl
    subst hl
    exact ⟨rfl, rfl⟩
theorem xp_item (I : PySem.XE.XI prog K C fI ["item"] rest) : PySem.XE.XB K fI ["item"] [] 1 gPos := I.binds fun q kV doc pm ct cdv an l p scope cc e body us ws hl h1 h2 => by
  match l, hl, us, h1, ws, h2 with
  | [(a, b)], hl, [u], _, [], _ =>
    simp only [List.map_cons, List.map_nil, List.cons.injEq, and_true] at hl
    subst hl
    exact ⟨rfl, rfl⟩
theorem xp_name (I : PySem.XE.XI prog K C fI ["name"] rest) : PySem.XE.XB K fI ["name"] [] 1 gPos := I.binds fun q kV doc pm ct cdv an l p scope cc e body us ws hl h1 h2 => by
  match l, hl, us, h1, ws, h2 with
  | [(a, b)], hl, [u], _, [], _ =>
    simp only [List.map_cons, List.map_nil, List.cons.injEq, and_true] at hl
    subst hl
    exact ⟨rfl, rfl⟩
theorem xp_mode (I : PySem.XE.XI prog K C fI ["mode"] rest) : PySem.XE.XB K fI ["mode"] [] 1 gPos := I.binds fun q kV doc pm ct cdv an l p scope cc e body us ws hl h1 h2 => by
  match l, hl, us, h1, ws, h2 with
  | [(a, b)], hl, [u], _, [], _ =>
    simp only [List.map_cons, List.map_nil, List.cons.injEq, and_true] at hl
    subst hl
    exact ⟨rfl, rfl⟩
theorem xp_place (I : PySem.XE.XI prog K C fI ["place"] rest) : PySem.XE.XB K fI ["place"] [] 1 gPos := I.binds fun q kV doc pm ct cdv an l p scope cc e body us ws hl h1 h2 => by
  match l, hl, us, h1, ws, h2 with
  | [(a, b)], hl, [u], _, [], _ =>
    simp only [List.map_cons, List.map_nil, List.cons.injEq, and_true] at hl
    subst hl
    exact ⟨rfl, rfl⟩
theorem xp_limit (I : PySem.XE.XI prog K C fI ["limit"] rest) : PySem.XE.XB K fI ["limit"] [] 1 gPos := I.binds fun q kV doc pm ct cdv an l p scope cc e body us ws hl h1 h2 => by
  match l, hl, us, h1, ws, h2 with
  | [(a, b)], hl, [u], _, [], _ =>
    simp only [List.map_cons, List.map_nil, List.cons.injEq, and_true] at hl
    subst hl
    exact ⟨rfl, rfl⟩
theorem xp_two (I : PySem.XE.XI prog K C fI ["template", "step"] rest) : PySem.XE.XB K fI ["template", "step"] [] 2 gPos := I.binds fun q kV doc pm ct cdv an l p scope cc e body us ws hl h1 h2 => by
  match l, hl, us, h1, ws, h2 with
  | [(a, b), (a2, b2)], hl, [u, v], _, [], _ =>
    simp only [List.map_cons, List.map_nil, List.cons.injEq, and_true] at hl
    obtain ⟨h3, h4⟩ := hl
    subst h3 h4
    exact ⟨rfl, rfl⟩
theorem xb_part (I : PySem.XE.XI prog K C fI ["part"] rest) : PySem.XE.XB K fI ["part"] ["part"] 0 gKw := I.binds fun q kV doc pm ct cdv an l p scope cc e body us ws hl h1 h2 => by
  match l, hl, us, h1, ws, h2 with
  | [(a, b)], hl, [], _, [u], _ =>
    simp only [List.map_cons, List.map_nil, List.cons.injEq, and_true] at hl
    subst hl
    exact ⟨rfl, rfl⟩
theorem xb_index (I : PySem.XE.XI prog K C fI ["index"] rest) : PySem.XE.XB K fI ["index"] ["index"] 0 gKw := I.binds fun q kV doc pm ct cdv an l p scope cc e body us ws hl h1 h2 => by
  match l, hl, us, h1, ws, h2 with
  | [(a, b)], hl, [], _, [u], _ =>
    simp only [List.map_cons, List.map_nil, List.cons.injEq, and_true] at hl
    subst hl
    exact ⟨rfl, rfl⟩
theorem xb_owner (I : PySem.XE.XI prog K C fI ["owner"] rest) : PySem.XE.XB K fI ["owner"] ["owner"] 0 gKw := I.binds fun q kV doc pm ct cdv an l p scope cc e body us ws hl h1 h2 => by
  match l, hl, us, h1, ws, h2 with
  | [(a, b)], hl, [], _, [u], _ =>
    simp only [List.map_cons, List.map_nil, List.cons.injEq, and_true] at hl
    subst hl
    exact ⟨rfl, rfl⟩
theorem xb_item (I : PySem.XE.XI prog K C fI ["item"] rest) : PySem.XE.XB K fI ["item"] ["item"] 0 gKw := I.binds fun q kV doc pm ct cdv an l p scope cc e body us ws hl h1 h2 => by
  match l, hl, us, h1, ws, h2 with
  | [(a, b)], hl, [], _, [u], _ =>
    simp only [List.map_cons, List.map_nil, List.cons.injEq, and_true] at hl
    subst hl
    exact ⟨rfl, rfl⟩
theorem xb_name (I : PySem.XE.XI prog K C fI ["name"] rest) : PySem.XE.XB K fI ["name"] ["name"] 0 gKw := I.binds fun q kV doc pm ct cdv an l p scope cc e body us ws hl h1 h2 => by
  match l, hl, us, h1, ws, h2 with
  | [(a, b)], hl, [], _, [u], _ =>
    simp only [List.map_cons, List.map_nil, List.cons.injEq, and_true] at hl
    subst hl
    exact ⟨rfl, rfl⟩
theorem xb_mode (I : PySem.XE.XI prog K C fI ["mode"] rest) : PySem.XE.XB K fI ["mode"] ["mode"] 0 gKw := I.binds fun q kV doc pm ct cdv an l p scope cc e body us ws hl h1 h2 => by
  match l, hl, us, h1, ws, h2 with
  | [(a, b)], hl, [], _, [u], _ =>
    simp only [List.map_cons, List.map_nil, List.cons.injEq, and_true] at hl
    subst hl
    exact ⟨rfl, rfl⟩
theorem xb_place (I : PySem.XE.XI prog K C fI ["place"] rest) : PySem.XE.XB K fI ["place"] ["place"] 0 gKw := I.binds fun q kV doc pm ct cdv an l p scope cc e body us ws hl h1 h2 => by
  match l, hl, us, h1, ws, h2 with
  | [(a, b)], hl, [], _, [u], _ =>
    simp only [List.map_cons, List.map_nil, List.cons.injEq, and_true] at hl
    subst hl
    exact ⟨rfl, rfl⟩
theorem xb_limit (I : PySem.XE.XI prog K C fI ["limit"] rest) : PySem.XE.XB K fI ["limit"] ["limit"] 0 gKw := I.binds fun q kV doc pm ct cdv an l p scope cc e body us ws hl h1 h2 => by
  match l, hl, us, h1, ws, h2 with
  | [(a, b)], hl, [], _, [u], _ =>
    simp only [List.map_cons, List.map_nil, List.cons.injEq, and_true] at hl
    subst hl
    exact ⟨rfl, rfl⟩
theorem xb_kwS (I : PySem.XE.XI prog K C fI ["template", "step"] rest) : PySem.XE.XB K fI ["template", "step"] ["step", "template"] 0 gSwap := I.binds fun q kV doc pm ct cdv an l p scope cc e body us ws hl h1 h2 => by
  match l, hl, us, h1, ws, h2 with
  | [(a, b), (a2, b2)], hl, [], _, [u, v], _ =>
    simp only [List.map_cons, List.map_nil, List.cons.injEq, and_true] at hl
    obtain ⟨h3, h4⟩ := hl
    subst h3 h4
    exact ⟨rfl, rfl⟩
end
mutual
theorem dp_same {K : PySem.W.Frag} {H H' : Hp} (s : Same H H') : ∀ (d : PyData) (v : V), Dp K H v d → Dp K H' v d
  | .none, _, h => by
    cases h
    exact .non
  | .bool b, _, h => by
    cases h
    exact .bl b
  | .int i, _, h => by
    cases h
    exact .int i
  | .str x, _, h => by
    cases h
    exact .str x
  | .list ds, _, h => by
    cases h with
    | lst h1 h2 => exact .lst (s.seq h1) (dpAll_same s ds _ h2)
  | .tuple ds, _, h => by
    cases h with
    | tup h1 h2 =>
      refine .tup ?_ (dpAll_same s ds _ h2)
      rcases h1 with h1 | h1
      · rcases h1 with h1 | ⟨o, h1⟩
        · exact .inl (.inl (s _ _ h1))
        · exact .inl (.inr ⟨o, s _ _ h1⟩)
      · exact .inr h1
  | .dict _, _, h => by
    cases h
theorem dpAll_same {K : PySem.W.Frag} {H H' : Hp} (s : Same H H') : ∀ (ds : List PyData) (vs : List V), DpAll K H vs ds → DpAll K H' vs ds
  | [], _, h => by
    cases h
    exact .nil
  | d :: ds, _, h => by
    cases h with
    | cons h1 h2 => exact .cons (dp_same s d _ h1) (dpAll_same s ds _ h2)
end
theorem tyx_same {K : PySem.W.Frag} {H H' : Hp} {v : V} {t : Value} (s : Same H H') (h : TyX K H v t) : TyX K H' v t := by
  cases h with
  | base b =>
    refine .base ?_
    cases b with
    | non => exact .non
    | bl x => exact .bl x
    | int i => exact .int i
    | str x => exact .str x
    | flt x => exact .flt x
    | lst e => exact .lst (s _ _ e)
    | frz e => exact .frz (s _ _ e)
    | tup e => exact .tup (s _ _ e)
    | dK e => exact .dK (s _ _ e)
    | dT e => exact .dT (s _ _ e)
    | ins e cl ha hn htk hm => exact .ins (s _ _ e) cl ha hn htk hm
  | byt b => exact .byt b
  | set e => exact .set (s _ _ e)
  | kList e c => exact .kList e c
  | kTuple e c => exact .kTuple e c
  | kDict e c => exact .kDict e c
  | fTuple e => exact .fTuple (s _ _ e)
  | fDict e => exact .fDict (s _ _ e)
theorem EqK.same {K : PySem.W.Frag} {H H' : Hp} {v : V} (s : Same H H') (h : EqK K H v) : EqK K H' v := by
  refine ⟨?_, ?_⟩
  · rcases h.eq with ⟨d, hd, hs⟩ | ⟨a, kvs, e, ha, hn⟩
    · exact .inl ⟨d, dp_same s d v hd, hs⟩
    · exact .inr ⟨a, kvs, e, s _ _ ha, hn⟩
  · obtain ⟨t, b, ht, hb⟩ := h.ty
    exact ⟨t, b, tyx_same s ht, hb⟩
theorem ErrAt.same {H H' : Hp} {a C : Addr} {fs : List (Str × V)} (s : Same H H') (h : ErrAt H a C fs) : ErrAt H' a C fs := by
  obtain ⟨d, h1, h2⟩ := h
  exact ⟨d, s _ _ h1, s _ _ h2⟩
/-- an error of ours whose field f is v -/
def Good (K : PySem.W.Frag) (S : Addr) (f : Str) (v : V) (H : Hp) (item : V) : Prop := ∃ (a C : Addr) (fs : List (Str × V)), item = .ref a ∧ ErrAt H a C fs ∧ ErrIs K S C ∧ PySem.W.findIn K (.ref C) f = some none ∧ fs.lookup f = some v
theorem Good.same {K : PySem.W.Frag} {S : Addr} {f : Str} {v item : V} {H H' : Hp} (s : Same H H') (h : Good K S f v H item) : Good K S f v H' item := by
  obtain ⟨a, C, fs, e, h1, h2⟩ := h
  exact ⟨a, C, fs, e, ErrAt.same s h1, h2⟩
/-- [_law_is_error(one, one.f, thing) for one in some]: so many times True -/
theorem lc_good {K : PySem.W.Frag} {S : Addr} {f : Str} {v : V} {y : Option V} {p : Addr} {items : List V} {rest : St} {H : Hp} {Q : VK} (hp : H p = some (.lst items)) (hv : EqK K H v) (hg : ∀ x ∈ items, Good K S f v H x) (hl : items.length ≤ 100)
    (q : ∀ D H', H D = none → Same H H' → H' D = some (.lst ((List.replicate items.length true).map V.bl)) → Q (.ref D) H') :
    tLc (iList K (tVar 1)) (gName 2) tYes (tCall (spIsErr K S) [] E0 (tCons (tVar 2) (tCons (tFldX K f (tVar 2)) (tCons (tVar 0) tNil)))) [2] (some v :: some (.ref p) :: y :: rest) H Q := by
  refine ⟨_, rfl, p, rfl, ⟨_, SqL.of hp⟩, fun D hD => ?_⟩
  have hpD : p ≠ D := ne_of_none hp hD
  refine lc_list (K := K) (a := p) (xs := items) (fun i H' => Same H H' ∧ H' D = some (.lst ((List.replicate i true).map V.bl))) ⟨fun b o z => ?_, upd_same⟩ (fun i H' _ ⟨s, _⟩ => s.seq (SqL.of hp)) ?_ ?_
  · rw [upd_ne (ne_of_none z hD)]
    exact z
  · intro i x H' hi ⟨s, hd⟩
    have hx : x ∈ items := List.mem_of_getElem? hi
    have hil : i < items.length := (List.getElem?_eq_some_iff.mp hi).1
    obtain ⟨a, C, fs, rfl, h1, h2, h3, h4⟩ := Good.same s (hg x hx)
    refine ⟨rfl, ?_⟩
    simp only [tYes, if_true]
    refine ⟨_, rfl, _, rfl, a, C, fs, v, rfl, h1, h2.err, h3, h4, _, rfl, a, C, fs, v, rfl, h1, h2, hv.same s, _, hd, ?_, fun b o z => ?_, ?_⟩
    · rw [List.length_map, List.length_replicate]
      exact Nat.lt_of_lt_of_le hil (Nat.le_trans hl (by decide))
    · rw [upd_ne (ne_of_none z hD)]
      exact s b o z
    · rw [upd_same, List.replicate_succ', List.map_append]
      rfl
  · intro H' ⟨s, hd⟩
    exact q D H' hD s hd
end K03
namespace K03
open PySem L2
abbrev l0 : List (Str × Pos × Pos × Pos × Pos) := [("part", ⟨8, 8, 8, 12⟩, ⟨8, 8, 8, 17⟩, ⟨8, 20, 8, 24⟩, ⟨8, 8, 8, 24⟩)]
abbrev l1 : List (Str × Pos × Pos × Pos × Pos) := [("part", ⟨13, 8, 13, 12⟩, ⟨13, 8, 13, 17⟩, ⟨13, 20, 13, 24⟩, ⟨13, 8, 13, 24⟩)]
abbrev l2 : List (Str × Pos × Pos × Pos × Pos) := [("template", ⟨18, 8, 18, 12⟩, ⟨18, 8, 18, 21⟩, ⟨18, 24, 18, 32⟩, ⟨18, 8, 18, 32⟩), ("step", ⟨19, 8, 19, 12⟩, ⟨19, 8, 19, 17⟩, ⟨19, 20, 19, 24⟩, ⟨19, 8, 19, 24⟩)]
abbrev l3 : List (Str × Pos × Pos × Pos × Pos) := [("index", ⟨24, 8, 24, 12⟩, ⟨24, 8, 24, 18⟩, ⟨24, 21, 24, 26⟩, ⟨24, 8, 24, 26⟩)]
abbrev l4 : List (Str × Pos × Pos × Pos × Pos) := [("index", ⟨29, 8, 29, 12⟩, ⟨29, 8, 29, 18⟩, ⟨29, 21, 29, 26⟩, ⟨29, 8, 29, 26⟩)]
abbrev l5 : List (Str × Pos × Pos × Pos × Pos) := [("owner", ⟨34, 8, 34, 12⟩, ⟨34, 8, 34, 18⟩, ⟨34, 21, 34, 26⟩, ⟨34, 8, 34, 26⟩)]
abbrev l6 : List (Str × Pos × Pos × Pos × Pos) := [("item", ⟨39, 8, 39, 12⟩, ⟨39, 8, 39, 17⟩, ⟨39, 20, 39, 24⟩, ⟨39, 8, 39, 24⟩)]
abbrev l7 : List (Str × Pos × Pos × Pos × Pos) := [("mode", ⟨44, 8, 44, 12⟩, ⟨44, 8, 44, 17⟩, ⟨44, 20, 44, 24⟩, ⟨44, 8, 44, 24⟩)]
abbrev l8 : List (Str × Pos × Pos × Pos × Pos) := [("place", ⟨49, 8, 49, 12⟩, ⟨49, 8, 49, 18⟩, ⟨49, 21, 49, 26⟩, ⟨49, 8, 49, 26⟩)]
abbrev l9 : List (Str × Pos × Pos × Pos × Pos) := [("index", ⟨54, 8, 54, 12⟩, ⟨54, 8, 54, 18⟩, ⟨54, 21, 54, 26⟩, ⟨54, 8, 54, 26⟩)]
abbrev l10 : List (Str × Pos × Pos × Pos × Pos) := [("name", ⟨59, 8, 59, 12⟩, ⟨59, 8, 59, 17⟩, ⟨59, 20, 59, 24⟩, ⟨59, 8, 59, 24⟩)]
abbrev l11 : List (Str × Pos × Pos × Pos × Pos) := [("name", ⟨64, 8, 64, 12⟩, ⟨64, 8, 64, 17⟩, ⟨64, 20, 64, 24⟩, ⟨64, 8, 64, 24⟩)]
abbrev l12 : List (Str × Pos × Pos × Pos × Pos) := [("owner", ⟨69, 8, 69, 12⟩, ⟨69, 8, 69, 18⟩, ⟨69, 21, 69, 26⟩, ⟨69, 8, 69, 26⟩)]
abbrev l13 : List (Str × Pos × Pos × Pos × Pos) := [("item", ⟨74, 8, 74, 12⟩, ⟨74, 8, 74, 17⟩, ⟨74, 20, 74, 24⟩, ⟨74, 8, 74, 24⟩)]
abbrev l14 : List (Str × Pos × Pos × Pos × Pos) := [("name", ⟨79, 8, 79, 12⟩, ⟨79, 8, 79, 17⟩, ⟨79, 20, 79, 24⟩, ⟨79, 8, 79, 24⟩)]
abbrev l15 : List (Str × Pos × Pos × Pos × Pos) := [("limit", ⟨84, 8, 84, 12⟩, ⟨84, 8, 84, 18⟩, ⟨84, 21, 84, 26⟩, ⟨84, 8, 84, 26⟩)]
/-- C(x), C(f=x), x in slot i -/
def tMk1 (C : Addr) (f : Str) (i : Nat) : TE := fun σ H Q => ∃ v, σ[i]? = some (some v) ∧ ∀ (e : Addr) (H' : Hp), H e = none → Same H H' → ErrAt H' e C [(f, v)] → Q (.ref e) H'
/-- C(x, n); C(g=x, f=n) -/
def tMk2 (C : Addr) (i : Nat) (n : Int) : TE := fun σ H Q => ∃ v, σ[i]? = some (some v) ∧ ∀ (e : Addr) (H' : Hp), H e = none → Same H H' → ErrAt H' e C [("step", .int n), ("template", v)] → Q (.ref e) H'
def tMk2K (C : Addr) (i : Nat) (n : Int) : TE := fun σ H Q => ∃ v, σ[i]? = some (some v) ∧ ∀ (e : Addr) (H' : Hp), H e = none → Same H H' → ErrAt H' e C [("step", v), ("template", .int n)] → Q (.ref e) H'
section
variable {X : Cx} {S C fI : Addr} {x f : Str} {q1 q2 q3 q4 p pos kp : Pos} {k i : Nat} {e : Expr}
theorem mono1 {i : Nat} (σ : St) (H : Hp) (P P' : List V → Hp → Prop) (w : ∀ vs H1, P vs H1 → P' vs H1) (h : tCons (tVar i) tNil σ H P) : tCons (tVar i) tNil σ H P' := by
  obtain ⟨v, h1, h2⟩ := h
  exact ⟨v, h1, w _ _ h2⟩
theorem mono2 {i : Nat} {c : V} (σ : St) (H : Hp) (P P' : List V → Hp → Prop) (w : ∀ vs H1, P vs H1 → P' vs H1) (h : tCons (tVar i) (tCons (tC c) tNil) σ H P) : tCons (tVar i) (tCons (tC c) tNil) σ H P' := by
  obtain ⟨v, h1, h2⟩ := h
  exact ⟨v, h1, w _ _ h2⟩
theorem mono0 (σ : St) (H : Hp) (P P' : List V → Hp → Prop) (w : ∀ vs H1, P vs H1 → P' vs H1) (h : tNil σ H P) : tNil σ H P' := w _ _ h
theorem mk1 (E : ErrF X.prog X.K X.mg S x C fI [(f, q1, q2, q3, q4)]) (G : PySem.XE.XG X.prog X.K) (hs : X.mg "super" = none) (B : PySem.XE.XB X.K fI [f] [] 1 gPos) (nd : ("self" :: [f] : List Str).Nodup) (hr : Room k X.A) (he : PE X e (tVar i)) (hg : Gl X x)
    (hdb : (x == ("__debug__" : Str)) = false) (h1 : starEach [e] X.env = (false, eval e X.env) :: starEach [] X.env) (hpl : (backTo pos (starEach [] X.env)).any (·.1) = false) :
    PE X (.Call (.Name x p) [e] [] pos) (tMk1 C f i) := by
  refine (pe_mkX (g := gPos) (E.xm G hs (by simp) (by simp) nd) B hr hg (pa_cons he pa_nil h1) (by decide) (fun a b => a) hdb h1 hpl).weak fun σ H Q q => mkG_of mono1 mono0 σ H Q ?_
  obtain ⟨v, hv, q⟩ := q
  exact ⟨v, hv, rfl, rfl, fun e H' hn s hE => q e H' hn s hE⟩
theorem mk1K (E : ErrF X.prog X.K X.mg S x C fI [(f, q1, q2, q3, q4)]) (G : PySem.XE.XG X.prog X.K) (hs : X.mg "super" = none) (B : PySem.XE.XB X.K fI [f] [f] 0 gKw) (nd : ("self" :: [f] : List Str).Nodup) (hr : Room k X.A) (he : PE X e (tVar i)) (hg : Gl X x)
    (hdb : (x == ("__debug__" : Str)) = false) (hall : (backToKw pos (keywordEach [⟨some f, e, kp⟩] X.env)).all (·.1.isSome) = true) (hks : (backToKw pos (keywordEach [⟨some f, e, kp⟩] X.env)).filterMap (·.1) = [f]) (hpl : ((backTo pos (starEach [] X.env)).any (·.1) || (backToKw pos (keywordEach [⟨some f, e, kp⟩] X.env)).any (·.1.isNone)) = false) :
    PE X (.Call (.Name x p) [] [⟨some f, e, kp⟩] pos) (tMk1 C f i) := by
  refine (pe_mkXK (g := gKw) (E.xm G hs (by simp) (by simp) nd) B hr hg (pk_cons he pk_nil) (fun a b => b) hall hks hdb hpl).weak fun σ H Q q => mkG_of mono0 mono1 σ H Q ?_
  obtain ⟨v, hv, q⟩ := q
  exact ⟨v, hv, rfl, rfl, fun e H' hn s hE => q e H' hn s hE⟩
end
end K03
namespace K03
open PySem L2
structure Errs (prog : Program) (K : PySem.W.Frag) (mg : Str → Option Value) (S c0 c1 c2 c3 c4 c5 c6 c7 c8 c9 c10 c11 c12 c13 c14 c15 f0 f1 f2 f3 f4 f5 f6 f7 f8 f9 f10 f11 f12 f13 f14 f15 : Addr) : Prop where
  e0 : ErrF prog K mg S "InvalidModes" c0 f0 l0
  e1 : ErrF prog K mg S "InvalidSystem" c1 f1 l1
  e2 : ErrF prog K mg S "InvalidTemplate" c2 f2 l2
  e3 : ErrF prog K mg S "InvalidInstances" c3 f3 l3
  e4 : ErrF prog K mg S "InvalidSchedule" c4 f4 l4
  e5 : ErrF prog K mg S "InvalidOwner" c5 f5 l5
  e6 : ErrF prog K mg S "InvalidItem" c6 f6 l6
  e7 : ErrF prog K mg S "InvalidMode" c7 f7 l7
  e8 : ErrF prog K mg S "InvalidText" c8 f8 l8
  e9 : ErrF prog K mg S "InvalidLimits" c9 f9 l9
  e10 : ErrF prog K mg S "InvalidPrices" c10 f10 l10
  e11 : ErrF prog K mg S "InvalidNumber" c11 f11 l11
  e12 : ErrF prog K mg S "Waiting" c12 f12 l12
  e13 : ErrF prog K mg S "NotHeld" c13 f13 l13
  e14 : ErrF prog K mg S "Mismatch" c14 f14 l14
  e15 : ErrF prog K mg S "TooLarge" c15 f15 l15

structure TxtE (mg : Str → Option Value) (S fI : Addr) : Prop extends TxtC mg S where
  sup : mg "super" = none
  all : mg "all" = none
  gIs : mg "_law_is_error" = some (.ref fI)
/-- at x stands an error of the class at C -/
def IsAt (H : Hp) (x : V) (C : Addr) : Prop := ∃ (a : Addr) (fs : List (Str × V)), x = .ref a ∧ ErrAt H a C fs
theorem IsAt.same {H H' : Hp} {x : V} {C : Addr} (s : Same H H') (h : IsAt H x C) : IsAt H' x C := by
  obtain ⟨a, fs, e, h⟩ := h
  exact ⟨a, fs, e, ErrAt.same s h⟩
/-- C(x), .. : one of each, x in slot i, under the field f -/
def tMks (f : Str) (i : Nat) : List Addr → TA
  | [] => tNil
  | C :: cs => tCons (tMk1 C f i) (tMks f i cs)
section
variable {X : Cx} {C : Addr} {cs : List Addr} {f : Str} {i : Nat} {e : Expr} {es : List Expr}
theorem pm_nil : PA X [] (tMks f i []) := pa_nil
theorem pm_cons (h : PE X e (tMk1 C f i)) (t : PA X es (tMks f i cs)) (he : starEach (e :: es) X.env = (false, eval e X.env) :: starEach es X.env := by rfl) : PA X (e :: es) (tMks f i (C :: cs)) := pa_cons h t he
end
/-- what stands behind: each item an error of its class with the field -/
inductive Made (f : Str) (v : V) (H : Hp) : List V → List Addr → Prop
  | nil : Made f v H [] []
  | cons {a C : Addr} {es : List V} {cs : List Addr} (h : ErrAt H a C [(f, v)]) (t : Made f v H es cs) : Made f v H (.ref a :: es) (C :: cs)
theorem Made.same {f : Str} {v : V} {H H' : Hp} {es : List V} {cs : List Addr} (s : Same H H') (h : Made f v H es cs) : Made f v H' es cs := by
  induction h with
  | nil => exact .nil
  | cons h t ih => exact .cons (ErrAt.same s h) ih
theorem mks {f : Str} {i : Nat} {σ : St} {v : V} (hv : σ[i]? = some (some v)) : ∀ (cs : List Addr) (H : Hp) (P : List V → Hp → Prop), (∀ es H', Same H H' → Made f v H' es cs → P es H') → tMks f i cs σ H P
  | [], H, P, q => q [] H (fun _ _ z => z) .nil
  | C :: cs, H, P, q => ⟨v, hv, fun e H1 hn s hE => mks hv cs H1 _ fun es H2 s2 hm => q _ _ (fun b o z => s2 b o (s b o z)) (.cons (ErrAt.same s2 hE) hm)⟩
theorem Made.good {K : PySem.W.Frag} {S : Addr} {f : Str} {v : V} {H : Hp} {es : List V} {cs : List Addr} (h : Made f v H es cs) (hk : ∀ C ∈ cs, ErrIs K S C ∧ PySem.W.findIn K (.ref C) f = some none) : ∀ x ∈ es, Good K S f v H x := by
  induction h with
  | nil => simp
  | cons h t ih =>
    intro x hx
    rcases List.mem_cons.mp hx with e | e
    · subst e
      obtain ⟨k1, k2⟩ := hk _ List.mem_cons_self
      exact ⟨_, _, _, rfl, h, k1, k2, by simp⟩
    · exact ih (fun C hC => hk C (List.mem_cons_of_mem _ hC)) x e
theorem Made.length {f : Str} {v : V} {H : Hp} {es : List V} {cs : List Addr} (h : Made f v H es cs) : es.length = cs.length := by
  induction h with
  | nil => rfl
  | cons _ _ ih => rw [List.length_cons, List.length_cons, ih]
theorem pe_fldK {X : Cx} {K : PySem.W.Frag} {e : Expr} {te : TE} {f : Str} {pos : Pos} (hK : X.K = K) (he : PE X e te) (hb : attributeBase e f X.env (eval e X.env) = eval e X.env := by rfl) : PE X (.Attribute e f pos) (tFldX K f te) := by
  subst hK
  exact pe_fldX he hb
/-- every promise of the three: True, and what stood stands -/
def spAll (K : PySem.W.Frag) : Sp := fun vs H Q _ => ∃ v, vs = [v] ∧ EqK K H v ∧ ∀ H', Same H H' → Q (.bl true) H'
/-- all([_law_is_error(one, one.f, thing) for one in some]) -/
def tAllIs (K : PySem.W.Frag) (S : Addr) (f : Str) : TE := tCB (rAll K) (tCons (tLc (iList K (tVar 1)) (gName 2) tYes (tCall (spIsErr K S) [] E0 (tCons (tVar 2) (tCons (tFldX K f (tVar 2)) (tCons (tVar 0) tNil)))) [2]) tNil)
theorem all_is {K : PySem.W.Frag} {S : Addr} {f : Str} {v : V} {y : Option V} {p : Addr} {items : List V} {rest : St} {H : Hp} {Q : VK} (hp : H p = some (.lst items)) (hv : EqK K H v) (hg : ∀ x ∈ items, Good K S f v H x) (hl : items.length ≤ 100)
    (q : ∀ H', Same H H' → Q (.bl true) H') : tAllIs K S f (some v :: some (.ref p) :: y :: rest) H Q := by
  unfold tAllIs tCB
  refine lc_good (Q := fun x H1 => tNil _ H1 fun vs H2 => rAll K (x :: vs) H2 Q) hp hv hg hl fun D H' _ s hd => ⟨D, _, rfl, SqL.of hd, ?_⟩
  have e : (List.replicate items.length true).all id = true := by simp
  rw [e]
  exact q H' s
theorem same_new {H : Hp} {p : Addr} {o : HO} (h : H p = none) : Same H (upd H p o) := fun b o' z => by
  rw [upd_ne (ne_of_none z h)]
  exact z
theorem Made.append {f : Str} {v : V} {H : Hp} {es es2 : List V} {cs cs2 : List Addr} (h : Made f v H es cs) (h2 : Made f v H es2 cs2) : Made f v H (es ++ es2) (cs ++ cs2) := by
  induction h with
  | nil => exact h2
  | cons h t ih => exact .cons h ih
/-- a list of them, given to slot 1 -/
theorem set_mks {f : Str} {v : V} {cs : List Addr} {o y : Option V} {r : St} {H : Hp} {D : Ends} (few : cs.length ≤ 100) (q : ∀ p es H', Same H H' → H' p = some (.lst es) → Made f v H' es cs → D.nx (some v :: some (.ref p) :: y :: r) H') :
    tAsg (tLst (tMks f 0 cs)) (gName 1) D (some v :: o :: y :: r) H := by
  refine mks (v := v) rfl cs H _ fun es H1 s m => ⟨?_, fun p hp => ?_⟩
  · rw [m.length]
    exact Nat.le_trans few (by decide)
  · exact q p es _ (s.trans (same_new hp)) upd_same (m.same (same_new hp))
/-- some = some + [..] -/
theorem cat_mks {f : Str} {v : V} {cs cs0 : List Addr} {es0 : List V} {p0 : Addr} {y : Option V} {r : St} {H : Hp} {D : Ends} (few : cs0.length + cs.length ≤ 100) (h0 : H p0 = some (.lst es0)) (m0 : Made f v H es0 cs0)
    (q : ∀ p es H', Same H H' → H' p = some (.lst es) → Made f v H' es (cs0 ++ cs) → D.nx (some v :: some (.ref p) :: y :: r) H') :
    tAsg (tOp rCat (tVar 1) (tLst (tMks f 0 cs))) (gName 1) D (some v :: some (.ref p0) :: y :: r) H := by
  refine ⟨_, rfl, mks (v := v) rfl cs H _ fun es H1 s m => ⟨?_, fun p hp => ?_⟩⟩
  · rw [m.length]
    exact Nat.le_trans (by omega) (show 100 ≤ sizeLine by decide)
  · refine ⟨_, _, _, _, rfl, rfl, same_new hp _ _ (s _ _ h0), upd_same, ?_, fun p2 hp2 => ?_⟩
    · rw [m.length, m0.length]
      exact Nat.le_trans few (by decide)
    · have s2 := (s.trans (same_new hp)).trans (same_new (o := .lst (es0 ++ es)) hp2)
      exact q p2 _ _ s2 upd_same ((m0.same s2).append ((m.same (same_new hp)).same (same_new hp2)))
/-- if not all([..]): return False -/
theorem if_all {K : PySem.W.Frag} {S : Addr} {f : Str} {v : V} {p : Addr} {es : List V} {cs : List Addr} {y : Option V} {r : St} {H : Hp} {D : Ends} (hp : H p = some (.lst es)) (hv : EqK K H v) (m : Made f v H es cs) (few : cs.length ≤ 100)
    (hk : ∀ C ∈ cs, ErrIs K S C ∧ PySem.W.findIn K (.ref C) f = some none) (q : ∀ H', Same H H' → D.nx (some v :: some (.ref p) :: y :: r) H') :
    tIfS (tNot (tB (tAllIs K S f))) (tRet (tC (.bl false))) tNext D (some v :: some (.ref p) :: y :: r) H := by
  refine all_is hp hv (m.good hk) (by rw [m.length]; exact few) fun H' s => ⟨true, rfl, ?_⟩
  exact iteF (q H' s)
theorem ret_all {K : PySem.W.Frag} {S : Addr} {f : Str} {v : V} {p : Addr} {es : List V} {cs : List Addr} {y : Option V} {r : St} {H : Hp} {D : Ends} (hp : H p = some (.lst es)) (hv : EqK K H v) (m : Made f v H es cs) (few : cs.length ≤ 100)
    (hk : ∀ C ∈ cs, ErrIs K S C ∧ PySem.W.findIn K (.ref C) f = some none) (q : ∀ H', Same H H' → D.rt (.bl true) H') :
    tRet (tAllIs K S f) D (some v :: some (.ref p) :: y :: r) H := all_is hp hv (m.good hk) (by rw [m.length]; exact few) q
theorem ErrF.fine {prog : Program} {K : PySem.W.Frag} {mg : Str → Option Value} {S C fI : Addr} {x f : Str} {q1 q2 q3 q4 : Pos} {l : List (Str × Pos × Pos × Pos × Pos)} (E : ErrF prog K mg S x C fI l) (h : (f, q1, q2, q3, q4) ∈ l) : ErrIs K S C ∧ PySem.W.findIn K (.ref C) f = some none :=
  ⟨E.is, (E.no _ h).1⟩
end K03
namespace K03
open PySem L2
section
variable {P : Program} {w : World} {K : PySem.W.Frag} {mg : Str → Option Value} {base : Heap} {S c0 c1 c2 c3 c4 c5 c6 c7 c8 c9 c10 c11 c12 c13 c14 c15 f0 f1 f2 f3 f4 f5 f6 f7 f8 f9 f10 f11 f12 f13 f14 f15 : Addr}
theorem scFirst : FnScope ["_law_thing", "_law_some", "_law_one"] ["_law_thing"] (defScope sFirst) := ⟨rfl, rfl, rfl, by decide +kernel, rfl, by decide +kernel, by decide +kernel⟩
theorem ok_first {f fI : Addr} {fd fdI : FuncData} (F : Fun K "_law_first_errors" "_law_first_errors" sFirst f fd) (B : TxtE mg S fI) (G : PySem.XE.XG P K) (E : Errs P K mg S c0 c1 c2 c3 c4 c5 c6 c7 c8 c9 c10 c11 c12 c13 c14 c15 f0 f1 f2 f3 f4 f5 f6 f7 f8 f9 f10 f11 f12 f13 f14 f15)
    (FI : Fun K "_law_is_error" "_law_is_error" sIsErr fI fdI) (bI : Binds K fdI ["_law_error", "_law_held", "_law_thing"] []) : FnOk P w K mg base CX0 2 f fd ["_law_thing"] (spAll K) := by
  have GI : FnOk P w K mg base CX0 1 fI fdI ["_law_error", "_law_held", "_law_thing"] (spIsErr K S) := ok_isErr FI B.toTxtC G.toXG0
  have nd := scFirst.nd
  refine F.ok scFirst (fun vs H Q E h => ?_) (fun cdv A outer s H vs Q E' hr h => ?_)
  · obtain ⟨v, rfl, _⟩ := h
    rfl
  · obtain ⟨v, rfl, hv, k⟩ := h
    refine ⟨_, pss_cons (ps_set (i := 1) nd rfl (.inl rfl) (pe_lst (pm_cons (mk1 E.e0 G B.sup (xp_part E.e0.I) (by decide +kernel) hr (pv 0) rfl (by decide +kernel) rfl rfl) (pm_cons (mk1K E.e0 G B.sup (xb_part E.e0.I) (by decide +kernel) hr (pv 0) rfl (by decide +kernel) rfl rfl rfl) (pm_cons (mk1 E.e1 G B.sup (xp_part E.e1.I) (by decide +kernel) hr (pv 0) rfl (by decide +kernel) rfl rfl) (pm_cons (mk1K E.e1 G B.sup (xb_part E.e1.I) (by decide +kernel) hr (pv 0) rfl (by decide +kernel) rfl rfl rfl) (pm_nil)))))))
      (pss_cons (ps_if (pt_not (pt_val (pe_callB (cr_all rfl) (by rfl) B.all (by decide +kernel) (pa_cons (pe_lc (own := [("_law_one", 2)]) (g := gName 2) (tt := tYes) rfl nd (pi_list (pv 1)) (blkOk_by (own := [("_law_one", 2)]) (N := ["_law_thing", "_law_some", "_law_one"]) (sc := defScope sFirst) (by decide +kernel)) (fun _ _ _ _ _ => pg_name (i := 2) nd rfl (Or.inl rfl)) (fun _ _ _ _ _ => pts_nil) (fun _ _ _ _ _ => pe_call GI hr rfl B.gIs FI.kp bI .nil pass0 (pa_cons (pv 2) (pa_cons (pe_fldK (K := K) rfl (pv 2)) (pa_cons (pv 0) pa_nil))))) pa_nil)))) (pss_one (ps_ret pe_bl)) pss_nil)
      (pss_cons (ps_set (i := 1) nd rfl (.inl rfl) (pe_lst (pm_cons (mk1 E.e3 G B.sup (xp_index E.e3.I) (by decide +kernel) hr (pv 0) rfl (by decide +kernel) rfl rfl) (pm_cons (mk1K E.e3 G B.sup (xb_index E.e3.I) (by decide +kernel) hr (pv 0) rfl (by decide +kernel) rfl rfl rfl) (pm_cons (mk1 E.e4 G B.sup (xp_index E.e4.I) (by decide +kernel) hr (pv 0) rfl (by decide +kernel) rfl rfl) (pm_nil))))))
      (pss_cons (ps_set (i := 1) nd rfl (.inl rfl) (pe_op op_cat (pv 1) (pe_lst (pm_cons (mk1K E.e4 G B.sup (xb_index E.e4.I) (by decide +kernel) hr (pv 0) rfl (by decide +kernel) rfl rfl rfl) (pm_cons (mk1 E.e9 G B.sup (xp_index E.e9.I) (by decide +kernel) hr (pv 0) rfl (by decide +kernel) rfl rfl) (pm_cons (mk1K E.e9 G B.sup (xb_index E.e9.I) (by decide +kernel) hr (pv 0) rfl (by decide +kernel) rfl rfl rfl) (pm_nil)))))))
      (pss_cons (ps_if (pt_not (pt_val (pe_callB (cr_all rfl) (by rfl) B.all (by decide +kernel) (pa_cons (pe_lc (own := [("_law_one", 2)]) (g := gName 2) (tt := tYes) rfl nd (pi_list (pv 1)) (blkOk_by (own := [("_law_one", 2)]) (N := ["_law_thing", "_law_some", "_law_one"]) (sc := defScope sFirst) (by decide +kernel)) (fun _ _ _ _ _ => pg_name (i := 2) nd rfl (Or.inl rfl)) (fun _ _ _ _ _ => pts_nil) (fun _ _ _ _ _ => pe_call GI hr rfl B.gIs FI.kp bI .nil pass0 (pa_cons (pv 2) (pa_cons (pe_fldK (K := K) rfl (pv 2)) (pa_cons (pv 0) pa_nil))))) pa_nil)))) (pss_one (ps_ret pe_bl)) pss_nil)
      (pss_cons (ps_set (i := 1) nd rfl (.inl rfl) (pe_lst (pm_cons (mk1 E.e5 G B.sup (xp_owner E.e5.I) (by decide +kernel) hr (pv 0) rfl (by decide +kernel) rfl rfl) (pm_cons (mk1K E.e5 G B.sup (xb_owner E.e5.I) (by decide +kernel) hr (pv 0) rfl (by decide +kernel) rfl rfl rfl) (pm_cons (mk1 E.e12 G B.sup (xp_owner E.e12.I) (by decide +kernel) hr (pv 0) rfl (by decide +kernel) rfl rfl) (pm_cons (mk1K E.e12 G B.sup (xb_owner E.e12.I) (by decide +kernel) hr (pv 0) rfl (by decide +kernel) rfl rfl rfl) (pm_nil)))))))
      (pss_one (ps_ret (pe_callB (cr_all rfl) (by rfl) B.all (by decide +kernel) (pa_cons (pe_lc (own := [("_law_one", 2)]) (g := gName 2) (tt := tYes) rfl nd (pi_list (pv 1)) (blkOk_by (own := [("_law_one", 2)]) (N := ["_law_thing", "_law_some", "_law_one"]) (sc := defScope sFirst) (by decide +kernel)) (fun _ _ _ _ _ => pg_name (i := 2) nd rfl (Or.inl rfl)) (fun _ _ _ _ _ => pts_nil) (fun _ _ _ _ _ => pe_call GI hr rfl B.gIs FI.kp bI .nil pass0 (pa_cons (pv 2) (pa_cons (pe_fldK (K := K) rfl (pv 2)) (pa_cons (pv 0) pa_nil))))) pa_nil))))))))), ?_⟩
    have hk1 : ∀ C ∈ [c0, c0, c1, c1], ErrIs K S C ∧ PySem.W.findIn K (.ref C) "part" = some none := by
      simpa using ⟨E.e0.fine (.head _), E.e1.fine (.head _)⟩
    have hk2 : ∀ C ∈ [c3, c3, c4] ++ [c4, c9, c9], ErrIs K S C ∧ PySem.W.findIn K (.ref C) "index" = some none := by
      simpa using ⟨E.e3.fine (.head _), E.e4.fine (.head _), E.e9.fine (.head _)⟩
    have hk3 : ∀ C ∈ [c5, c5, c12, c12], ErrIs K S C ∧ PySem.W.findIn K (.ref C) "owner" = some none := by
      simpa using ⟨E.e5.fine (.head _), E.e12.fine (.head _)⟩
    refine set_mks (v := v) (by show 4 ≤ 100; decide) fun p1 es1 H1 s1 hp1 m1 => ?_
    refine if_all (K := K) (S := S) hp1 (hv.same s1) m1 (by show 4 ≤ 100; decide) hk1 fun H2 s2 => ?_
    have z2 := s1.trans s2
    refine set_mks (v := v) (by show 3 ≤ 100; decide) fun p3 es3 H3 s3 hp3 m3 => ?_
    have z3 := z2.trans s3
    refine cat_mks (v := v) (by show 6 ≤ 100; decide) hp3 m3 fun p4 es4 H4 s4 hp4 m4 => ?_
    have z4 := z3.trans s4
    refine if_all (K := K) (S := S) hp4 (hv.same z4) m4 (by show 6 ≤ 100; decide) hk2 fun H5 s5 => ?_
    have z5 := z4.trans s5
    refine set_mks (v := v) (by show 4 ≤ 100; decide) fun p6 es6 H6 s6 hp6 m6 => ?_
    have z6 := z5.trans s6
    refine ret_all (K := K) (S := S) hp6 (hv.same z6) m6 (by show 4 ≤ 100; decide) hk3 fun H7 s7 => k _ (z6.trans s7)
end
end K03
namespace K03
open PySem L2
section
variable {X : Cx} {S C fI : Addr} {x : Str} {p pos kp kp2 : Pos} {k i : Nat} {n : Int} {e e2 : Expr} {q1 q2 q3 q4 r1 r2 r3 r4 : Pos}
theorem mono2K {i : Nat} {c : V} (σ : St) (H : Hp) (P P' : List V → Hp → Prop) (w : ∀ vs H1, P vs H1 → P' vs H1) (h : tCons (tVar i) (tCons (tC c) tNil) σ H P) : tCons (tVar i) (tCons (tC c) tNil) σ H P' := mono2 σ H P P' w h
theorem mk2 (E : ErrF X.prog X.K X.mg S x C fI [("template", q1, q2, q3, q4), ("step", r1, r2, r3, r4)]) (G : PySem.XE.XG X.prog X.K) (hs : X.mg "super" = none) (hr : Room k X.A) (he : PE X e (tVar i)) (he2 : PE X e2 (tC (.int n))) (hg : Gl X x)
    (hdb : (x == ("__debug__" : Str)) = false) (h1 : starEach [e, e2] X.env = (false, eval e X.env) :: starEach [e2] X.env) (h2 : starEach [e2] X.env = (false, eval e2 X.env) :: starEach [] X.env) (hpl : (backTo pos (starEach [e2] X.env)).any (·.1) = false) :
    PE X (.Call (.Name x p) [e, e2] [] pos) (tMk2 C i n) := by
  refine (pe_mkX (g := gPos) (E.xm G hs (by simp) (by simp) (by show (["self", "template", "step"] : List Str).Nodup; decide +kernel)) (xp_two E.I) hr hg (pa_cons he (pa_cons he2 pa_nil h2) h1) (by decide) (fun a b => a) hdb h1 hpl).weak fun σ H Q q => mkG_of mono2 mono0 σ H Q ?_
  obtain ⟨v, hv, q⟩ := q
  exact ⟨v, hv, rfl, rfl, fun e H' hn s hE => q e H' hn s hE⟩
theorem mk2K (E : ErrF X.prog X.K X.mg S x C fI [("template", q1, q2, q3, q4), ("step", r1, r2, r3, r4)]) (G : PySem.XE.XG X.prog X.K) (hs : X.mg "super" = none) (hr : Room k X.A) (he : PE X e (tVar i)) (he2 : PE X e2 (tC (.int n))) (hg : Gl X x)
    (hdb : (x == ("__debug__" : Str)) = false) (hall : (backToKw pos (keywordEach [⟨some "step", e, kp⟩, ⟨some "template", e2, kp2⟩] X.env)).all (·.1.isSome) = true) (hks : (backToKw pos (keywordEach [⟨some "step", e, kp⟩, ⟨some "template", e2, kp2⟩] X.env)).filterMap (·.1) = (["step", "template"] : List Str))
    (hpl : ((backTo pos (starEach [] X.env)).any (·.1) || (backToKw pos (keywordEach [⟨some "step", e, kp⟩, ⟨some "template", e2, kp2⟩] X.env)).any (·.1.isNone)) = false) :
    PE X (.Call (.Name x p) [] [⟨some "step", e, kp⟩, ⟨some "template", e2, kp2⟩] pos) (tMk2K C i n) := by
  refine (pe_mkXK (g := gSwap) (E.xm G hs (by simp) (by simp) (by show (["self", "template", "step"] : List Str).Nodup; decide +kernel)) (xb_kwS E.I) hr hg (pk_cons he (pk_cons he2 pk_nil)) (fun a b => gSwap_rel a b) hall hks hdb hpl).weak fun σ H Q q => mkG_of mono0 mono2 σ H Q ?_
  obtain ⟨v, hv, q⟩ := q
  exact ⟨v, hv, rfl, rfl, fun e H' hn s hE => q e H' hn s hE⟩
end
theorem is_one {K : PySem.W.Frag} {S a C : Addr} {f : Str} {fs : List (Str × V)} {v : V} {i : Nat} {σ : St} {H : Hp} {Q : VK} (h1 : σ[i]? = some (some (.ref a))) (h0 : σ[0]? = some (some v)) (hE : ErrAt H a C fs) (hI : ErrIs K S C) (hn : PySem.W.findIn K (.ref C) f = some none) (hl : fs.lookup f = some v) (hv : EqK K H v) (q : Q (.bl true) H) :
    tCall (spIsErr K S) [] E0 (tCons (tVar i) (tCons (tFldX K f (tVar i)) (tCons (tVar 0) tNil))) σ H Q :=
  ⟨_, h1, _, h1, a, C, fs, v, rfl, hE, hI.err, hn, hl, _, h0, a, C, fs, v, rfl, hE, hI, hv, q⟩
abbrev tIs (K : PySem.W.Frag) (S : Addr) (f : Str) (i : Nat) : TE := tCall (spIsErr K S) [] E0 (tCons (tVar i) (tCons (tFldX K f (tVar i)) (tCons (tVar 0) tNil)))
/-- two at once, and both are asked -/
theorem pair_one {K : PySem.W.Frag} {S C : Addr} {f : Str} {v : V} {o : Option V} {y z : Option V} {H : Hp} {D : Ends} {R : TS} (hv : EqK K H v) (hI : ErrIs K S C) (hn : PySem.W.findIn K (.ref C) f = some none)
    (q : ∀ a b H', Same H H' → R D [some v, o, some (.ref a), some (.ref b)] H') :
    tSeq (tPar 2 3 (tCons (tMk1 C f 0) (tCons (tMk1 C f 0) tNil))) (tSeq (tIfS (tOr (tNot (tB (tIs K S f 2))) (tNot (tB (tIs K S f 3)))) (tRet (tC (.bl false))) tNext) R) D [some v, o, y, z] H := by
  refine ⟨v, rfl, fun a H1 _ s1 E1 => ⟨v, rfl, fun b H2 _ s2 E2 => ⟨_, _, rfl, ?_⟩⟩⟩
  refine is_one (i := 2) rfl rfl (ErrAt.same s2 E1) hI hn (by simp) (hv.same (s1.trans s2)) ⟨_, rfl, ?_⟩
  refine iteF ?_
  refine is_one (i := 3) rfl rfl E2 hI hn (by simp) (hv.same (s1.trans s2)) ⟨_, rfl, ?_⟩
  exact iteF (q a b H2 (s1.trans s2))
section
variable {P : Program} {w : World} {K : PySem.W.Frag} {mg : Str → Option Value} {base : Heap} {S c0 c1 c2 c3 c4 c5 c6 c7 c8 c9 c10 c11 c12 c13 c14 c15 f0 f1 f2 f3 f4 f5 f6 f7 f8 f9 f10 f11 f12 f13 f14 f15 : Addr}
theorem scLast : FnScope ["_law_thing", "_law_some", "_law_one", "_law_other"] ["_law_thing"] (defScope sLast) := ⟨rfl, rfl, rfl, by decide +kernel, rfl, by decide +kernel, by decide +kernel⟩
theorem ok_last {f fI : Addr} {fd fdI : FuncData} (F : Fun K "_law_last_errors" "_law_last_errors" sLast f fd) (B : TxtE mg S fI) (G : PySem.XE.XG P K) (E : Errs P K mg S c0 c1 c2 c3 c4 c5 c6 c7 c8 c9 c10 c11 c12 c13 c14 c15 f0 f1 f2 f3 f4 f5 f6 f7 f8 f9 f10 f11 f12 f13 f14 f15)
    (FI : Fun K "_law_is_error" "_law_is_error" sIsErr fI fdI) (bI : Binds K fdI ["_law_error", "_law_held", "_law_thing"] []) : FnOk P w K mg base CX0 2 f fd ["_law_thing"] (spAll K) := by
  have GI : FnOk P w K mg base CX0 1 fI fdI ["_law_error", "_law_held", "_law_thing"] (spIsErr K S) := ok_isErr FI B.toTxtC G.toXG0
  have nd := scLast.nd
  refine F.ok scLast (fun vs H Q E h => ?_) (fun cdv A outer s H vs Q E' hr h => ?_)
  · obtain ⟨v, rfl, _⟩ := h
    rfl
  · obtain ⟨v, rfl, hv, k⟩ := h
    refine ⟨_, pss_cons (ps_set (i := 1) nd rfl (.inl rfl) (pe_lst (pm_cons (mk1 E.e6 G B.sup (xp_item E.e6.I) (by decide +kernel) hr (pv 0) rfl (by decide +kernel) rfl rfl) (pm_cons (mk1K E.e6 G B.sup (xb_item E.e6.I) (by decide +kernel) hr (pv 0) rfl (by decide +kernel) rfl rfl rfl) (pm_cons (mk1 E.e13 G B.sup (xp_item E.e13.I) (by decide +kernel) hr (pv 0) rfl (by decide +kernel) rfl rfl) (pm_cons (mk1K E.e13 G B.sup (xb_item E.e13.I) (by decide +kernel) hr (pv 0) rfl (by decide +kernel) rfl rfl rfl) (pm_nil)))))))
      (pss_cons (ps_if (pt_not (pt_val (pe_callB (cr_all rfl) (by rfl) B.all (by decide +kernel) (pa_cons (pe_lc (own := [("_law_one", 2)]) (g := gName 2) (tt := tYes) rfl nd (pi_list (pv 1)) (blkOk_by (own := [("_law_one", 2)]) (N := ["_law_thing", "_law_some", "_law_one", "_law_other"]) (sc := defScope sLast) (by decide +kernel)) (fun _ _ _ _ _ => pg_name (i := 2) nd rfl (Or.inl rfl)) (fun _ _ _ _ _ => pts_nil) (fun _ _ _ _ _ => pe_call GI hr rfl B.gIs FI.kp bI .nil pass0 (pa_cons (pv 2) (pa_cons (pe_fldK (K := K) rfl (pv 2)) (pa_cons (pv 0) pa_nil))))) pa_nil)))) (pss_one (ps_ret pe_bl)) pss_nil)
      (pss_cons (ps_set (i := 1) nd rfl (.inl rfl) (pe_lst (pm_cons (mk1 E.e10 G B.sup (xp_name E.e10.I) (by decide +kernel) hr (pv 0) rfl (by decide +kernel) rfl rfl) (pm_cons (mk1K E.e10 G B.sup (xb_name E.e10.I) (by decide +kernel) hr (pv 0) rfl (by decide +kernel) rfl rfl rfl) (pm_cons (mk1 E.e11 G B.sup (xp_name E.e11.I) (by decide +kernel) hr (pv 0) rfl (by decide +kernel) rfl rfl) (pm_cons (mk1K E.e11 G B.sup (xb_name E.e11.I) (by decide +kernel) hr (pv 0) rfl (by decide +kernel) rfl rfl rfl) (pm_nil)))))))
      (pss_cons (ps_set (i := 1) nd rfl (.inl rfl) (pe_op op_cat (pv 1) (pe_lst (pm_cons (mk1 E.e14 G B.sup (xp_name E.e14.I) (by decide +kernel) hr (pv 0) rfl (by decide +kernel) rfl rfl) (pm_cons (mk1K E.e14 G B.sup (xb_name E.e14.I) (by decide +kernel) hr (pv 0) rfl (by decide +kernel) rfl rfl rfl) (pm_nil))))))
      (pss_cons (ps_if (pt_not (pt_val (pe_callB (cr_all rfl) (by rfl) B.all (by decide +kernel) (pa_cons (pe_lc (own := [("_law_one", 2)]) (g := gName 2) (tt := tYes) rfl nd (pi_list (pv 1)) (blkOk_by (own := [("_law_one", 2)]) (N := ["_law_thing", "_law_some", "_law_one", "_law_other"]) (sc := defScope sLast) (by decide +kernel)) (fun _ _ _ _ _ => pg_name (i := 2) nd rfl (Or.inl rfl)) (fun _ _ _ _ _ => pts_nil) (fun _ _ _ _ _ => pe_call GI hr rfl B.gIs FI.kp bI .nil pass0 (pa_cons (pv 2) (pa_cons (pe_fldK (K := K) rfl (pv 2)) (pa_cons (pv 0) pa_nil))))) pa_nil)))) (pss_one (ps_ret pe_bl)) pss_nil)
      (pss_cons (ps_par (i := 2) (j := 3) (by rfl) nd rfl rfl (by decide) rfl rfl (pa_cons (mk1 E.e7 G B.sup (xp_mode E.e7.I) (by decide +kernel) hr (pv 0) rfl (by decide +kernel) rfl rfl) (pa_cons (mk1K E.e7 G B.sup (xb_mode E.e7.I) (by decide +kernel) hr (pv 0) rfl (by decide +kernel) rfl rfl rfl) pa_nil)) (by rfl))
      (pss_cons (ps_if (PW.pt (pw_or (pt_not (pt_val (pe_call GI hr rfl B.gIs FI.kp bI .nil pass0 (pa_cons (pv 2) (pa_cons (pe_fldK (K := K) rfl (pv 2)) (pa_cons (pv 0) pa_nil)))))) (pw_or1 (pt_not (pt_val (pe_call GI hr rfl B.gIs FI.kp bI .nil pass0 (pa_cons (pv 3) (pa_cons (pe_fldK (K := K) rfl (pv 3)) (pa_cons (pv 0) pa_nil))))))))) (pss_one (ps_ret pe_bl)) pss_nil)
      (pss_cons (ps_par (i := 2) (j := 3) (by rfl) nd rfl rfl (by decide) rfl rfl (pa_cons (mk1 E.e8 G B.sup (xp_place E.e8.I) (by decide +kernel) hr (pv 0) rfl (by decide +kernel) rfl rfl) (pa_cons (mk1K E.e8 G B.sup (xb_place E.e8.I) (by decide +kernel) hr (pv 0) rfl (by decide +kernel) rfl rfl rfl) pa_nil)) (by rfl))
      (pss_cons (ps_if (PW.pt (pw_or (pt_not (pt_val (pe_call GI hr rfl B.gIs FI.kp bI .nil pass0 (pa_cons (pv 2) (pa_cons (pe_fldK (K := K) rfl (pv 2)) (pa_cons (pv 0) pa_nil)))))) (pw_or1 (pt_not (pt_val (pe_call GI hr rfl B.gIs FI.kp bI .nil pass0 (pa_cons (pv 3) (pa_cons (pe_fldK (K := K) rfl (pv 3)) (pa_cons (pv 0) pa_nil))))))))) (pss_one (ps_ret pe_bl)) pss_nil)
      (pss_cons (ps_par (i := 2) (j := 3) (by rfl) nd rfl rfl (by decide) rfl rfl (pa_cons (mk1 E.e15 G B.sup (xp_limit E.e15.I) (by decide +kernel) hr (pv 0) rfl (by decide +kernel) rfl rfl) (pa_cons (mk1K E.e15 G B.sup (xb_limit E.e15.I) (by decide +kernel) hr (pv 0) rfl (by decide +kernel) rfl rfl rfl) pa_nil)) (by rfl))
      (pss_cons (ps_if (PW.pt (pw_or (pt_not (pt_val (pe_call GI hr rfl B.gIs FI.kp bI .nil pass0 (pa_cons (pv 2) (pa_cons (pe_fldK (K := K) rfl (pv 2)) (pa_cons (pv 0) pa_nil)))))) (pw_or1 (pt_not (pt_val (pe_call GI hr rfl B.gIs FI.kp bI .nil pass0 (pa_cons (pv 3) (pa_cons (pe_fldK (K := K) rfl (pv 3)) (pa_cons (pv 0) pa_nil))))))))) (pss_one (ps_ret pe_bl)) pss_nil)
      (pss_cons (ps_par (i := 2) (j := 3) (by rfl) nd rfl rfl (by decide) rfl rfl (pa_cons (mk2 E.e2 G B.sup hr (pv 0) pe_int rfl (by decide +kernel) rfl rfl rfl) (pa_cons (mk2K E.e2 G B.sup hr (pv 0) pe_int rfl (by decide +kernel) rfl rfl rfl) pa_nil)) (by rfl))
      (pss_cons (ps_if (PW.pt (pw_or (pt_not (pt_val (pe_call GI hr rfl B.gIs FI.kp bI .nil pass0 (pa_cons (pv 2) (pa_cons (pe_fldK (K := K) rfl (pv 2)) (pa_cons (pv 0) pa_nil)))))) (pw_or1 (pt_not (pt_val (pe_call GI hr rfl B.gIs FI.kp bI .nil pass0 (pa_cons (pv 3) (pa_cons (pe_fldK (K := K) rfl (pv 3)) (pa_cons (pv 0) pa_nil))))))))) (pss_one (ps_ret pe_bl)) pss_nil)
      (pss_one (ps_ret (pe_and (pe_cmpR op_eq (pe_fldK (K := K) rfl (pv 2)) pe_int (nomark _)) (pe_one (pe_cmpR op_eq (pe_fldK (K := K) rfl (pv 3)) pe_int (nomark _)))))))))))))))))), ?_⟩
    have hk1 : ∀ C ∈ [c6, c6, c13, c13], ErrIs K S C ∧ PySem.W.findIn K (.ref C) "item" = some none := by
      simpa using ⟨E.e6.fine (.head _), E.e13.fine (.head _)⟩
    have hk2 : ∀ C ∈ [c10, c10, c11, c11] ++ [c14, c14], ErrIs K S C ∧ PySem.W.findIn K (.ref C) "name" = some none := by
      simpa using ⟨E.e10.fine (.head _), E.e11.fine (.head _), E.e14.fine (.head _)⟩
    refine set_mks (v := v) (by show 4 ≤ 100; decide) fun p1 es1 H1 s1 hp1 m1 => ?_
    refine if_all (K := K) (S := S) hp1 (hv.same s1) m1 (by show 4 ≤ 100; decide) hk1 fun H2 s2 => ?_
    have z2 := s1.trans s2
    refine set_mks (v := v) (by show 4 ≤ 100; decide) fun p3 es3 H3 s3 hp3 m3 => ?_
    have z3 := z2.trans s3
    refine cat_mks (v := v) (by show 6 ≤ 100; decide) hp3 m3 fun p4 es4 H4 s4 hp4 m4 => ?_
    have z4 := z3.trans s4
    refine if_all (K := K) (S := S) hp4 (hv.same z4) m4 (by show 6 ≤ 100; decide) hk2 fun H5 s5 => ?_
    have z5 := z4.trans s5
    obtain ⟨i7, n7⟩ := E.e7.fine (.head _)
    obtain ⟨i8, n8⟩ := E.e8.fine (.head _)
    obtain ⟨i15, n15⟩ := E.e15.fine (.head _)
    obtain ⟨i2, n2⟩ := E.e2.fine (.head _)
    obtain ⟨_, n2b⟩ := E.e2.fine (.tail _ (.head _))
    refine pair_one (f := "mode") (hv.same z5) i7 n7 fun a6 b6 H6 s6 => ?_
    have z6 := z5.trans s6
    refine pair_one (f := "place") (hv.same z6) i8 n8 fun a7 b7 H7 s7 => ?_
    have z7 := z6.trans s7
    refine pair_one (f := "limit") (hv.same z7) i15 n15 fun a8 b8 H8 s8 => ?_
    have z8 := z7.trans s8
    refine ⟨v, rfl, fun a H9 _ s9 E9 => ⟨v, rfl, fun b H10 _ s10 E10 => ⟨_, _, rfl, ?_⟩⟩⟩
    have z10 := (z8.trans s9).trans s10
    have E9' := ErrAt.same s10 E9
    refine is_one (i := 2) rfl rfl E9' i2 n2 (by rfl) (hv.same z10) ⟨_, rfl, ?_⟩
    refine iteF ?_
    refine is_one (i := 3) rfl rfl E10 i2 n2b (by rfl) (hv.same z10) ⟨_, rfl, ?_⟩
    refine iteF ?_
    refine ⟨_, rfl, a, c2, _, .int 7, rfl, E9', i2.err, n2b, by rfl, rfl, true, rfl, iteT ?_⟩
    exact ⟨_, rfl, b, c2, _, .int 8, rfl, E10, i2.err, n2, by rfl, rfl, k _ z10⟩
end
end K03
namespace K03
open PySem L2
/-- an error of C, whatever its fields -/
def tAt (C : Addr) : TE := fun σ H Q => (∃ v, σ[0]? = some (some v)) ∧ ∀ (e : Addr) (H' : Hp), Same H H' → IsAt H' (.ref e) C → Q (.ref e) H'
theorem at1 {X : Cx} {e : Expr} {C : Addr} {f : Str} (h : PE X e (tMk1 C f 0)) : PE X e (tAt C) := h.weak fun σ H Q q => by
  obtain ⟨⟨v, hv⟩, q⟩ := q
  exact ⟨v, hv, fun e H' _ s hE => q e H' s ⟨e, _, rfl, hE⟩⟩
theorem at2 {X : Cx} {e : Expr} {C : Addr} {n : Int} (h : PE X e (tMk2 C 0 n)) : PE X e (tAt C) := h.weak fun σ H Q q => by
  obtain ⟨⟨v, hv⟩, q⟩ := q
  exact ⟨v, hv, fun e H' _ s hE => q e H' s ⟨e, _, rfl, hE⟩⟩
def tAts : List Addr → TA
  | [] => tNil
  | C :: cs => tCons (tAt C) (tAts cs)
inductive Ats (H : Hp) : List V → List Addr → Prop
  | nil : Ats H [] []
  | cons {x : V} {C : Addr} {es : List V} {cs : List Addr} (h : IsAt H x C) (t : Ats H es cs) : Ats H (x :: es) (C :: cs)
theorem Ats.same {H H' : Hp} {es : List V} {cs : List Addr} (s : Same H H') (h : Ats H es cs) : Ats H' es cs := by
  induction h with
  | nil => exact .nil
  | cons h t ih => exact .cons (h.same s) ih
theorem Ats.length {H : Hp} {es : List V} {cs : List Addr} (h : Ats H es cs) : es.length = cs.length := by
  induction h with
  | nil => rfl
  | cons _ _ ih => rw [List.length_cons, List.length_cons, ih]
theorem Ats.append {H : Hp} {es es2 : List V} {cs cs2 : List Addr} (h : Ats H es cs) (h2 : Ats H es2 cs2) : Ats H (es ++ es2) (cs ++ cs2) := by
  induction h with
  | nil => exact h2
  | cons h t ih => exact .cons h ih
theorem Ats.at {H : Hp} {es : List V} {cs : List Addr} (h : Ats H es cs) : ∀ {i : Nat} {x : V}, es[i]? = some x → ∃ C, C ∈ cs ∧ IsAt H x C := by
  induction h with
  | nil => intro i x hx; simp at hx
  | cons h t ih =>
    intro i x hx
    cases i with
    | zero =>
      simp at hx
      subst hx
      exact ⟨_, List.mem_cons_self, h⟩
    | succ i =>
      simp at hx
      obtain ⟨C, hC, q⟩ := ih hx
      exact ⟨C, List.mem_cons_of_mem _ hC, q⟩
theorem ats {σ : St} {v : V} (hv : σ[0]? = some (some v)) : ∀ (cs : List Addr) (H : Hp) (P : List V → Hp → Prop), (∀ es H', Same H H' → Ats H' es cs → P es H') → tAts cs σ H P
  | [], H, P, q => q [] H (fun _ _ z => z) .nil
  | C :: cs, H, P, q => ⟨⟨v, hv⟩, fun e H1 s hE => ats hv cs H1 _ fun es H2 s2 hm => q _ _ (s.trans s2) (.cons (hE.same s2) hm)⟩
section
variable {X : Cx} {C : Addr} {cs : List Addr} {e : Expr} {es : List Expr}
theorem pt_nil : PA X [] (tAts []) := pa_nil
theorem pt_cons (h : PE X e (tAt C)) (t : PA X es (tAts cs)) (he : starEach (e :: es) X.env = (false, eval e X.env) :: starEach es X.env := by rfl) : PA X (e :: es) (tAts (C :: cs)) := pa_cons h t he
end
theorem set_ats {v : V} {cs : List Addr} {o : Option V} {r : St} {H : Hp} {D : Ends} (few : cs.length ≤ 100) (q : ∀ p es H', Same H H' → H' p = some (.lst es) → Ats H' es cs → D.nx (some v :: some (.ref p) :: r) H') :
    tAsg (tLst (tAts cs)) (gName 1) D (some v :: o :: r) H := by
  refine ats (v := v) rfl cs H _ fun es H1 s m => ⟨?_, fun p hp => ?_⟩
  · rw [m.length]
    exact Nat.le_trans few (by decide)
  · exact q p es _ (s.trans (same_new hp)) upd_same (m.same (same_new hp))
theorem op_ats {v : V} {cs cs0 : List Addr} {es0 : List V} {p0 : Addr} {r : St} {H : Hp} {Q : VK} (few : cs0.length + cs.length ≤ 100) (h0 : H p0 = some (.lst es0)) (m0 : Ats H es0 cs0)
    (q : ∀ p es H', Same H H' → H' p = some (.lst es) → Ats H' es (cs0 ++ cs) → Q (.ref p) H') :
    tOp rCat (tVar 1) (tLst (tAts cs)) (some v :: some (.ref p0) :: r) H Q := by
  refine ⟨_, rfl, ats (v := v) rfl cs H _ fun es H1 s m => ⟨?_, fun p hp => ?_⟩⟩
  · rw [m.length]
    exact Nat.le_trans (by omega) (show 100 ≤ sizeLine by decide)
  · refine ⟨_, _, _, _, rfl, rfl, same_new hp _ _ (s _ _ h0), upd_same, ?_, fun p2 hp2 => ?_⟩
    · rw [m.length, m0.length]
      exact Nat.le_trans few (by decide)
    · have s2 := (s.trans (same_new hp)).trans (same_new (o := .lst (es0 ++ es)) hp2)
      exact q p2 _ _ s2 upd_same ((m0.same s2).append ((m.same (same_new hp)).same (same_new hp2)))
/-- isinstance(one, D), one in slot 2 -/
def tMark (K : PySem.W.Frag) (D : Addr) : TE := tCB (rIsiX K) (tCons (tVar 2) (tCons (tC (.ref D)) tNil))
def tMarks (K : PySem.W.Frag) : List Addr → TA
  | [] => tNil
  | D :: ds => tCons (tMark K D) (tMarks K ds)
section
variable {X : Cx} {K : PySem.W.Frag} {D : Addr} {ds : List Addr} {e : Expr} {es : List Expr}
theorem pq_nil : PA X [] (tMarks K []) := pa_nil
theorem pq_cons (h : PE X e (tMark K D)) (t : PA X es (tMarks K ds)) (he : starEach (e :: es) X.env = (false, eval e X.env) :: starEach es X.env := by rfl) : PA X (e :: es) (tMarks K (D :: ds)) := pa_cons h t he
end
abbrev bools (C : Addr) (ds : List Addr) : List Bool := ds.map fun D => decide (C = D)
theorem marks {K : PySem.W.Frag} {a C : Addr} {fs : List (Str × V)} {σ : St} {H : Hp} (h2 : σ[2]? = some (some (.ref a))) (hE : ErrAt H a C fs) (hC : ErrC K C) : ∀ (ds : List Addr) (_ : ∀ D ∈ ds, PySem.W.kitOne K (.ref C) (.ref D) = some (decide (C = D))) (P : List V → Hp → Prop), P ((bools C ds).map V.bl) H → tMarks K ds σ H P
  | [], _, P, q => q
  | D :: ds, hk, P, q => ⟨_, h2, a, C, fs, .ref D, .ref D, _, rfl, hE, hC, .own D, hk D List.mem_cons_self, marks h2 hE hC ds (fun E hE => hk E (List.mem_cons_of_mem _ hE)) _ q⟩
theorem set_marks {K : PySem.W.Frag} {a C : Addr} {fs : List (Str × V)} {ds : List Addr} {x0 x1 o : Option V} {H : Hp} {D : Ends} (few : ds.length ≤ 100) (hE : ErrAt H a C fs) (hC : ErrC K C) (hk : ∀ D ∈ ds, PySem.W.kitOne K (.ref C) (.ref D) = some (decide (C = D)))
    (q : ∀ p H', Same H H' → H' p = some (.lst ((bools C ds).map V.bl)) → D.nx [x0, x1, some (.ref a), some (.ref p)] H') : tAsg (tLst (tMarks K ds)) (gName 3) D [x0, x1, some (.ref a), o] H := by
  refine marks (a := a) rfl hE hC ds hk _ ⟨?_, fun p hp => q p _ (same_new hp) upd_same⟩
  rw [List.length_map, List.length_map]
  exact Nat.le_trans few (by decide)
theorem cat_marks {K : PySem.W.Frag} {a C : Addr} {fs : List (Str × V)} {ds ds0 : List Addr} {p0 : Addr} {x0 x1 : Option V} {H : Hp} {D : Ends} (few : ds0.length + ds.length ≤ 100) (hE : ErrAt H a C fs) (hC : ErrC K C) (hk : ∀ D ∈ ds, PySem.W.kitOne K (.ref C) (.ref D) = some (decide (C = D)))
    (h0 : H p0 = some (.lst ((bools C ds0).map V.bl)))
    (q : ∀ p H', Same H H' → H' p = some (.lst ((bools C (ds0 ++ ds)).map V.bl)) → D.nx [x0, x1, some (.ref a), some (.ref p)] H') : tAsg (tOp rCat (tVar 3) (tLst (tMarks K ds))) (gName 3) D [x0, x1, some (.ref a), some (.ref p0)] H := by
  refine ⟨_, rfl, marks (a := a) rfl hE hC ds hk _ ⟨?_, fun p hp => ⟨_, _, _, _, rfl, rfl, same_new hp _ _ h0, upd_same, ?_, fun p2 hp2 => q p2 _ ((same_new hp).trans (same_new hp2)) ?_⟩⟩⟩
  · rw [List.length_map, List.length_map]
    exact Nat.le_trans (by omega) (show 100 ≤ sizeLine by decide)
  · simp only [List.length_map]
    exact Nat.le_trans few (by decide)
  · rw [upd_same]
    simp [bools]
theorem kit_up {prog : Program} {K : PySem.W.Frag} {mg : Str → Option Value} {S C D fI fJ : Addr} {x y : Str} {l l' : List (Str × Pos × Pos × Pos × Pos)} (E : ErrF prog K mg S x C fI l) (E' : ErrF prog K mg S y D fJ l') (hs : D ≠ S) : PySem.W.kitOne K (.ref C) (.ref D) = some (decide (C = D)) := by
  by_cases h : C = D
  · subst h
    simp [PySem.W.kitOne]
  · obtain ⟨cd, hc, hm⟩ := E.up
    obtain ⟨cd', hc', _⟩ := E'.up
    have b : (Value.ref C == Value.ref D) = false := by
      rw [Bool.eq_false_iff]
      intro z
      exact h (Value.ref.inj (beq_iff_eq.mp z))
    have b1 : (Value.ref D == Value.ref C) = false := by
      rw [Bool.eq_false_iff]
      intro z
      exact h (Value.ref.inj (beq_iff_eq.mp z)).symm
    have b2 : (Value.ref D == Value.ref S) = false := by
      rw [Bool.eq_false_iff]
      intro z
      exact hs (Value.ref.inj (beq_iff_eq.mp z))
    unfold PySem.W.kitOne
    rw [b, if_neg Bool.false_ne_true]
    unfold PySem.W.kitCls
    have t : (Option.isSome (PySem.W.clsIn K D) && PySem.W.typeIn K (.ref D) == some (.type "type")) = true := by
      rw [hc', E'.T.tyC]
      simp
    simp only [t, if_true]
    show PySem.W.mroIn K C (.ref D) = _
    unfold PySem.W.mroIn
    rw [hc, Option.bind_some, hm]
    have b3 : ∀ T : String, (Value.ref D == Value.type T) = false := fun T => by
      rw [Bool.eq_false_iff]
      intro z
      exact Value.noConfusion (beq_iff_eq.mp z)
    simp [List.contains, List.elem, b1, b2, b3, h]
theorem count_one {C : Addr} : ∀ {ds : List Addr}, ds.Nodup → C ∈ ds → (bools C ds).count true = 1
  | [], _, h => by simp at h
  | D :: ds, nd, h => by
    rw [List.nodup_cons] at nd
    unfold bools
    rw [List.map_cons, List.count_cons]
    by_cases e : C = D
    · subst e
      have z : (List.map (fun D => decide (C = D)) ds).count true = 0 := by
        rw [List.count_eq_zero]
        intro m
        rw [List.mem_map] at m
        obtain ⟨D, hD, he⟩ := m
        have := of_decide_eq_true he
        subst this
        exact nd.1 hD
      rw [z]
      simp
    · have hm : C ∈ ds := by
        rcases List.mem_cons.mp h with h | h
        · exact absurd h e
        · exact h
      have := count_one nd.2 hm
      unfold bools at this
      rw [this]
      simp [e]
end K03
namespace K03
open PySem L2
section
variable {P : Program} {w : World} {K : PySem.W.Frag} {mg : Str → Option Value} {base : Heap} {S c0 c1 c2 c3 c4 c5 c6 c7 c8 c9 c10 c11 c12 c13 c14 c15 f0 f1 f2 f3 f4 f5 f6 f7 f8 f9 f10 f11 f12 f13 f14 f15 : Addr}
abbrev allCs (c0 c1 c2 c3 c4 c5 c6 c7 c8 c9 c10 c11 c12 c13 c14 c15 : Addr) : List Addr := [c0, c1, c2, c3, c4, c5, c6, c7, c8, c9, c10, c11, c12, c13, c14, c15]
/-- each one's kind: an error class of ours, and no one's kind but its own -/
def Kinds (K : PySem.W.Frag) (cs : List Addr) : Prop := ∀ C ∈ cs, ErrC K C ∧ ∀ D ∈ cs, PySem.W.kitOne K (.ref C) (.ref D) = some (decide (C = D))
theorem Errs.kinds {prog : Program} (E : Errs prog K mg S c0 c1 c2 c3 c4 c5 c6 c7 c8 c9 c10 c11 c12 c13 c14 c15 f0 f1 f2 f3 f4 f5 f6 f7 f8 f9 f10 f11 f12 f13 f14 f15) (nd : S ∉ allCs c0 c1 c2 c3 c4 c5 c6 c7 c8 c9 c10 c11 c12 c13 c14 c15) : Kinds K (allCs c0 c1 c2 c3 c4 c5 c6 c7 c8 c9 c10 c11 c12 c13 c14 c15) := by
  simp only [allCs, List.mem_cons, List.not_mem_nil, or_false, not_or] at nd
  obtain ⟨n0, n1, n2, n3, n4, n5, n6, n7, n8, n9, n10, n11, n12, n13, n14, n15⟩ := nd
  intro C hC
  simp only [allCs, List.mem_cons, List.not_mem_nil, or_false] at hC
  rcases hC with rfl | rfl | rfl | rfl | rfl | rfl | rfl | rfl | rfl | rfl | rfl | rfl | rfl | rfl | rfl | rfl
  · refine ⟨⟨_, _, E.e0.T⟩, fun D hD => ?_⟩
    simp only [allCs, List.mem_cons, List.not_mem_nil, or_false] at hD
    rcases hD with rfl | rfl | rfl | rfl | rfl | rfl | rfl | rfl | rfl | rfl | rfl | rfl | rfl | rfl | rfl | rfl
    · exact kit_up E.e0 E.e0 (Ne.symm n0)
    · exact kit_up E.e0 E.e1 (Ne.symm n1)
    · exact kit_up E.e0 E.e2 (Ne.symm n2)
    · exact kit_up E.e0 E.e3 (Ne.symm n3)
    · exact kit_up E.e0 E.e4 (Ne.symm n4)
    · exact kit_up E.e0 E.e5 (Ne.symm n5)
    · exact kit_up E.e0 E.e6 (Ne.symm n6)
    · exact kit_up E.e0 E.e7 (Ne.symm n7)
    · exact kit_up E.e0 E.e8 (Ne.symm n8)
    · exact kit_up E.e0 E.e9 (Ne.symm n9)
    · exact kit_up E.e0 E.e10 (Ne.symm n10)
    · exact kit_up E.e0 E.e11 (Ne.symm n11)
    · exact kit_up E.e0 E.e12 (Ne.symm n12)
    · exact kit_up E.e0 E.e13 (Ne.symm n13)
    · exact kit_up E.e0 E.e14 (Ne.symm n14)
    · exact kit_up E.e0 E.e15 (Ne.symm n15)
  · refine ⟨⟨_, _, E.e1.T⟩, fun D hD => ?_⟩
    simp only [allCs, List.mem_cons, List.not_mem_nil, or_false] at hD
    rcases hD with rfl | rfl | rfl | rfl | rfl | rfl | rfl | rfl | rfl | rfl | rfl | rfl | rfl | rfl | rfl | rfl
    · exact kit_up E.e1 E.e0 (Ne.symm n0)
    · exact kit_up E.e1 E.e1 (Ne.symm n1)
    · exact kit_up E.e1 E.e2 (Ne.symm n2)
    · exact kit_up E.e1 E.e3 (Ne.symm n3)
    · exact kit_up E.e1 E.e4 (Ne.symm n4)
    · exact kit_up E.e1 E.e5 (Ne.symm n5)
    · exact kit_up E.e1 E.e6 (Ne.symm n6)
    · exact kit_up E.e1 E.e7 (Ne.symm n7)
    · exact kit_up E.e1 E.e8 (Ne.symm n8)
    · exact kit_up E.e1 E.e9 (Ne.symm n9)
    · exact kit_up E.e1 E.e10 (Ne.symm n10)
    · exact kit_up E.e1 E.e11 (Ne.symm n11)
    · exact kit_up E.e1 E.e12 (Ne.symm n12)
    · exact kit_up E.e1 E.e13 (Ne.symm n13)
    · exact kit_up E.e1 E.e14 (Ne.symm n14)
    · exact kit_up E.e1 E.e15 (Ne.symm n15)
  · refine ⟨⟨_, _, E.e2.T⟩, fun D hD => ?_⟩
    simp only [allCs, List.mem_cons, List.not_mem_nil, or_false] at hD
    rcases hD with rfl | rfl | rfl | rfl | rfl | rfl | rfl | rfl | rfl | rfl | rfl | rfl | rfl | rfl | rfl | rfl
    · exact kit_up E.e2 E.e0 (Ne.symm n0)
    · exact kit_up E.e2 E.e1 (Ne.symm n1)
    · exact kit_up E.e2 E.e2 (Ne.symm n2)
    · exact kit_up E.e2 E.e3 (Ne.symm n3)
    · exact kit_up E.e2 E.e4 (Ne.symm n4)
    · exact kit_up E.e2 E.e5 (Ne.symm n5)
    · exact kit_up E.e2 E.e6 (Ne.symm n6)
    · exact kit_up E.e2 E.e7 (Ne.symm n7)
    · exact kit_up E.e2 E.e8 (Ne.symm n8)
    · exact kit_up E.e2 E.e9 (Ne.symm n9)
    · exact kit_up E.e2 E.e10 (Ne.symm n10)
    · exact kit_up E.e2 E.e11 (Ne.symm n11)
    · exact kit_up E.e2 E.e12 (Ne.symm n12)
    · exact kit_up E.e2 E.e13 (Ne.symm n13)
    · exact kit_up E.e2 E.e14 (Ne.symm n14)
    · exact kit_up E.e2 E.e15 (Ne.symm n15)
  · refine ⟨⟨_, _, E.e3.T⟩, fun D hD => ?_⟩
    simp only [allCs, List.mem_cons, List.not_mem_nil, or_false] at hD
    rcases hD with rfl | rfl | rfl | rfl | rfl | rfl | rfl | rfl | rfl | rfl | rfl | rfl | rfl | rfl | rfl | rfl
    · exact kit_up E.e3 E.e0 (Ne.symm n0)
    · exact kit_up E.e3 E.e1 (Ne.symm n1)
    · exact kit_up E.e3 E.e2 (Ne.symm n2)
    · exact kit_up E.e3 E.e3 (Ne.symm n3)
    · exact kit_up E.e3 E.e4 (Ne.symm n4)
    · exact kit_up E.e3 E.e5 (Ne.symm n5)
    · exact kit_up E.e3 E.e6 (Ne.symm n6)
    · exact kit_up E.e3 E.e7 (Ne.symm n7)
    · exact kit_up E.e3 E.e8 (Ne.symm n8)
    · exact kit_up E.e3 E.e9 (Ne.symm n9)
    · exact kit_up E.e3 E.e10 (Ne.symm n10)
    · exact kit_up E.e3 E.e11 (Ne.symm n11)
    · exact kit_up E.e3 E.e12 (Ne.symm n12)
    · exact kit_up E.e3 E.e13 (Ne.symm n13)
    · exact kit_up E.e3 E.e14 (Ne.symm n14)
    · exact kit_up E.e3 E.e15 (Ne.symm n15)
  · refine ⟨⟨_, _, E.e4.T⟩, fun D hD => ?_⟩
    simp only [allCs, List.mem_cons, List.not_mem_nil, or_false] at hD
    rcases hD with rfl | rfl | rfl | rfl | rfl | rfl | rfl | rfl | rfl | rfl | rfl | rfl | rfl | rfl | rfl | rfl
    · exact kit_up E.e4 E.e0 (Ne.symm n0)
    · exact kit_up E.e4 E.e1 (Ne.symm n1)
    · exact kit_up E.e4 E.e2 (Ne.symm n2)
    · exact kit_up E.e4 E.e3 (Ne.symm n3)
    · exact kit_up E.e4 E.e4 (Ne.symm n4)
    · exact kit_up E.e4 E.e5 (Ne.symm n5)
    · exact kit_up E.e4 E.e6 (Ne.symm n6)
    · exact kit_up E.e4 E.e7 (Ne.symm n7)
    · exact kit_up E.e4 E.e8 (Ne.symm n8)
    · exact kit_up E.e4 E.e9 (Ne.symm n9)
    · exact kit_up E.e4 E.e10 (Ne.symm n10)
    · exact kit_up E.e4 E.e11 (Ne.symm n11)
    · exact kit_up E.e4 E.e12 (Ne.symm n12)
    · exact kit_up E.e4 E.e13 (Ne.symm n13)
    · exact kit_up E.e4 E.e14 (Ne.symm n14)
    · exact kit_up E.e4 E.e15 (Ne.symm n15)
  · refine ⟨⟨_, _, E.e5.T⟩, fun D hD => ?_⟩
    simp only [allCs, List.mem_cons, List.not_mem_nil, or_false] at hD
    rcases hD with rfl | rfl | rfl | rfl | rfl | rfl | rfl | rfl | rfl | rfl | rfl | rfl | rfl | rfl | rfl | rfl
    · exact kit_up E.e5 E.e0 (Ne.symm n0)
    · exact kit_up E.e5 E.e1 (Ne.symm n1)
    · exact kit_up E.e5 E.e2 (Ne.symm n2)
    · exact kit_up E.e5 E.e3 (Ne.symm n3)
    · exact kit_up E.e5 E.e4 (Ne.symm n4)
    · exact kit_up E.e5 E.e5 (Ne.symm n5)
    · exact kit_up E.e5 E.e6 (Ne.symm n6)
    · exact kit_up E.e5 E.e7 (Ne.symm n7)
    · exact kit_up E.e5 E.e8 (Ne.symm n8)
    · exact kit_up E.e5 E.e9 (Ne.symm n9)
    · exact kit_up E.e5 E.e10 (Ne.symm n10)
    · exact kit_up E.e5 E.e11 (Ne.symm n11)
    · exact kit_up E.e5 E.e12 (Ne.symm n12)
    · exact kit_up E.e5 E.e13 (Ne.symm n13)
    · exact kit_up E.e5 E.e14 (Ne.symm n14)
    · exact kit_up E.e5 E.e15 (Ne.symm n15)
  · refine ⟨⟨_, _, E.e6.T⟩, fun D hD => ?_⟩
    simp only [allCs, List.mem_cons, List.not_mem_nil, or_false] at hD
    rcases hD with rfl | rfl | rfl | rfl | rfl | rfl | rfl | rfl | rfl | rfl | rfl | rfl | rfl | rfl | rfl | rfl
    · exact kit_up E.e6 E.e0 (Ne.symm n0)
    · exact kit_up E.e6 E.e1 (Ne.symm n1)
    · exact kit_up E.e6 E.e2 (Ne.symm n2)
    · exact kit_up E.e6 E.e3 (Ne.symm n3)
    · exact kit_up E.e6 E.e4 (Ne.symm n4)
    · exact kit_up E.e6 E.e5 (Ne.symm n5)
    · exact kit_up E.e6 E.e6 (Ne.symm n6)
    · exact kit_up E.e6 E.e7 (Ne.symm n7)
    · exact kit_up E.e6 E.e8 (Ne.symm n8)
    · exact kit_up E.e6 E.e9 (Ne.symm n9)
    · exact kit_up E.e6 E.e10 (Ne.symm n10)
    · exact kit_up E.e6 E.e11 (Ne.symm n11)
    · exact kit_up E.e6 E.e12 (Ne.symm n12)
    · exact kit_up E.e6 E.e13 (Ne.symm n13)
    · exact kit_up E.e6 E.e14 (Ne.symm n14)
    · exact kit_up E.e6 E.e15 (Ne.symm n15)
  · refine ⟨⟨_, _, E.e7.T⟩, fun D hD => ?_⟩
    simp only [allCs, List.mem_cons, List.not_mem_nil, or_false] at hD
    rcases hD with rfl | rfl | rfl | rfl | rfl | rfl | rfl | rfl | rfl | rfl | rfl | rfl | rfl | rfl | rfl | rfl
    · exact kit_up E.e7 E.e0 (Ne.symm n0)
    · exact kit_up E.e7 E.e1 (Ne.symm n1)
    · exact kit_up E.e7 E.e2 (Ne.symm n2)
    · exact kit_up E.e7 E.e3 (Ne.symm n3)
    · exact kit_up E.e7 E.e4 (Ne.symm n4)
    · exact kit_up E.e7 E.e5 (Ne.symm n5)
    · exact kit_up E.e7 E.e6 (Ne.symm n6)
    · exact kit_up E.e7 E.e7 (Ne.symm n7)
    · exact kit_up E.e7 E.e8 (Ne.symm n8)
    · exact kit_up E.e7 E.e9 (Ne.symm n9)
    · exact kit_up E.e7 E.e10 (Ne.symm n10)
    · exact kit_up E.e7 E.e11 (Ne.symm n11)
    · exact kit_up E.e7 E.e12 (Ne.symm n12)
    · exact kit_up E.e7 E.e13 (Ne.symm n13)
    · exact kit_up E.e7 E.e14 (Ne.symm n14)
    · exact kit_up E.e7 E.e15 (Ne.symm n15)
  · refine ⟨⟨_, _, E.e8.T⟩, fun D hD => ?_⟩
    simp only [allCs, List.mem_cons, List.not_mem_nil, or_false] at hD
    rcases hD with rfl | rfl | rfl | rfl | rfl | rfl | rfl | rfl | rfl | rfl | rfl | rfl | rfl | rfl | rfl | rfl
    · exact kit_up E.e8 E.e0 (Ne.symm n0)
    · exact kit_up E.e8 E.e1 (Ne.symm n1)
    · exact kit_up E.e8 E.e2 (Ne.symm n2)
    · exact kit_up E.e8 E.e3 (Ne.symm n3)
    · exact kit_up E.e8 E.e4 (Ne.symm n4)
    · exact kit_up E.e8 E.e5 (Ne.symm n5)
    · exact kit_up E.e8 E.e6 (Ne.symm n6)
    · exact kit_up E.e8 E.e7 (Ne.symm n7)
    · exact kit_up E.e8 E.e8 (Ne.symm n8)
    · exact kit_up E.e8 E.e9 (Ne.symm n9)
    · exact kit_up E.e8 E.e10 (Ne.symm n10)
    · exact kit_up E.e8 E.e11 (Ne.symm n11)
    · exact kit_up E.e8 E.e12 (Ne.symm n12)
    · exact kit_up E.e8 E.e13 (Ne.symm n13)
    · exact kit_up E.e8 E.e14 (Ne.symm n14)
    · exact kit_up E.e8 E.e15 (Ne.symm n15)
  · refine ⟨⟨_, _, E.e9.T⟩, fun D hD => ?_⟩
    simp only [allCs, List.mem_cons, List.not_mem_nil, or_false] at hD
    rcases hD with rfl | rfl | rfl | rfl | rfl | rfl | rfl | rfl | rfl | rfl | rfl | rfl | rfl | rfl | rfl | rfl
    · exact kit_up E.e9 E.e0 (Ne.symm n0)
    · exact kit_up E.e9 E.e1 (Ne.symm n1)
    · exact kit_up E.e9 E.e2 (Ne.symm n2)
    · exact kit_up E.e9 E.e3 (Ne.symm n3)
    · exact kit_up E.e9 E.e4 (Ne.symm n4)
    · exact kit_up E.e9 E.e5 (Ne.symm n5)
    · exact kit_up E.e9 E.e6 (Ne.symm n6)
    · exact kit_up E.e9 E.e7 (Ne.symm n7)
    · exact kit_up E.e9 E.e8 (Ne.symm n8)
    · exact kit_up E.e9 E.e9 (Ne.symm n9)
    · exact kit_up E.e9 E.e10 (Ne.symm n10)
    · exact kit_up E.e9 E.e11 (Ne.symm n11)
    · exact kit_up E.e9 E.e12 (Ne.symm n12)
    · exact kit_up E.e9 E.e13 (Ne.symm n13)
    · exact kit_up E.e9 E.e14 (Ne.symm n14)
    · exact kit_up E.e9 E.e15 (Ne.symm n15)
  · refine ⟨⟨_, _, E.e10.T⟩, fun D hD => ?_⟩
    simp only [allCs, List.mem_cons, List.not_mem_nil, or_false] at hD
    rcases hD with rfl | rfl | rfl | rfl | rfl | rfl | rfl | rfl | rfl | rfl | rfl | rfl | rfl | rfl | rfl | rfl
    · exact kit_up E.e10 E.e0 (Ne.symm n0)
    · exact kit_up E.e10 E.e1 (Ne.symm n1)
    · exact kit_up E.e10 E.e2 (Ne.symm n2)
    · exact kit_up E.e10 E.e3 (Ne.symm n3)
    · exact kit_up E.e10 E.e4 (Ne.symm n4)
    · exact kit_up E.e10 E.e5 (Ne.symm n5)
    · exact kit_up E.e10 E.e6 (Ne.symm n6)
    · exact kit_up E.e10 E.e7 (Ne.symm n7)
    · exact kit_up E.e10 E.e8 (Ne.symm n8)
    · exact kit_up E.e10 E.e9 (Ne.symm n9)
    · exact kit_up E.e10 E.e10 (Ne.symm n10)
    · exact kit_up E.e10 E.e11 (Ne.symm n11)
    · exact kit_up E.e10 E.e12 (Ne.symm n12)
    · exact kit_up E.e10 E.e13 (Ne.symm n13)
    · exact kit_up E.e10 E.e14 (Ne.symm n14)
    · exact kit_up E.e10 E.e15 (Ne.symm n15)
  · refine ⟨⟨_, _, E.e11.T⟩, fun D hD => ?_⟩
    simp only [allCs, List.mem_cons, List.not_mem_nil, or_false] at hD
    rcases hD with rfl | rfl | rfl | rfl | rfl | rfl | rfl | rfl | rfl | rfl | rfl | rfl | rfl | rfl | rfl | rfl
    · exact kit_up E.e11 E.e0 (Ne.symm n0)
    · exact kit_up E.e11 E.e1 (Ne.symm n1)
    · exact kit_up E.e11 E.e2 (Ne.symm n2)
    · exact kit_up E.e11 E.e3 (Ne.symm n3)
    · exact kit_up E.e11 E.e4 (Ne.symm n4)
    · exact kit_up E.e11 E.e5 (Ne.symm n5)
    · exact kit_up E.e11 E.e6 (Ne.symm n6)
    · exact kit_up E.e11 E.e7 (Ne.symm n7)
    · exact kit_up E.e11 E.e8 (Ne.symm n8)
    · exact kit_up E.e11 E.e9 (Ne.symm n9)
    · exact kit_up E.e11 E.e10 (Ne.symm n10)
    · exact kit_up E.e11 E.e11 (Ne.symm n11)
    · exact kit_up E.e11 E.e12 (Ne.symm n12)
    · exact kit_up E.e11 E.e13 (Ne.symm n13)
    · exact kit_up E.e11 E.e14 (Ne.symm n14)
    · exact kit_up E.e11 E.e15 (Ne.symm n15)
  · refine ⟨⟨_, _, E.e12.T⟩, fun D hD => ?_⟩
    simp only [allCs, List.mem_cons, List.not_mem_nil, or_false] at hD
    rcases hD with rfl | rfl | rfl | rfl | rfl | rfl | rfl | rfl | rfl | rfl | rfl | rfl | rfl | rfl | rfl | rfl
    · exact kit_up E.e12 E.e0 (Ne.symm n0)
    · exact kit_up E.e12 E.e1 (Ne.symm n1)
    · exact kit_up E.e12 E.e2 (Ne.symm n2)
    · exact kit_up E.e12 E.e3 (Ne.symm n3)
    · exact kit_up E.e12 E.e4 (Ne.symm n4)
    · exact kit_up E.e12 E.e5 (Ne.symm n5)
    · exact kit_up E.e12 E.e6 (Ne.symm n6)
    · exact kit_up E.e12 E.e7 (Ne.symm n7)
    · exact kit_up E.e12 E.e8 (Ne.symm n8)
    · exact kit_up E.e12 E.e9 (Ne.symm n9)
    · exact kit_up E.e12 E.e10 (Ne.symm n10)
    · exact kit_up E.e12 E.e11 (Ne.symm n11)
    · exact kit_up E.e12 E.e12 (Ne.symm n12)
    · exact kit_up E.e12 E.e13 (Ne.symm n13)
    · exact kit_up E.e12 E.e14 (Ne.symm n14)
    · exact kit_up E.e12 E.e15 (Ne.symm n15)
  · refine ⟨⟨_, _, E.e13.T⟩, fun D hD => ?_⟩
    simp only [allCs, List.mem_cons, List.not_mem_nil, or_false] at hD
    rcases hD with rfl | rfl | rfl | rfl | rfl | rfl | rfl | rfl | rfl | rfl | rfl | rfl | rfl | rfl | rfl | rfl
    · exact kit_up E.e13 E.e0 (Ne.symm n0)
    · exact kit_up E.e13 E.e1 (Ne.symm n1)
    · exact kit_up E.e13 E.e2 (Ne.symm n2)
    · exact kit_up E.e13 E.e3 (Ne.symm n3)
    · exact kit_up E.e13 E.e4 (Ne.symm n4)
    · exact kit_up E.e13 E.e5 (Ne.symm n5)
    · exact kit_up E.e13 E.e6 (Ne.symm n6)
    · exact kit_up E.e13 E.e7 (Ne.symm n7)
    · exact kit_up E.e13 E.e8 (Ne.symm n8)
    · exact kit_up E.e13 E.e9 (Ne.symm n9)
    · exact kit_up E.e13 E.e10 (Ne.symm n10)
    · exact kit_up E.e13 E.e11 (Ne.symm n11)
    · exact kit_up E.e13 E.e12 (Ne.symm n12)
    · exact kit_up E.e13 E.e13 (Ne.symm n13)
    · exact kit_up E.e13 E.e14 (Ne.symm n14)
    · exact kit_up E.e13 E.e15 (Ne.symm n15)
  · refine ⟨⟨_, _, E.e14.T⟩, fun D hD => ?_⟩
    simp only [allCs, List.mem_cons, List.not_mem_nil, or_false] at hD
    rcases hD with rfl | rfl | rfl | rfl | rfl | rfl | rfl | rfl | rfl | rfl | rfl | rfl | rfl | rfl | rfl | rfl
    · exact kit_up E.e14 E.e0 (Ne.symm n0)
    · exact kit_up E.e14 E.e1 (Ne.symm n1)
    · exact kit_up E.e14 E.e2 (Ne.symm n2)
    · exact kit_up E.e14 E.e3 (Ne.symm n3)
    · exact kit_up E.e14 E.e4 (Ne.symm n4)
    · exact kit_up E.e14 E.e5 (Ne.symm n5)
    · exact kit_up E.e14 E.e6 (Ne.symm n6)
    · exact kit_up E.e14 E.e7 (Ne.symm n7)
    · exact kit_up E.e14 E.e8 (Ne.symm n8)
    · exact kit_up E.e14 E.e9 (Ne.symm n9)
    · exact kit_up E.e14 E.e10 (Ne.symm n10)
    · exact kit_up E.e14 E.e11 (Ne.symm n11)
    · exact kit_up E.e14 E.e12 (Ne.symm n12)
    · exact kit_up E.e14 E.e13 (Ne.symm n13)
    · exact kit_up E.e14 E.e14 (Ne.symm n14)
    · exact kit_up E.e14 E.e15 (Ne.symm n15)
  · refine ⟨⟨_, _, E.e15.T⟩, fun D hD => ?_⟩
    simp only [allCs, List.mem_cons, List.not_mem_nil, or_false] at hD
    rcases hD with rfl | rfl | rfl | rfl | rfl | rfl | rfl | rfl | rfl | rfl | rfl | rfl | rfl | rfl | rfl | rfl
    · exact kit_up E.e15 E.e0 (Ne.symm n0)
    · exact kit_up E.e15 E.e1 (Ne.symm n1)
    · exact kit_up E.e15 E.e2 (Ne.symm n2)
    · exact kit_up E.e15 E.e3 (Ne.symm n3)
    · exact kit_up E.e15 E.e4 (Ne.symm n4)
    · exact kit_up E.e15 E.e5 (Ne.symm n5)
    · exact kit_up E.e15 E.e6 (Ne.symm n6)
    · exact kit_up E.e15 E.e7 (Ne.symm n7)
    · exact kit_up E.e15 E.e8 (Ne.symm n8)
    · exact kit_up E.e15 E.e9 (Ne.symm n9)
    · exact kit_up E.e15 E.e10 (Ne.symm n10)
    · exact kit_up E.e15 E.e11 (Ne.symm n11)
    · exact kit_up E.e15 E.e12 (Ne.symm n12)
    · exact kit_up E.e15 E.e13 (Ne.symm n13)
    · exact kit_up E.e15 E.e14 (Ne.symm n14)
    · exact kit_up E.e15 E.e15 (Ne.symm n15)
theorem scApart : FnScope ["_law_thing", "_law_some", "_law_one", "_law_marks"] ["_law_thing"] (defScope sApart) := ⟨rfl, rfl, rfl, by decide +kernel, rfl, by decide +kernel, by decide +kernel⟩
theorem ok_apart {f fI : Addr} {fd : FuncData} (F : Fun K "_law_apart" "_law_apart" sApart f fd) (B : TxtE mg S fI) (G : PySem.XE.XG P K) (E : Errs P K mg S c0 c1 c2 c3 c4 c5 c6 c7 c8 c9 c10 c11 c12 c13 c14 c15 f0 f1 f2 f3 f4 f5 f6 f7 f8 f9 f10 f11 f12 f13 f14 f15) (nS : S ∉ allCs c0 c1 c2 c3 c4 c5 c6 c7 c8 c9 c10 c11 c12 c13 c14 c15) (ndc : (allCs c0 c1 c2 c3 c4 c5 c6 c7 c8 c9 c10 c11 c12 c13 c14 c15).Nodup) :
    FnOk P w K mg base CX0 2 f fd ["_law_thing"] (spAll K) := by
  have KK := E.kinds nS
  have nd := scApart.nd
  refine F.ok scApart (fun vs H Q E h => ?_) (fun cdv A outer s H vs Q E' hr h => ?_)
  · obtain ⟨v, rfl, _⟩ := h
    rfl
  · obtain ⟨v, rfl, hv, k⟩ := h
    refine ⟨_, pss_cons (ps_set (i := 1) nd rfl (.inl rfl) (pe_lst (pt_cons (at1 (mk1 E.e0 G B.sup (xp_part E.e0.I) (by decide +kernel) hr (pv 0) rfl (by decide +kernel) rfl rfl)) (pt_cons (at1 (mk1 E.e1 G B.sup (xp_part E.e1.I) (by decide +kernel) hr (pv 0) rfl (by decide +kernel) rfl rfl)) (pt_cons (at2 (mk2 E.e2 G B.sup hr (pv 0) pe_int rfl (by decide +kernel) rfl rfl rfl)) (pt_cons (at1 (mk1 E.e3 G B.sup (xp_index E.e3.I) (by decide +kernel) hr (pv 0) rfl (by decide +kernel) rfl rfl)) (pt_nil)))))))
      (pss_cons (ps_set (i := 1) nd rfl (.inl rfl) (pe_op op_cat (pv 1) (pe_lst (pt_cons (at1 (mk1 E.e4 G B.sup (xp_index E.e4.I) (by decide +kernel) hr (pv 0) rfl (by decide +kernel) rfl rfl)) (pt_cons (at1 (mk1 E.e5 G B.sup (xp_owner E.e5.I) (by decide +kernel) hr (pv 0) rfl (by decide +kernel) rfl rfl)) (pt_cons (at1 (mk1 E.e6 G B.sup (xp_item E.e6.I) (by decide +kernel) hr (pv 0) rfl (by decide +kernel) rfl rfl)) (pt_cons (at1 (mk1 E.e7 G B.sup (xp_mode E.e7.I) (by decide +kernel) hr (pv 0) rfl (by decide +kernel) rfl rfl)) (pt_nil))))))))
      (pss_cons (ps_set (i := 1) nd rfl (.inl rfl) (pe_op op_cat (pv 1) (pe_lst (pt_cons (at1 (mk1 E.e8 G B.sup (xp_place E.e8.I) (by decide +kernel) hr (pv 0) rfl (by decide +kernel) rfl rfl)) (pt_cons (at1 (mk1 E.e9 G B.sup (xp_index E.e9.I) (by decide +kernel) hr (pv 0) rfl (by decide +kernel) rfl rfl)) (pt_cons (at1 (mk1 E.e10 G B.sup (xp_name E.e10.I) (by decide +kernel) hr (pv 0) rfl (by decide +kernel) rfl rfl)) (pt_cons (at1 (mk1 E.e11 G B.sup (xp_name E.e11.I) (by decide +kernel) hr (pv 0) rfl (by decide +kernel) rfl rfl)) (pt_cons (at1 (mk1 E.e12 G B.sup (xp_owner E.e12.I) (by decide +kernel) hr (pv 0) rfl (by decide +kernel) rfl rfl)) (pt_nil)))))))))
      (pss_cons (ps_for PassesOwn.never rfl (pi_list (pe_op op_cat (pv 1) (pe_lst (pt_cons (at1 (mk1 E.e13 G B.sup (xp_item E.e13.I) (by decide +kernel) hr (pv 0) rfl (by decide +kernel) rfl rfl)) (pt_cons (at1 (mk1 E.e14 G B.sup (xp_name E.e14.I) (by decide +kernel) hr (pv 0) rfl (by decide +kernel) rfl rfl)) (pt_cons (at1 (mk1 E.e15 G B.sup (xp_limit E.e15.I) (by decide +kernel) hr (pv 0) rfl (by decide +kernel) rfl rfl)) (pt_nil))))))) (pg_name (i := 2) nd rfl (.inl rfl))
        (pss_cons (ps_set (i := 3) nd rfl (.inl rfl) (pe_lst (pq_cons (pe_callB (call_isiX G.toXG0) (by rfl) B.isi (by decide +kernel) (pa_cons (pv 2) (pa_cons (pe_glob (v := .ref c0) rfl E.e0.T.gC rfl) pa_nil))) (pq_cons (pe_callB (call_isiX G.toXG0) (by rfl) B.isi (by decide +kernel) (pa_cons (pv 2) (pa_cons (pe_glob (v := .ref c1) rfl E.e1.T.gC rfl) pa_nil))) (pq_cons (pe_callB (call_isiX G.toXG0) (by rfl) B.isi (by decide +kernel) (pa_cons (pv 2) (pa_cons (pe_glob (v := .ref c2) rfl E.e2.T.gC rfl) pa_nil))) (pq_nil))))))
        (pss_cons (ps_set (i := 3) nd rfl (.inl rfl) (pe_op op_cat (pv 3) (pe_lst (pq_cons (pe_callB (call_isiX G.toXG0) (by rfl) B.isi (by decide +kernel) (pa_cons (pv 2) (pa_cons (pe_glob (v := .ref c3) rfl E.e3.T.gC rfl) pa_nil))) (pq_cons (pe_callB (call_isiX G.toXG0) (by rfl) B.isi (by decide +kernel) (pa_cons (pv 2) (pa_cons (pe_glob (v := .ref c4) rfl E.e4.T.gC rfl) pa_nil))) (pq_nil))))))
        (pss_cons (ps_set (i := 3) nd rfl (.inl rfl) (pe_op op_cat (pv 3) (pe_lst (pq_cons (pe_callB (call_isiX G.toXG0) (by rfl) B.isi (by decide +kernel) (pa_cons (pv 2) (pa_cons (pe_glob (v := .ref c5) rfl E.e5.T.gC rfl) pa_nil))) (pq_cons (pe_callB (call_isiX G.toXG0) (by rfl) B.isi (by decide +kernel) (pa_cons (pv 2) (pa_cons (pe_glob (v := .ref c6) rfl E.e6.T.gC rfl) pa_nil))) (pq_cons (pe_callB (call_isiX G.toXG0) (by rfl) B.isi (by decide +kernel) (pa_cons (pv 2) (pa_cons (pe_glob (v := .ref c7) rfl E.e7.T.gC rfl) pa_nil))) (pq_nil)))))))
        (pss_cons (ps_set (i := 3) nd rfl (.inl rfl) (pe_op op_cat (pv 3) (pe_lst (pq_cons (pe_callB (call_isiX G.toXG0) (by rfl) B.isi (by decide +kernel) (pa_cons (pv 2) (pa_cons (pe_glob (v := .ref c8) rfl E.e8.T.gC rfl) pa_nil))) (pq_cons (pe_callB (call_isiX G.toXG0) (by rfl) B.isi (by decide +kernel) (pa_cons (pv 2) (pa_cons (pe_glob (v := .ref c9) rfl E.e9.T.gC rfl) pa_nil))) (pq_cons (pe_callB (call_isiX G.toXG0) (by rfl) B.isi (by decide +kernel) (pa_cons (pv 2) (pa_cons (pe_glob (v := .ref c10) rfl E.e10.T.gC rfl) pa_nil))) (pq_nil)))))))
        (pss_cons (ps_set (i := 3) nd rfl (.inl rfl) (pe_op op_cat (pv 3) (pe_lst (pq_cons (pe_callB (call_isiX G.toXG0) (by rfl) B.isi (by decide +kernel) (pa_cons (pv 2) (pa_cons (pe_glob (v := .ref c11) rfl E.e11.T.gC rfl) pa_nil))) (pq_cons (pe_callB (call_isiX G.toXG0) (by rfl) B.isi (by decide +kernel) (pa_cons (pv 2) (pa_cons (pe_glob (v := .ref c12) rfl E.e12.T.gC rfl) pa_nil))) (pq_cons (pe_callB (call_isiX G.toXG0) (by rfl) B.isi (by decide +kernel) (pa_cons (pv 2) (pa_cons (pe_glob (v := .ref c13) rfl E.e13.T.gC rfl) pa_nil))) (pq_nil)))))))
        (pss_cons (ps_set (i := 3) nd rfl (.inl rfl) (pe_op op_cat (pv 3) (pe_lst (pq_cons (pe_callB (call_isiX G.toXG0) (by rfl) B.isi (by decide +kernel) (pa_cons (pv 2) (pa_cons (pe_glob (v := .ref c14) rfl E.e14.T.gC rfl) pa_nil))) (pq_cons (pe_callB (call_isiX G.toXG0) (by rfl) B.isi (by decide +kernel) (pa_cons (pv 2) (pa_cons (pe_glob (v := .ref c15) rfl E.e15.T.gC rfl) pa_nil))) (pq_nil))))))
        (pss_one (ps_if (pt_cmpR op_ne (pe_bm PySem.F.plainAttrs_list PySem.F.slot_list_count PySem.F.type_list_count mt_countB (pv 3) (pa_cons pe_bl pa_nil)) pe_int (nomark _)) (pss_one (ps_ret pe_bl)) pss_nil)))))))))
      (pss_one (ps_ret pe_bl))))), ?_⟩
    refine set_ats (v := v) (by show 4 ≤ 100; decide) fun p1 es1 H1 s1 hp1 m1 => ?_
    refine op_ats (v := v) (by show 8 ≤ 100; decide) hp1 m1 fun p2 es2 H2 s2 hp2 m2 => ?_
    have z2 := s1.trans s2
    show tSeq _ _ _ [some v, some (.ref p2), none, none] H2
    refine op_ats (v := v) (by show 13 ≤ 100; decide) hp2 m2 fun p3 es3 H3 s3 hp3 m3 => ?_
    have z3 := z2.trans s3
    show tSeq _ _ _ [some v, some (.ref p3), none, none] H3
    refine op_ats (v := v) (by show 16 ≤ 100; decide) hp3 m3 fun p4 es4 H4 s4 hp4 m4 => ?_
    have z4 := z3.trans s4
    refine ⟨p4, rfl, ⟨_, SqL.of hp4⟩, ?_⟩
    refine for_list (xs := es4) (fun _ σ H' => Same H4 H' ∧ ∃ a b, σ = [some v, some (.ref p3), a, b]) ⟨fun _ _ z => z, none, none, rfl⟩ (fun i σ H' _ ⟨sm, _⟩ => sm.seq (SqL.of hp4)) ?_ ?_
    · rintro i x σ H5 hx ⟨s5, a0, b0, rfl⟩
      obtain ⟨C, hC, a, fs, rfl, hE⟩ := m4.at hx
      obtain ⟨kC, kA⟩ := KK C hC
      have hE5 := ErrAt.same s5 hE
      show tSeq _ _ _ [some v, some (.ref p3), some (.ref a), b0] H5
      refine set_marks (by show 3 ≤ 100; decide) hE5 kC (fun D hD => kA D (by simp only [List.mem_cons, List.not_mem_nil, or_false] at hD; rcases hD with rfl | rfl | rfl <;> simp [allCs])) fun q1 H6 s6 hq1 => ?_
      refine cat_marks (by show 5 ≤ 100; decide) (ErrAt.same s6 hE5) kC (fun D hD => kA D (by simp only [List.mem_cons, List.not_mem_nil, or_false] at hD; rcases hD with rfl | rfl <;> simp [allCs])) hq1 fun q2 H7 s7 hq2 => ?_
      have t7 := s6.trans s7
      refine cat_marks (by show 8 ≤ 100; decide) (ErrAt.same t7 hE5) kC (fun D hD => kA D (by simp only [List.mem_cons, List.not_mem_nil, or_false] at hD; rcases hD with rfl | rfl | rfl <;> simp [allCs])) hq2 fun q3 H8 s8 hq3 => ?_
      have t8 := t7.trans s8
      refine cat_marks (by show 11 ≤ 100; decide) (ErrAt.same t8 hE5) kC (fun D hD => kA D (by simp only [List.mem_cons, List.not_mem_nil, or_false] at hD; rcases hD with rfl | rfl | rfl <;> simp [allCs])) hq3 fun q4 H9 s9 hq4 => ?_
      have t9 := t8.trans s9
      refine cat_marks (by show 14 ≤ 100; decide) (ErrAt.same t9 hE5) kC (fun D hD => kA D (by simp only [List.mem_cons, List.not_mem_nil, or_false] at hD; rcases hD with rfl | rfl | rfl <;> simp [allCs])) hq4 fun q5 H10 s10 hq5 => ?_
      have t10 := t9.trans s10
      refine cat_marks (by show 16 ≤ 100; decide) (ErrAt.same t10 hE5) kC (fun D hD => kA D (by simp only [List.mem_cons, List.not_mem_nil, or_false] at hD; rcases hD with rfl | rfl <;> simp [allCs])) hq5 fun q6 H11 s11 hq6 => ?_
      have t11 := t10.trans s11
      refine ⟨_, rfl, .inl ⟨rfl, _, SqL.of hq6⟩, q6, _, true, rfl, rfl, SqL.of hq6, rfl, _, rfl, ?_⟩
      rw [count_one (ds := [c0, c1, c2] ++ [c3, c4] ++ [c5, c6, c7] ++ [c8, c9, c10] ++ [c11, c12, c13] ++ [c14, c15]) ndc hC]
      exact iteF ⟨s5.trans t11, _, _, rfl⟩
    · rintro σ H5 ⟨s5, _⟩
      exact k _ (z4.trans s5)
end
end K03
namespace L2
open PySem PySem.Spec PyProof.Rows
/-- xs + ys, a list of any standing and a tracked one -/
def rCatS (K : PySem.W.Frag) : R2 := fun x y H Q => ∃ l b xs zs, x = .ref l ∧ y = .ref b ∧ SqL K H l xs ∧ H b = some (.lst zs) ∧ xs.length + zs.length ≤ sizeLine ∧ ∀ p, H p = none → Q (.ref p) (upd H p (.lst (xs ++ zs)))
theorem op_catS {X : Cx} : OpR X (binaryOp .Add) (rCatS X.K) := by
  intro pins s σ H x y v u Q I rx ry h
  obtain ⟨l, b, xs, zs, rfl, rfl, hH, hB, hz, q⟩ := h
  cases rx
  cases ry
  obtain ⟨its, r, hl, _⟩ := I.list hH
  obtain ⟨z2, its2, n2, r2, hl2, e2⟩ := I.lstM hB
  obtain ⟨⟨oc, od, oda, osl⟩, n, e, hc, hd, hdat⟩ := hl
  have hlen := r.length
  have hlen2 := r2.length
  dsimp only at hc hd hdat
  subst hc hd hdat
  have hsz : its.toArray.size + its2.toArray.size ≤ sizeLine := by
    simp only [List.size_toArray]
    omega
  refine concat_meets ⟨_, e, rfl⟩ ⟨_, e2, rfl⟩ PySem.noFill_list_add PySem.seq_list_add F.slot_list_add F.entry_list_add (F.args_list_add_2 _ _) (list_addW l b its.toArray its2.toArray n n2 none none osl #[] hsz) ⟨e, e2, ?_⟩
  have ea : its.toArray ++ its2.toArray = (its ++ its2).toArray := by simp
  rw [ea]
  exact ⟨.ref _, _, I.lnew (t' := s.toks) (r.append r2) (by rw [List.length_append]; omega), rfl, q _ I.fresh⟩
end L2
namespace K03
open PySem L2
section
variable {K : PySem.W.Frag} {H : Hp}
theorem kit_b {T : String} {b : Bool} (h : PySem.W.kitMeta "bool" = true) (e : (Value.type T == Value.type "bool") = false) (m : (fastBuiltinMro T).map (·.contains (Value.type "bool")) = some b) : PySem.W.kitOne K (.type T) (.type "bool") = some b := by
  unfold PySem.W.kitOne
  rw [e, if_neg Bool.false_ne_true]
  unfold PySem.W.kitCls
  simp only [h, if_true]
  exact m
theorem kit_int : PySem.W.kitOne K (.type "int") (.type "bool") = some false := kit_b (by decide +kernel) (by decide +kernel) (by decide +kernel)
theorem kit_str : PySem.W.kitOne K (.type "str") (.type "bool") = some false := kit_b (by decide +kernel) (by decide +kernel) (by decide +kernel)
theorem kit_non : PySem.W.kitOne K (.type "NoneType") (.type "bool") = some false := kit_b (by decide +kernel) (by decide +kernel) (by decide +kernel)
theorem kit_lst : PySem.W.kitOne K (.type "list") (.type "bool") = some false := kit_b (by decide +kernel) (by decide +kernel) (by decide +kernel)
theorem kit_tup : PySem.W.kitOne K (.type "tuple") (.type "bool") = some false := kit_b (by decide +kernel) (by decide +kernel) (by decide +kernel)
theorem kit_dct : PySem.W.kitOne K (.type "dict") (.type "bool") = some false := kit_b (by decide +kernel) (by decide +kernel) (by decide +kernel)
theorem kit_bool : PySem.W.kitOne K (.type "bool") (.type "bool") = some true := by
  unfold PySem.W.kitOne
  rw [if_pos (by decide +kernel)]
theorem eqk_int (i : Int) : EqK K H (.int i) := ⟨.inl ⟨_, .int i, rfl, by simp [PyData.eqv]⟩, _, _, .base (.int i), kit_int⟩
theorem eqk_str (x : Str) (h : SeqAt.shaped (.str x) = true) : EqK K H (.str x) := ⟨.inl ⟨_, .str x, h, by simp [PyData.eqv]⟩, _, _, .base (.str x), kit_str⟩
theorem eqk_non : EqK K H .non := ⟨.inl ⟨_, .non, rfl, by simp [PyData.eqv]⟩, _, _, .base .non, kit_non⟩
theorem eqk_bl (b : Bool) : EqK K H (.bl b) := ⟨.inl ⟨_, .bl b, rfl, by simp [PyData.eqv]⟩, _, _, .base (.bl b), kit_bool⟩
theorem eqk_l1 {p : Addr} {i : Int} (h : H p = some (.lst [.int i])) : EqK K H (.ref p) := ⟨.inl ⟨.list [.int i], .lst (SqL.of h) (.cons (.int i) .nil), rfl, by simp [PyData.eqv, PyData.eqvAll]⟩, _, _, .base (.lst h), kit_lst⟩
theorem eqk_t2 {p : Addr} {i j : Int} (h : H p = some (.tup [.int i, .int j])) : EqK K H (.ref p) := ⟨.inl ⟨.tuple [.int i, .int j], .tup (SqT.of h) (.cons (.int i) (.cons (.int j) .nil)), rfl, by simp [PyData.eqv, PyData.eqvAll]⟩, _, _, .base (.tup h), kit_tup⟩
theorem eqk_tt {p q : Addr} {i j k : Int} (h : H p = some (.tup [.ref q, .int k])) (h2 : H q = some (.tup [.int i, .int j])) : EqK K H (.ref p) :=
  ⟨.inl ⟨.tuple [.tuple [.int i, .int j], .int k], .tup (SqT.of h) (.cons (.tup (SqT.of h2) (.cons (.int i) (.cons (.int j) .nil))) (.cons (.int k) .nil)), rfl, by simp [PyData.eqv, PyData.eqvAll]⟩, _, _, .base (.tup h), kit_tup⟩
theorem eqk_d {p : Addr} {kvs : List (Key × V)} (h : H p = some (.dK kvs)) (nd : (kvs.map (·.1)).Nodup) (f : ∀ q ∈ kvs, flatB q.2 = true) : EqK K H (.ref p) := ⟨.inr ⟨p, kvs, rfl, h, nd, f⟩, _, _, .base (.dK h), kit_dct⟩
end
end K03
namespace K03
open PySem L2
def spLaw (K : PySem.W.Frag) : Sp := fun vs H Q _ => ∃ (a : Addr) (ns : List Int), vs = [.ref a] ∧ SqL K H a (ns.map V.int) ∧ ns.length ≤ 63 ∧ ∀ H', Q (.bl true) H'
theorem same_new2 {H : Hp} {p : Addr} {o o' : HO} (h : H p = none) : Same H (upd (upd H p o) p o') := fun b o2 z => by
  rw [upd_ne (ne_of_none z h), upd_ne (ne_of_none z h)]
  exact z
theorem del_some {H : Hp} {t a : Addr} {o : HO} (h : H t = some o) (n : t ≠ a) : del H a t = some o := by
  rw [del_ne n]
  exact h
/-- if not first(x) or not last(x) or not apart(x): return False -/
theorem three {K : PySem.W.Frag} {i : Nat} {σ : St} {v : V} {H : Hp} {D : Ends} (h : σ[i]? = some (some v)) (hv : EqK K H v) (q : ∀ H', Same H H' → D.nx σ H') :
    tIfS (tOr (tNot (tB (tCall (spAll K) [] E0 (tCons (tVar i) tNil)))) (tOr (tNot (tB (tCall (spAll K) [] E0 (tCons (tVar i) tNil)))) (tNot (tB (tCall (spAll K) [] E0 (tCons (tVar i) tNil)))))) (tRet (tC (.bl false))) tNext D σ H := by
  refine ⟨v, h, v, rfl, hv, fun H1 s1 => ⟨true, rfl, ?_⟩⟩
  refine iteF ⟨v, h, v, rfl, hv.same s1, fun H2 s2 => ⟨true, rfl, ?_⟩⟩
  refine iteF ⟨v, h, v, rfl, hv.same (s1.trans s2), fun H3 s3 => ⟨true, rfl, ?_⟩⟩
  exact iteF (q H3 ((s1.trans s2).trans s3))
/-- an item of a list -/
theorem item_at {items : List V} {r : Int} (h0 : 0 ≤ r) (h1 : r < items.length) : ∃ v, v ∈ items ∧ atI items r = some v := by
  obtain ⟨n, rfl⟩ := Int.eq_ofNat_of_zero_le h0
  have hn : n < items.length := by omega
  exact ⟨items[n], List.getElem_mem hn, atI_nat (by simp [hn])⟩
abbrev tMenu : TA := tCons (tVar 4) (tCons (tC (.str "A")) (tCons (tC (.str "")) (tCons (tC .non) (tCons (tC (.bl true)) (tCons (tTup (tCons (tC (.int 0)) (tCons (tC (.int 1)) tNil))) (tCons (tLst (tCons (tVar 4) tNil))
  (tCons (tDisp [(tC (.str "b"), tC (.int 1))]) (tCons (tTup (tCons (tTup (tCons (tC (.int 2)) (tCons (tC (.int 1)) tNil))) (tCons (tC (.int 7)) tNil)))
  (tCons (tUn (rU fun i => .int (-i)) (tC (.int 1))) (tCons (tOp (rI CPow fun i j => .int (i ^ j.toNat)) (tC (.int 10)) (tC (.int 20))) (tCons tDNewK tNil)))))))))))
/-- the menu: each item is equal to itself, and none of it is the source -/
theorem menu {K : PySem.W.Frag} {σ : St} {far : Int} {H : Hp} {D : Ends} {src : Addr} {o : HO} (h4 : σ[4]? = some (some (.int far))) (hs : H src = some o)
    (q : ∀ (m : Addr) (items : List V) (H' : Hp), Same H H' → H' m = some (.lst items) → items.length = 12 → m ≠ src → (∀ x ∈ items, EqK K (del H' src) x) → D.nx (σ.set 5 (some (.ref m))) H') :
    tAsg (tLst tMenu) (gName 5) D σ H := by
  refine ⟨_, h4, ?_⟩
  refine ⟨by show 2 ≤ sizeLine; decide, fun t1 n1 => ?_⟩
  have s1 : Same H (upd H t1 (.tup [.int 0, .int 1])) := same_new n1
  have e1 : upd H t1 (.tup [.int 0, .int 1]) t1 = some (.tup [.int 0, .int 1]) := upd_same
  have d1 : t1 ≠ src := Ne.symm (ne_of_none hs n1)
  generalize upd H t1 (.tup [.int 0, .int 1]) = H1 at s1 e1 ⊢
  refine ⟨_, h4, by show 1 ≤ sizeLine; decide, fun l1 n2 => ?_⟩
  have s2 : Same H1 (upd H1 l1 (.lst [.int far])) := same_new n2
  have e2 : upd H1 l1 (.lst [.int far]) l1 = some (.lst [.int far]) := upd_same
  have d2 : l1 ≠ src := Ne.symm (ne_of_none (s1 _ _ hs) n2)
  generalize upd H1 l1 (.lst [.int far]) = H2 at s2 e2 ⊢
  have z2 := s1.trans s2
  refine fun p1 n3 => ⟨upd_same, [(.inr "b", .int 1)], rfl, by decide, ?_⟩
  have s3 : Same H2 (upd (upd H2 p1 (.dK [])) p1 (.dK (mergeK [] [(.inr "b", .int 1)]))) := same_new2 n3
  have e3 : upd (upd H2 p1 (.dK [])) p1 (.dK (mergeK [] [(.inr "b", .int 1)])) p1 = some (.dK [(.inr "b", .int 1)]) := upd_same
  have d3 : p1 ≠ src := Ne.symm (ne_of_none (z2 _ _ hs) n3)
  generalize upd (upd H2 p1 (.dK [])) p1 (.dK (mergeK [] [(.inr "b", .int 1)])) = H3 at s3 e3 ⊢
  have z3 := z2.trans s3
  refine ⟨by show 2 ≤ sizeLine; decide, fun t3 n4 => ?_⟩
  have s4 : Same H3 (upd H3 t3 (.tup [.int 2, .int 1])) := same_new n4
  have e4 : upd H3 t3 (.tup [.int 2, .int 1]) t3 = some (.tup [.int 2, .int 1]) := upd_same
  have d4 : t3 ≠ src := Ne.symm (ne_of_none (z3 _ _ hs) n4)
  generalize upd H3 t3 (.tup [.int 2, .int 1]) = H4 at s4 e4 ⊢
  have z4 := z3.trans s4
  refine ⟨by show 2 ≤ sizeLine; decide, fun t2 n5 => ?_⟩
  have s5 : Same H4 (upd H4 t2 (.tup [.ref t3, .int 7])) := same_new n5
  have e5 : upd H4 t2 (.tup [.ref t3, .int 7]) t2 = some (.tup [.ref t3, .int 7]) := upd_same
  have d5 : t2 ≠ src := Ne.symm (ne_of_none (z4 _ _ hs) n5)
  generalize upd H4 t2 (.tup [.ref t3, .int 7]) = H5 at s5 e5 ⊢
  have z5 := z4.trans s5
  refine ⟨1, rfl, 10, 20, rfl, rfl, ⟨by decide, by decide, by decide⟩, fun p2 n6 => ?_⟩
  have s6 : Same H5 (upd H5 p2 (.dK [])) := same_new n6
  have e6 : upd H5 p2 (.dK []) p2 = some (.dK []) := upd_same
  have d6 : p2 ≠ src := Ne.symm (ne_of_none (z5 _ _ hs) n6)
  generalize upd H5 p2 (.dK []) = H6 at s6 e6 ⊢
  have z6 := z5.trans s6
  refine ⟨by show 12 ≤ sizeLine; decide, fun m n7 => ?_⟩
  have d7 : m ≠ src := Ne.symm (ne_of_none (z6 _ _ hs) n7)
  refine q m _ _ (z6.trans (same_new n7)) upd_same rfl d7 ?_
  have s7 : Same H6 (upd H6 m (.lst [.int far, .str "A", .str "", .non, .bl true, .ref t1, .ref l1, .ref p1, .ref t2, .int (-1), .int (10 ^ (20 : Int).toNat), .ref p2])) := same_new n7
  have f1 := del_some (s7 _ _ (s6 _ _ (s5 _ _ (s4 _ _ (s3 _ _ (s2 _ _ e1)))))) d1
  have f2 := del_some (s7 _ _ (s6 _ _ (s5 _ _ (s4 _ _ (s3 _ _ e2))))) d2
  have f3 := del_some (s7 _ _ (s6 _ _ (s5 _ _ (s4 _ _ e3)))) d3
  have f4 := del_some (s7 _ _ (s6 _ _ (s5 _ _ e4))) d4
  have f5 := del_some (s7 _ _ (s6 _ _ e5)) d5
  have f6 := del_some (s7 _ _ e6) d6
  intro x hx
  simp only [List.mem_cons, List.not_mem_nil, or_false] at hx
  rcases hx with rfl | rfl | rfl | rfl | rfl | rfl | rfl | rfl | rfl | rfl | rfl | rfl
  · exact eqk_int _
  · exact eqk_str _ (by decide +kernel)
  · exact eqk_str _ (by decide +kernel)
  · exact eqk_non
  · exact eqk_bl _
  · exact eqk_t2 f1
  · exact eqk_l1 f2
  · exact eqk_d f3 (by decide) (by simp [flatB])
  · exact eqk_tt f5 f4
  · exact eqk_int _
  · exact eqk_int _
  · exact eqk_d f6 (by decide) (by simp)
structure TxtL (mg : Str → Option Value) (aF aL aA aS aT : Addr) : Prop where
  int : mg "int" = none
  range : mg "range" = none
  gF : mg "_law_first_errors" = some (.ref aF)
  gL : mg "_law_last_errors" = some (.ref aL)
  gA : mg "_law_apart" = some (.ref aA)
  gS : mg "_law_source" = some (.ref aS)
  gT : mg "_law_take" = some (.ref aT)
section
variable {P : Program} {w : World} {K : PySem.W.Frag} {mg : Str → Option Value} {base : Heap}
theorem scLaw : FnScope ["_law_script", "_law_huge", "_law_cell", "_law_source_here", "_law_far", "_law_some", "_law_k", "_law_thing"] ["_law_script"] (defScope sLaw) := ⟨rfl, rfl, rfl, by decide +kernel, rfl, by decide +kernel, by decide +kernel⟩
theorem ok_law {f aF aL aA aS aT : Addr} {fd dF dL dA dS dT : FuncData} (F : Fun K "law" "law" sLaw f fd) (B : TxtL mg aF aL aA aS aT)
    (GF : FnOk P w K mg base CX0 2 aF dF ["_law_thing"] (spAll K)) (kF : PySem.W.keepIn K (.ref aF) = true) (bF : Binds K dF ["_law_thing"] [])
    (GL : FnOk P w K mg base CX0 2 aL dL ["_law_thing"] (spAll K)) (kL : PySem.W.keepIn K (.ref aL) = true) (bL : Binds K dL ["_law_thing"] [])
    (GA : FnOk P w K mg base CX0 2 aA dA ["_law_thing"] (spAll K)) (kA : PySem.W.keepIn K (.ref aA) = true) (bA : Binds K dA ["_law_thing"] [])
    (GS : FnOk P w K mg base CX0 1 aS dS ["_law_cell"] spSource) (kS : PySem.W.keepIn K (.ref aS) = true) (bS : Binds K dS ["_law_cell"] [])
    (GT : FnOk P w K mg base CX0 2 aT dT ["_law_source_here", "_law_bound"] spTake) (kT : PySem.W.keepIn K (.ref aT) = true) (bT : Binds K dT ["_law_source_here", "_law_bound"] []) :
    FnOk P w K mg base CX0 3 f fd ["_law_script"] (spLaw K) := by
  have nd := scLaw.nd
  refine F.ok scLaw (fun vs H Q E h => ?_) (fun cdv A outer s H vs Q E' hr h => ?_)
  · obtain ⟨a, ns, rfl, _⟩ := h
    rfl
  · obtain ⟨a, ns, rfl, hS, hl, k⟩ := h
    have hr1 := hr.mono (show 1 ≤ 2 by decide)
    refine ⟨_, pss_cons (ps_set (i := 1) nd rfl (.inl rfl) (pe_op op_mulW (pe_op op_powW (pe_op op_powW pe_int pe_int) pe_int) (pe_op op_powW (pe_op op_powW pe_int pe_int) pe_int)))
      (pss_cons (ps_if (PW.pt (pw_or (pt_not (pt_val (pe_call GF hr rfl B.gF kF bF .nil pass0 (pa_cons (pv 1) (pa_nil))))) (pw_or (pt_not (pt_val (pe_call GL hr rfl B.gL kL bL .nil pass0 (pa_cons (pe_lst (pa_cons (pv 1) (pa_nil))) (pa_nil))))) (pw_or1 (pt_not (pt_val (pe_call GA hr rfl B.gA kA bA .nil pass0 (pa_cons (pe_un un_neg (pv 1)) (pa_nil))))))))) (pss_one (ps_ret pe_bl)) pss_nil)
      (pss_cons (ps_for PassesOwn.never rfl (pi_list (pe_slice sl_list (pe_op op_catS (pv 0) (pe_lst (pa_cons pe_int pa_nil))) po_none (po_some pe_int))) (pg_name (i := 2) nd rfl (.inl rfl)) (pss_cons (ps_set (i := 3) nd rfl (.inl rfl) (pe_call GS hr1 rfl B.gS kS bS .nil pass0 (pa_cons (pv 2) (pa_nil))))
      (pss_cons (ps_set (i := 4) nd rfl (.inl rfl) (pe_op op_sub (pe_op op_mod (pe_callTy call_intI (by rfl) B.int (by decide +kernel) (pa_cons (pv 2) pa_nil)) (pe_op op_add (pe_op op_mul pe_int (pe_op op_pow pe_int pe_int)) pe_int)) (pe_op op_pow pe_int pe_int)))
      (pss_cons (ps_set (i := 5) nd rfl (.inl rfl) (pe_lst (pa_cons (pv 4) (pa_cons (pe_str) (pa_cons (pe_str) (pa_cons (pe_non) (pa_cons (pe_bl) (pa_cons (pe_tup (pa_cons (pe_int) (pa_cons (pe_int) (pa_nil)))) (pa_cons (pe_lst (pa_cons (pv 4) (pa_nil))) (pa_cons (pe_disp (pps_cons pe_str pe_int pps_nil) (by rfl) (by rfl) (fun z => by cases z) (by decide)) (pa_cons (pe_tup (pa_cons (pe_tup (pa_cons (pe_int) (pa_cons (pe_int) (pa_nil)))) (pa_cons (pe_int) (pa_nil)))) (pa_cons (pe_un un_neg pe_int) (pa_cons (pe_op op_pow pe_int pe_int) (pa_cons (pe_dnewK) (pa_nil)))))))))))))))
      (pss_one (ps_for PassesOwn.never rfl (pi_range1 rfl B.range (pa_cons pe_int pa_nil)) (pg_name (i := 6) nd rfl (.inl rfl)) (pss_cons (ps_set (i := 7) nd rfl (.inl rfl) (pe_ix ix_listH (pv 5) (pe_call GT hr rfl B.gT kT bT .nil pass0 (pa_cons (pv 3) (pa_cons (pe_int) (pa_nil)))) (fun _ _ => rfl)))
      (pss_one (ps_if (PW.pt (pw_or (pt_not (pt_val (pe_call GF hr rfl B.gF kF bF .nil pass0 (pa_cons (pv 7) (pa_nil))))) (pw_or (pt_not (pt_val (pe_call GL hr rfl B.gL kL bL .nil pass0 (pa_cons (pv 7) (pa_nil))))) (pw_or1 (pt_not (pt_val (pe_call GA hr rfl B.gA kA bA .nil pass0 (pa_cons (pv 7) (pa_nil))))))))) (pss_one (ps_ret pe_bl)) pss_nil)))))))))
      (pss_one (ps_ret pe_bl)))), ?_⟩
    have c1 : CPowW 10 64 := ⟨by decide, by decide +kernel⟩
    have c2 : CPowW ((10 : Int) ^ (64 : Int).toNat) 64 := ⟨by decide, by decide +kernel⟩
    have c3 : CPowW ((10 : Int) ^ (64 : Int).toNat) 15 := ⟨by decide, by decide +kernel⟩
    have c4 : CMulW (((10 : Int) ^ (64 : Int).toNat) ^ (64 : Int).toNat) (((10 : Int) ^ (64 : Int).toNat) ^ (15 : Int).toNat) := wide_mul (a := 13700) (b := 3300) (by decide +kernel) (by decide +kernel) (by decide) (by decide) (by decide)
    refine ⟨10, 64, rfl, rfl, c1, _, 64, rfl, rfl, c2, 10, 64, rfl, rfl, c1, _, 15, rfl, rfl, c3, _, _, rfl, rfl, c4, ?_⟩
    show gName 1 (.int (((10 : Int) ^ (64 : Int).toNat) ^ (64 : Int).toNat * ((10 : Int) ^ (64 : Int).toNat) ^ (15 : Int).toNat)) _ _ _
    generalize ((10 : Int) ^ (64 : Int).toNat) ^ (64 : Int).toNat * ((10 : Int) ^ (64 : Int).toNat) ^ (15 : Int).toNat = g
    show tSeq _ _ _ [some (.ref a), some (.int g), none, none, none, none, none, none] H
    refine ⟨_, rfl, _, rfl, eqk_int _, fun H1 s1 => ⟨true, rfl, ?_⟩⟩
    refine iteF ⟨_, rfl, by show 1 ≤ sizeLine; decide, fun p1 n1 => ⟨_, rfl, eqk_l1 upd_same, fun H2 s2 => ⟨true, rfl, ?_⟩⟩⟩
    have z2 := s1.trans ((same_new n1).trans s2)
    refine iteF ⟨_, rfl, _, rfl, _, rfl, eqk_int _, fun H3 s3 => ⟨true, rfl, ?_⟩⟩
    have z3 := z2.trans s3
    refine iteF ?_
    refine ⟨_, rfl, by show 1 ≤ sizeLine; decide, fun p4 n4 => ⟨_, _, _, _, rfl, rfl, (z3.trans (same_new n4)).seq hS, upd_same, ?_, fun p5 n5 => ⟨3, rfl, _, _, rfl, SqL.of upd_same, fun p6 n6 => ⟨p6, rfl, ⟨_, SqL.of upd_same⟩, ?_⟩⟩⟩⟩
    · rw [List.length_map]
      exact Nat.le_trans (by show ns.length + 1 ≤ 64; omega) (show 64 ≤ sizeLine by decide)
    have e6 : upd (upd (upd H3 p4 (.lst [.int 0])) p5 (.lst (ns.map V.int ++ [.int 0]))) p6 (.lst (cutV (ns.map V.int ++ [.int 0]) none (some 3))) p6 = some (.lst (cutV (ns.map V.int ++ [.int 0]) none (some 3))) := upd_same
    generalize upd (upd (upd H3 p4 (.lst [.int 0])) p5 (.lst (ns.map V.int ++ [.int 0]))) p6 (.lst (cutV (ns.map V.int ++ [.int 0]) none (some 3))) = H6 at e6 ⊢
    have hi : ∀ x ∈ cutV (ns.map V.int ++ [.int 0]) none (some 3), ∃ c : Int, x = .int c := by
      intro x hx
      have hx2 := List.mem_of_mem_drop (List.mem_of_mem_take hx)
      rw [List.mem_append, List.mem_map] at hx2
      rcases hx2 with ⟨c, _, e⟩ | e
      · exact ⟨c, e.symm⟩
      · exact ⟨0, List.mem_singleton.mp e⟩
    refine for_list (xs := cutV (ns.map V.int ++ [.int 0]) none (some 3)) (fun _ σ H' => Same H6 H' ∧ ∃ b c d e f h : Option V, σ = [some (.ref a), some (.int g), b, c, d, e, f, h]) ⟨Same.refl _, _, _, _, _, _, _, rfl⟩ (fun i σ H' _ ⟨sm, _⟩ => sm.seq (SqL.of e6)) ?_ ?_
    · rintro i x σ H7 hx ⟨s7, b0, c0, d0, e0, f0, h0, rfl⟩
      obtain ⟨c, rfl⟩ := hi x (List.mem_of_getElem? hx)
      refine ⟨_, rfl, c, rfl, fun src x0 y0 ns1 hx0 hy0 => ?_⟩
      have s8 : Same H7 (upd H7 src (.lst [.int x0, .int y0, .int 0])) := same_new ns1
      have e8 : upd H7 src (.lst [.int x0, .int y0, .int 0]) src = some (.lst [.int x0, .int y0, .int 0]) := upd_same
      generalize upd H7 src (.lst [.int x0, .int y0, .int 0]) = H8 at s8 e8 ⊢
      show tSeq _ _ _ [some (.ref a), some (.int g), some (.int c), some (.ref src), d0, e0, f0, h0] H8
      refine ⟨_, rfl, c, rfl, 10, 40, rfl, rfl, ⟨by decide, by decide, by decide⟩, 2, _, rfl, rfl, .inl ⟨by decide, by decide⟩, _, _, rfl, rfl, _, _, rfl, rfl, (by show (0 : Int) < 2 * 10 ^ (40 : Int).toNat + 1; decide +kernel), 10, 40, rfl, rfl, ⟨by decide, by decide, by decide⟩, _, _, rfl, rfl, ?_⟩
      show gName 4 (.int (c % (2 * 10 ^ (40 : Int).toNat + 1) - 10 ^ (40 : Int).toNat)) _ _ _
      generalize c % (2 * 10 ^ (40 : Int).toNat + 1) - 10 ^ (40 : Int).toNat = far
      show tSeq _ _ _ [some (.ref a), some (.int g), some (.int c), some (.ref src), some (.int far), e0, f0, h0] H8
      refine menu (K := K) (far := far) rfl e8 fun m items H9 s9 hm hlen dm hk => ?_
      have e9 := s9 _ _ e8
      refine ⟨4, rfl, by decide, by decide, ?_⟩
      have back : ∀ {H' : Hp}, Same (del H9 src) H' → Same H7 H' := fun {H'} sd b o z => by
        refine sd b o (del_some (s9 _ _ (s8 _ _ z)) ?_)
        exact ne_of_none z ns1
      refine for_range (n := 4) (fun _ σ H' => Same (del H9 src) H' ∧ (∃ u v w : Int, 0 ≤ u ∧ H' src = some (.lst [.int u, .int v, .int w])) ∧ ∃ f h : Option V, σ = [some (.ref a), some (.int g), some (.int c), some (.ref src), some (.int far), some (.ref m), f, h]) ⟨fun b o z => ?_, ⟨x0, y0, 0, hx0, e9⟩, _, _, rfl⟩ ?_ ?_
      · unfold del at z
        split at z
        · cases z
        · exact z
      · rintro j σ H10 hj ⟨sd, ⟨u, v, w0, hu, hsrc⟩, f1, h1, rfl⟩
        refine ⟨_, rfl, _, rfl, src, u, v, w0, 12, rfl, hsrc, hu, by decide, by decide, fun r x' z' hr0 hr1' hx' => ?_⟩
        have sd2 : Same (del H9 src) (upd H10 src (.lst [.int x', .int v, .int z'])) := fun b o z => by
          have hb : b ≠ src := fun e => by
            subst e
            rw [del_same] at z
            cases z
          rw [upd_ne hb]
          exact sd b o z
        have e11 : upd H10 src (.lst [.int x', .int v, .int z']) src = some (.lst [.int x', .int v, .int z']) := upd_same
        generalize upd H10 src (.lst [.int x', .int v, .int z']) = H11 at sd2 e11 ⊢
        obtain ⟨thing, ht, hat⟩ := item_at (items := items) hr0 (by rw [hlen]; exact hr1')
        refine ⟨m, rfl, r, rfl, items, sd2 _ _ (del_some hm dm), thing, hat, ?_⟩
        refine three (i := 7) rfl (EqK.same sd2 (hk thing ht)) fun H12 s12 => ?_
        exact ⟨sd2.trans s12, ⟨x', v, z', hx', s12 _ _ e11⟩, _, _, rfl⟩
      · rintro σ H10 ⟨sd, _, f1, h1, rfl⟩
        exact ⟨s7.trans (back sd), _, _, _, _, _, _, rfl⟩
    · rintro σ H7 _
      exact k _
end
end K03
namespace K03
open PySem L2
/-- the scope of such an __init__ -/
abbrev scp (fl : List Str) : Scope := { kind := .function, names := ((("self" : Str), NameKind.local) :: (fl.map fun f => (f, NameKind.local))) ++ [(("__class__" : Str), NameKind.free), (("super" : Str), NameKind.globalImplicit)], isGenerator := false, isCoroutine := false, more := [] }
abbrev chain (S : Addr) : List Value := [.ref S, .type "ValueError", .type "Exception", .type "BaseException", .type "object"]
theorem al_mk {K : PySem.W.Frag} {S N : Addr} {nm q : Str} {bs sub : List Value} {hdS : Bool} {sn : List Str} {ab : Bool} {col : Option Bool} {dd : Option Addr} {k0 k1 k2 k3 k5 : Option Value}
    (xS : K.lookup S = some (excClassObj nm q S N bs [.type "ValueError", .type "Exception", .type "BaseException", .type "object"] hdS sn sub ab col dd k0 k1 k2 k3 k5 "ValueError.__new__"))
    (fS : PySem.W.findIn K (.ref S) "__init__" = some (some (.builtin "ValueError.__init__"))) : PySem.W.alongIn K "__init__" (chain S) = some (some (.builtin "ValueError.__init__")) := by
  simp only [PySem.W.findIn, xS] at fS
  exact fS
section
variable {prog : Program} {K : PySem.W.Frag} {h : Heap} {mg : Str → Option Value} {x : Str} {S C fI : Addr} {l : List (Str × Pos × Pos × Pos × Pos)} {pl : List (Pos × Str)} {p p1 p2 p3 p4 p5 p6 : Pos} {m : Str} {j : Nat}
variable {nm qc : Str} {N : Addr} {bs : List Value} {sn : List Str} {sub : List Value} {ab : Bool} {col : Option Bool} {dd : Option Addr} {k0 k1 k2 k3 k5 : Option Value}
variable {oc kV doc pm ct ccl cl : Value} {od an cdd cld : Option Addr} {osl ccs csl : Array (Option Value)} {vs : Array Value} {cda cc : Addr} {file q : Str} {tf : Tok}
theorem errF_mk (X : K.In h) (G : h.Ns mainGlobals mg) (iS0 : PySem.W.isClsIn K S = true) (tS : PySem.W.typeIn K (.ref S) = some (.type "type")) (al : PySem.W.alongIn K "__init__" (chain S) = some (some (.builtin "ValueError.__init__")))
    (aC : PySem.W.nsIn K mainGlobals x = some (some (.ref C)))
    (xL : K.lookup C = some (excClassObj nm qc C N bs (chain S) true sn sub ab col dd k0 k1 k2 k3 k5 "ValueError.__new__"))
    (kC : PySem.W.keepIn K (.ref C) = true)
    (sa : PySem.W.findIn K (.ref C) "__setattr__" = some (some (.builtin "object.__setattr__"))) (ga : PySem.W.findIn K (.ref C) "__getattribute__" = some (some (.builtin "BaseException.__getattribute__"))) (gg : PySem.W.findIn K (.ref C) "__getattr__" = some none) (ha : PySem.W.findIn K (.ref C) "__class__" = some (some (.builtin "object.__class__")))
    (no : ∀ r ∈ l, PySem.W.findIn K (.ref C) r.1 = some none ∧ (r.1 == ("__debug__" : Str)) = false)
    (fi : PySem.W.findIn K (.ref C) "__init__" = some (some (.ref fI))) (ti : PySem.W.typeIn K (.ref fI) = some (.type "function"))
    (lk : K.lookup fI = some ⟨oc, od, .func (PySem.W.fnX "__init__" q (PySem.XE.iArgs p pl) (PySem.XE.iSup m j p1 p2 p3 p4 p5 p6 :: PySem.XE.setsOf l) (scp (l.map (·.1))) [("__class__", cc)] .none kV doc pm an (.ref cda) ct), osl⟩)
    (hcd : PySem.W.codeIn K (.ref cda) q = true) (lkc : K.lookup cda = some ⟨ccl, cdd, .fields vs, ccs⟩) (v2 : vs[2]? = some (.str file tf)) (hf : ((prog.main.file : Str) == file) = true) (lkcc : K.lookup cc = some ⟨cl, cld, .cell (some (.ref C)), csl⟩)
    (hpl : pl.map (·.2) = l.map (·.1)) (hline : (p3.endLine == p5.line) = true) (hsup : (scp (l.map (·.1))).names.lookup ("super" : Str) = some .globalImplicit) (hcls : (scp (l.map (·.1))).names.lookup ("__class__" : Str) = some .free)
    (hfl : ∀ f ∈ l.map (·.1), (scp (l.map (·.1))).names.lookup f = some .local) : ErrF prog K mg S x C fI l := by
  have iS : (PySem.W.clsIn K S).isSome = true := iS0
  have hc : PySem.W.clsIn K C = some { name := nm, bases := bs, mro := .ref C :: chain S, ns := N, qualname := qc, hasDict := true, slotNames := sn, subclasses := sub, abstract := ab, collection := col, hasDel := false } := by
    unfold PySem.W.clsIn
    rw [xL] <;> rfl
  have mro : ∀ b, PySem.W.mroIn K C b = some ((Value.ref C :: chain S).contains b) := fun b => by
    unfold PySem.W.mroIn
    rw [hc, Option.bind_some]
    rfl
  have tyC : PySem.W.typeIn K (.ref C) = some (.type "type") := by
    show (K.lookup C).map (·.cls) = _
    rw [xL] <;> rfl
  have hd : PySem.W.hasDictIn K C = true := by
    unfold PySem.W.hasDictIn
    rw [hc] <;> rfl
  have T : PySem.XE.XT K mg x C := {
    gC := PySem.W.mg_of X G aC, kC := kC, cls := ⟨nm, qc, N, bs, chain S, sn, sub, ab, col, dd, k0, k1, k2, k3, k5, xL, by rfl, al⟩, sa := sa, ga := ga, gg := gg
    hsB := by
      show PySem.W.mroIn K C _ = _
      rw [mro]
      simp [chain]
    hsV := by
      show PySem.W.mroIn K C _ = _
      rw [mro]
      simp [chain]
    tyC := tyC, hd := hd, ha := ha
    hm := by
      rw [mro]
      simp [chain]
    hself := by
      rw [mro]
      simp [chain] }
  refine ⟨T, ⟨fi, ti, oc, od, q, kV, doc, pm, ct, an, cda, osl, pl, p, p1, p2, p3, p4, p5, p6, m, j, _, cc, ccl, cl, cdd, cld, vs, ccs, csl, file, tf, lk, hcd, hpl, lkc, v2, hf, lkcc, hline, rfl, rfl, rfl, ?_, hsup, hcls, rfl, hfl⟩, no, ⟨⟨mg, x, T⟩, ?_, ?_⟩, _, hc, rfl⟩
  · intro y hy
    simp only [scp, List.cons_append, List.mem_cons, List.mem_append, List.mem_map, List.not_mem_nil, or_false] at hy
    rcases hy with rfl | ⟨f, _, rfl⟩ | rfl | rfl <;> simp
  · unfold PySem.W.kitOne
    split
    · rfl
    · unfold PySem.W.kitCls
      simp only [iS, tS]
      show (if _ then PySem.W.mroIn K C (.ref S) else none) = _
      rw [mro]
      simp [chain]
  · unfold PySem.W.kitOne
    rw [if_neg (by intro z; exact Value.noConfusion (beq_iff_eq.mp z))]
    unfold PySem.W.kitCls
    have km : PySem.W.kitMeta "ValueError" = true := by decide +kernel
    simp only [km, if_true]
    show PySem.W.mroIn K C _ = _
    rw [mro]
    simp [chain]
end
structure FO (fl : List Str) : Prop where
  sup : (scp fl).names.lookup ("super" : Str) = some .globalImplicit
  cls : (scp fl).names.lookup ("__class__" : Str) = some .free
  loc : ∀ f ∈ fl, (scp fl).names.lookup f = some .local
  dbg : ∀ f ∈ fl, (f == ("__debug__" : Str)) = false
theorem fo_part : FO ["part"] := ⟨by decide +kernel, by decide +kernel, by decide +kernel, by decide +kernel⟩
theorem fo_two : FO ["template", "step"] := ⟨by decide +kernel, by decide +kernel, by decide +kernel, by decide +kernel⟩
theorem fo_index : FO ["index"] := ⟨by decide +kernel, by decide +kernel, by decide +kernel, by decide +kernel⟩
theorem fo_owner : FO ["owner"] := ⟨by decide +kernel, by decide +kernel, by decide +kernel, by decide +kernel⟩
theorem fo_item : FO ["item"] := ⟨by decide +kernel, by decide +kernel, by decide +kernel, by decide +kernel⟩
theorem fo_mode : FO ["mode"] := ⟨by decide +kernel, by decide +kernel, by decide +kernel, by decide +kernel⟩
theorem fo_place : FO ["place"] := ⟨by decide +kernel, by decide +kernel, by decide +kernel, by decide +kernel⟩
theorem fo_name : FO ["name"] := ⟨by decide +kernel, by decide +kernel, by decide +kernel, by decide +kernel⟩
theorem fo_limit : FO ["limit"] := ⟨by decide +kernel, by decide +kernel, by decide +kernel, by decide +kernel⟩
theorem no_one {K : PySem.W.Frag} {C : Addr} {f : Str} {q1 q2 q3 q4 : Pos} (fo : FO [f]) (h : PySem.W.findIn K (.ref C) f = some none) : ∀ r ∈ [(f, q1, q2, q3, q4)], PySem.W.findIn K (.ref C) r.1 = some none ∧ (r.1 == ("__debug__" : Str)) = false := by
  intro r hr
  rw [List.mem_singleton] at hr
  subst hr
  exact ⟨h, fo.dbg f (List.mem_singleton.mpr rfl)⟩
theorem no_two {K : PySem.W.Frag} {C : Addr} {f g : Str} {q1 q2 q3 q4 r1 r2 r3 r4 : Pos} (fo : FO [f, g]) (h : PySem.W.findIn K (.ref C) f = some none) (h2 : PySem.W.findIn K (.ref C) g = some none) : ∀ r ∈ [(f, q1, q2, q3, q4), (g, r1, r2, r3, r4)], PySem.W.findIn K (.ref C) r.1 = some none ∧ (r.1 == ("__debug__" : Str)) = false := by
  intro r hr
  simp only [List.mem_cons, List.not_mem_nil, or_false] at hr
  rcases hr with rfl | rfl
  · exact ⟨h, fo.dbg f (by simp)⟩
  · exact ⟨h2, fo.dbg g (by simp)⟩
end K03
namespace K03
open PySem PySem.Spec PyProof.Rows L2
theorem all_mk {P : Program} {w : World} {K : PySem.W.Frag} {h : Heap} {mg : Str → Option Value} {fa S c0 c1 c2 c3 c4 c5 c6 c7 c8 c9 c10 c11 c12 c13 c14 c15 f0 f1 f2 f3 f4 f5 f6 f7 f8 f9 f10 f11 f12 f13 f14 f15 aMixed aSource aTake aIsErr aFirst aLast aApart aLaw : Addr} {oMixed oSource oTake oIsErr oFirst oLast oApart oLaw : FuncData} (X : K.In h) (G : h.Ns mainGlobals mg) (hfa : mg "law" = some (.ref fa))
    (gS : PySem.W.nsIn K mainGlobals "StuckError" = some (some (.ref S)))
    (E0 : ErrF P K mg S "InvalidModes" c0 f0 l0)
    (E1 : ErrF P K mg S "InvalidSystem" c1 f1 l1)
    (E2 : ErrF P K mg S "InvalidTemplate" c2 f2 l2)
    (E3 : ErrF P K mg S "InvalidInstances" c3 f3 l3)
    (E4 : ErrF P K mg S "InvalidSchedule" c4 f4 l4)
    (E5 : ErrF P K mg S "InvalidOwner" c5 f5 l5)
    (E6 : ErrF P K mg S "InvalidItem" c6 f6 l6)
    (E7 : ErrF P K mg S "InvalidMode" c7 f7 l7)
    (E8 : ErrF P K mg S "InvalidText" c8 f8 l8)
    (E9 : ErrF P K mg S "InvalidLimits" c9 f9 l9)
    (E10 : ErrF P K mg S "InvalidPrices" c10 f10 l10)
    (E11 : ErrF P K mg S "InvalidNumber" c11 f11 l11)
    (E12 : ErrF P K mg S "Waiting" c12 f12 l12)
    (E13 : ErrF P K mg S "NotHeld" c13 f13 l13)
    (E14 : ErrF P K mg S "Mismatch" c14 f14 l14)
    (E15 : ErrF P K mg S "TooLarge" c15 f15 l15)
    (b_int : PySem.W.nsIn K mainGlobals "int" = some none)
    (b_abs : PySem.W.nsIn K mainGlobals "abs" = some none)
    (b_isinstance : PySem.W.nsIn K mainGlobals "isinstance" = some none)
    (b_bool : PySem.W.nsIn K mainGlobals "bool" = some none)
    (b_ValueError : PySem.W.nsIn K mainGlobals "ValueError" = some none)
    (b_super : PySem.W.nsIn K mainGlobals "super" = some none)
    (b_all : PySem.W.nsIn K mainGlobals "all" = some none)
    (b_range : PySem.W.nsIn K mainGlobals "range" = some none)
    (GG : PySem.XE.XG P K)
    (nS : S ∉ allCs c0 c1 c2 c3 c4 c5 c6 c7 c8 c9 c10 c11 c12 c13 c14 c15)
    (nd : (allCs c0 c1 c2 c3 c4 c5 c6 c7 c8 c9 c10 c11 c12 c13 c14 c15).Nodup)
    (AMixed : PySem.W.nsIn K mainGlobals "_law_mixed" = some (some (.ref aMixed)))
    (FMixed : Fun K "_law_mixed" "_law_mixed" sMixed aMixed oMixed)
    (bMixed : Binds K oMixed ["_law_cell", "_law_draw"] [])
    (ASource : PySem.W.nsIn K mainGlobals "_law_source" = some (some (.ref aSource)))
    (FSource : Fun K "_law_source" "_law_source" sSource aSource oSource)
    (bSource : Binds K oSource ["_law_cell"] [])
    (ATake : PySem.W.nsIn K mainGlobals "_law_take" = some (some (.ref aTake)))
    (FTake : Fun K "_law_take" "_law_take" sTake aTake oTake)
    (bTake : Binds K oTake ["_law_source_here", "_law_bound"] [])
    (AIsErr : PySem.W.nsIn K mainGlobals "_law_is_error" = some (some (.ref aIsErr)))
    (FIsErr : Fun K "_law_is_error" "_law_is_error" sIsErr aIsErr oIsErr)
    (bIsErr : Binds K oIsErr ["_law_error", "_law_held", "_law_thing"] [])
    (AFirst : PySem.W.nsIn K mainGlobals "_law_first_errors" = some (some (.ref aFirst)))
    (FFirst : Fun K "_law_first_errors" "_law_first_errors" sFirst aFirst oFirst)
    (bFirst : Binds K oFirst ["_law_thing"] [])
    (ALast : PySem.W.nsIn K mainGlobals "_law_last_errors" = some (some (.ref aLast)))
    (FLast : Fun K "_law_last_errors" "_law_last_errors" sLast aLast oLast)
    (bLast : Binds K oLast ["_law_thing"] [])
    (AApart : PySem.W.nsIn K mainGlobals "_law_apart" = some (some (.ref aApart)))
    (FApart : Fun K "_law_apart" "_law_apart" sApart aApart oApart)
    (bApart : Binds K oApart ["_law_thing"] [])
    (ALaw : PySem.W.nsIn K mainGlobals "law" = some (some (.ref aLaw)))
    (FLaw : Fun K "law" "law" sLaw aLaw oLaw)
    (bLaw : ∀ (s : Shared) (u : Value), BindsTo s oLaw ⟨[u], []⟩ [("_law_script", u)]) :
    ∃ fd : FuncData, (∀ (s : Shared) (u : Value), BindsTo s fd ⟨[u], []⟩ [("_law_script", u)]) ∧ ∀ base : Heap, K.In base → base.Ns mainGlobals mg → FnOk P w K mg base CX0 3 fa fd ["_law_script"] (spLaw K) := by
  have e := hfa.symm.trans (PySem.W.mg_of X G ALaw)
  cases e
  have M : ∀ {x : Str} {r : Value}, PySem.W.nsIn K mainGlobals x = some (some r) → mg x = some r := fun e => PySem.W.mg_of X G e
  have N : ∀ {x : Str}, PySem.W.nsIn K mainGlobals x = some none → mg x = none := fun e => PySem.W.mg_none_of X G e
  have E : Errs P K mg S c0 c1 c2 c3 c4 c5 c6 c7 c8 c9 c10 c11 c12 c13 c14 c15 f0 f1 f2 f3 f4 f5 f6 f7 f8 f9 f10 f11 f12 f13 f14 f15 := ⟨E0, E1, E2, E3, E4, E5, E6, E7, E8, E9, E10, E11, E12, E13, E14, E15⟩
  have TE : TxtE mg S aIsErr := { isi := N b_isinstance, bool := N b_bool, ve := N b_ValueError, gS := M gS, sup := N b_super, all := N b_all, gIs := M AIsErr }
  have TB : TxtB mg := ⟨N b_int, N b_abs⟩
  have TL : TxtL mg aFirst aLast aApart aSource aTake := ⟨N b_int, N b_range, M AFirst, M ALast, M AApart, M ASource, M ATake⟩
  exact ⟨oLaw, bLaw, fun base _ _ => ok_law FLaw TL (ok_first FFirst TE GG E FIsErr bIsErr) FFirst.kp bFirst (ok_last FLast TE GG E FIsErr bIsErr) FLast.kp bLast (ok_apart FApart TE GG E nS nd) FApart.kp bApart (ok_source FSource TB) FSource.kp bSource (ok_take FTake TB FMixed bMixed (M AMixed)) FTake.kp bTake⟩
end K03
open PySem PySem.W PyProof.Rows L2
theorem K03.walk {l : PySem.W.OpenLaw} {q : Program} {loose : List Str} {XP : (Str → Option Value) → Heap → Prop} {YP : World → Heap → Prop} {d : DefRec} {K : Params → PySem.W.Frag} (hn : l.most = some 63) (hdf : d.params.defaults = [])
    (hY : ∀ (w : World) (h : Heap), YP w h → (K w.params).In h)
    (F : ∀ (w : World) (mg : Str → Option Value) (fa : Addr) (h : Heap), (K w.params).In h → h.Ns mainGlobals mg → mg d.name = some (.ref fa) →
      ∃ fd : FuncData, (∀ (s : Shared) (u : Value), BindsTo s fd ⟨[u], []⟩ [("_law_script", u)]) ∧ ∀ base : Heap, (K w.params).In base → base.Ns mainGlobals mg → FnOk l.prog w (K w.params) mg base CX0 3 fa fd ["_law_script"] (K03.spLaw (K w.params))) :
    PySem.W.WalkO q loose XP YP l.row.toRowW d [] (fun f vs => PySem.call f vs) :=
  L2.walk_of (n := 63) (k := 3) (x := "_law_script") (CX := fun _ => CX0) (sp := fun w => K03.spLaw (K w.params)) hn (by decide) hdf ⟨rfl, by decide, by decide⟩ hY F (fun _ _ a ns hl _ hS => ⟨a, ns, rfl, hS, hl, fun _ => rfl⟩) fun _ _ _ _ _ z => z
set_option maxHeartbeats 0 in
theorem PySem.Challenge.cw_stuckrows_k03_errors_as_told_holds : PySem.Challenge.rw_stuckrows_k03_errors_as_told.Holds := by
  w_on; o_law; k_head; (case hw => w_witness2)
  k_fill
  refine K03.walk (l := PySem.Challenge.rw_stuckrows_k03_errors_as_told) rfl rfl (fun w h Y => PySem.W.kIn_of Y) ?F
  case F =>
    intro w mg fa h KX G hmg
    refine' K03.all_mk KX G hmg
      ?gS
      (K03.errF_mk (x := "InvalidModes") (l := K03.l0) (p := ⟨6, 17, 6, 21⟩) (pl := [(⟨6, 23, 6, 27⟩, "part")]) (m := "these are not modes") (j := 0) (p1 := ⟨7, 8, 7, 13⟩) (p2 := ⟨7, 8, 7, 15⟩) (p3 := ⟨7, 8, 7, 24⟩) (p4 := ⟨7, 25, 7, 46⟩) (p5 := ⟨7, 8, 7, 47⟩) (p6 := ⟨7, 8, 7, 47⟩) KX G ?iS ?tS (K03.al_mk ?xS ?fS) ?aC0 ?xL0 ?kC0 ?sa0 ?ga0 ?gg0 ?ha0 (K03.no_one K03.fo_part ?no0) ?fi0 ?ti0 ?lk0 ?hcd0 ?lkc0 ?v20 ?hf0 ?lkcc0 rfl rfl K03.fo_part.sup K03.fo_part.cls K03.fo_part.loc)
      (K03.errF_mk (x := "InvalidSystem") (l := K03.l1) (p := ⟨11, 17, 11, 21⟩) (pl := [(⟨11, 23, 11, 27⟩, "part")]) (m := "this is not a system") (j := 0) (p1 := ⟨12, 8, 12, 13⟩) (p2 := ⟨12, 8, 12, 15⟩) (p3 := ⟨12, 8, 12, 24⟩) (p4 := ⟨12, 25, 12, 47⟩) (p5 := ⟨12, 8, 12, 48⟩) (p6 := ⟨12, 8, 12, 48⟩) KX G ?iS ?tS (K03.al_mk ?xS ?fS) ?aC1 ?xL1 ?kC1 ?sa1 ?ga1 ?gg1 ?ha1 (K03.no_one K03.fo_part ?no1) ?fi1 ?ti1 ?lk1 ?hcd1 ?lkc1 ?v21 ?hf1 ?lkcc1 rfl rfl K03.fo_part.sup K03.fo_part.cls K03.fo_part.loc)
      (K03.errF_mk (x := "InvalidTemplate") (l := K03.l2) (p := ⟨16, 17, 16, 21⟩) (pl := [(⟨16, 23, 16, 31⟩, "template"), (⟨16, 33, 16, 37⟩, "step")]) (m := "a template of the system is not as it must be") (j := 0) (p1 := ⟨17, 8, 17, 13⟩) (p2 := ⟨17, 8, 17, 15⟩) (p3 := ⟨17, 8, 17, 24⟩) (p4 := ⟨17, 25, 17, 72⟩) (p5 := ⟨17, 8, 17, 73⟩) (p6 := ⟨17, 8, 17, 73⟩) KX G ?iS ?tS (K03.al_mk ?xS ?fS) ?aC2 ?xL2 ?kC2 ?sa2 ?ga2 ?gg2 ?ha2 (K03.no_two K03.fo_two ?no2 ?np2) ?fi2 ?ti2 ?lk2 ?hcd2 ?lkc2 ?v22 ?hf2 ?lkcc2 rfl rfl K03.fo_two.sup K03.fo_two.cls K03.fo_two.loc)
      (K03.errF_mk (x := "InvalidInstances") (l := K03.l3) (p := ⟨22, 17, 22, 21⟩) (pl := [(⟨22, 23, 22, 28⟩, "index")]) (m := "these are not instances of the system") (j := 0) (p1 := ⟨23, 8, 23, 13⟩) (p2 := ⟨23, 8, 23, 15⟩) (p3 := ⟨23, 8, 23, 24⟩) (p4 := ⟨23, 25, 23, 64⟩) (p5 := ⟨23, 8, 23, 65⟩) (p6 := ⟨23, 8, 23, 65⟩) KX G ?iS ?tS (K03.al_mk ?xS ?fS) ?aC3 ?xL3 ?kC3 ?sa3 ?ga3 ?gg3 ?ha3 (K03.no_one K03.fo_index ?no3) ?fi3 ?ti3 ?lk3 ?hcd3 ?lkc3 ?v23 ?hf3 ?lkcc3 rfl rfl K03.fo_index.sup K03.fo_index.cls K03.fo_index.loc)
      (K03.errF_mk (x := "InvalidSchedule") (l := K03.l4) (p := ⟨27, 17, 27, 21⟩) (pl := [(⟨27, 23, 27, 28⟩, "index")]) (m := "this is not a schedule of the instances") (j := 0) (p1 := ⟨28, 8, 28, 13⟩) (p2 := ⟨28, 8, 28, 15⟩) (p3 := ⟨28, 8, 28, 24⟩) (p4 := ⟨28, 25, 28, 66⟩) (p5 := ⟨28, 8, 28, 67⟩) (p6 := ⟨28, 8, 28, 67⟩) KX G ?iS ?tS (K03.al_mk ?xS ?fS) ?aC4 ?xL4 ?kC4 ?sa4 ?ga4 ?gg4 ?ha4 (K03.no_one K03.fo_index ?no4) ?fi4 ?ti4 ?lk4 ?hcd4 ?lkc4 ?v24 ?hf4 ?lkcc4 rfl rfl K03.fo_index.sup K03.fo_index.cls K03.fo_index.loc)
      (K03.errF_mk (x := "InvalidOwner") (l := K03.l5) (p := ⟨32, 17, 32, 21⟩) (pl := [(⟨32, 23, 32, 28⟩, "owner")]) (m := "this is not an owner") (j := 0) (p1 := ⟨33, 8, 33, 13⟩) (p2 := ⟨33, 8, 33, 15⟩) (p3 := ⟨33, 8, 33, 24⟩) (p4 := ⟨33, 25, 33, 47⟩) (p5 := ⟨33, 8, 33, 48⟩) (p6 := ⟨33, 8, 33, 48⟩) KX G ?iS ?tS (K03.al_mk ?xS ?fS) ?aC5 ?xL5 ?kC5 ?sa5 ?ga5 ?gg5 ?ha5 (K03.no_one K03.fo_owner ?no5) ?fi5 ?ti5 ?lk5 ?hcd5 ?lkc5 ?v25 ?hf5 ?lkcc5 rfl rfl K03.fo_owner.sup K03.fo_owner.cls K03.fo_owner.loc)
      (K03.errF_mk (x := "InvalidItem") (l := K03.l6) (p := ⟨37, 17, 37, 21⟩) (pl := [(⟨37, 23, 37, 27⟩, "item")]) (m := "this is not an item") (j := 0) (p1 := ⟨38, 8, 38, 13⟩) (p2 := ⟨38, 8, 38, 15⟩) (p3 := ⟨38, 8, 38, 24⟩) (p4 := ⟨38, 25, 38, 46⟩) (p5 := ⟨38, 8, 38, 47⟩) (p6 := ⟨38, 8, 38, 47⟩) KX G ?iS ?tS (K03.al_mk ?xS ?fS) ?aC6 ?xL6 ?kC6 ?sa6 ?ga6 ?gg6 ?ha6 (K03.no_one K03.fo_item ?no6) ?fi6 ?ti6 ?lk6 ?hcd6 ?lkc6 ?v26 ?hf6 ?lkcc6 rfl rfl K03.fo_item.sup K03.fo_item.cls K03.fo_item.loc)
      (K03.errF_mk (x := "InvalidMode") (l := K03.l7) (p := ⟨42, 17, 42, 21⟩) (pl := [(⟨42, 23, 42, 27⟩, "mode")]) (m := "this is none of the modes") (j := 0) (p1 := ⟨43, 8, 43, 13⟩) (p2 := ⟨43, 8, 43, 15⟩) (p3 := ⟨43, 8, 43, 24⟩) (p4 := ⟨43, 25, 43, 52⟩) (p5 := ⟨43, 8, 43, 53⟩) (p6 := ⟨43, 8, 43, 53⟩) KX G ?iS ?tS (K03.al_mk ?xS ?fS) ?aC7 ?xL7 ?kC7 ?sa7 ?ga7 ?gg7 ?ha7 (K03.no_one K03.fo_mode ?no7) ?fi7 ?ti7 ?lk7 ?hcd7 ?lkc7 ?v27 ?hf7 ?lkcc7 rfl rfl K03.fo_mode.sup K03.fo_mode.cls K03.fo_mode.loc)
      (K03.errF_mk (x := "InvalidText") (l := K03.l8) (p := ⟨47, 17, 47, 21⟩) (pl := [(⟨47, 23, 47, 28⟩, "place")]) (m := "this is not the text of a system") (j := 0) (p1 := ⟨48, 8, 48, 13⟩) (p2 := ⟨48, 8, 48, 15⟩) (p3 := ⟨48, 8, 48, 24⟩) (p4 := ⟨48, 25, 48, 59⟩) (p5 := ⟨48, 8, 48, 60⟩) (p6 := ⟨48, 8, 48, 60⟩) KX G ?iS ?tS (K03.al_mk ?xS ?fS) ?aC8 ?xL8 ?kC8 ?sa8 ?ga8 ?gg8 ?ha8 (K03.no_one K03.fo_place ?no8) ?fi8 ?ti8 ?lk8 ?hcd8 ?lkc8 ?v28 ?hf8 ?lkcc8 rfl rfl K03.fo_place.sup K03.fo_place.cls K03.fo_place.loc)
      (K03.errF_mk (x := "InvalidLimits") (l := K03.l9) (p := ⟨52, 17, 52, 21⟩) (pl := [(⟨52, 23, 52, 28⟩, "index")]) (m := "these are not limits of the system") (j := 0) (p1 := ⟨53, 8, 53, 13⟩) (p2 := ⟨53, 8, 53, 15⟩) (p3 := ⟨53, 8, 53, 24⟩) (p4 := ⟨53, 25, 53, 61⟩) (p5 := ⟨53, 8, 53, 62⟩) (p6 := ⟨53, 8, 53, 62⟩) KX G ?iS ?tS (K03.al_mk ?xS ?fS) ?aC9 ?xL9 ?kC9 ?sa9 ?ga9 ?gg9 ?ha9 (K03.no_one K03.fo_index ?no9) ?fi9 ?ti9 ?lk9 ?hcd9 ?lkc9 ?v29 ?hf9 ?lkcc9 rfl rfl K03.fo_index.sup K03.fo_index.cls K03.fo_index.loc)
      (K03.errF_mk (x := "InvalidPrices") (l := K03.l10) (p := ⟨57, 17, 57, 21⟩) (pl := [(⟨57, 23, 57, 27⟩, "name")]) (m := "these are not prices") (j := 0) (p1 := ⟨58, 8, 58, 13⟩) (p2 := ⟨58, 8, 58, 15⟩) (p3 := ⟨58, 8, 58, 24⟩) (p4 := ⟨58, 25, 58, 47⟩) (p5 := ⟨58, 8, 58, 48⟩) (p6 := ⟨58, 8, 58, 48⟩) KX G ?iS ?tS (K03.al_mk ?xS ?fS) ?aC10 ?xL10 ?kC10 ?sa10 ?ga10 ?gg10 ?ha10 (K03.no_one K03.fo_name ?no10) ?fi10 ?ti10 ?lk10 ?hcd10 ?lkc10 ?v210 ?hf10 ?lkcc10 rfl rfl K03.fo_name.sup K03.fo_name.cls K03.fo_name.loc)
      (K03.errF_mk (x := "InvalidNumber") (l := K03.l11) (p := ⟨62, 17, 62, 21⟩) (pl := [(⟨62, 23, 62, 27⟩, "name")]) (m := "an argument is not as it must be") (j := 0) (p1 := ⟨63, 8, 63, 13⟩) (p2 := ⟨63, 8, 63, 15⟩) (p3 := ⟨63, 8, 63, 24⟩) (p4 := ⟨63, 25, 63, 59⟩) (p5 := ⟨63, 8, 63, 60⟩) (p6 := ⟨63, 8, 63, 60⟩) KX G ?iS ?tS (K03.al_mk ?xS ?fS) ?aC11 ?xL11 ?kC11 ?sa11 ?ga11 ?gg11 ?ha11 (K03.no_one K03.fo_name ?no11) ?fi11 ?ti11 ?lk11 ?hcd11 ?lkc11 ?v211 ?hf11 ?lkcc11 rfl rfl K03.fo_name.sup K03.fo_name.cls K03.fo_name.loc)
      (K03.errF_mk (x := "Waiting") (l := K03.l12) (p := ⟨67, 17, 67, 21⟩) (pl := [(⟨67, 23, 67, 28⟩, "owner")]) (m := "this owner waits") (j := 0) (p1 := ⟨68, 8, 68, 13⟩) (p2 := ⟨68, 8, 68, 15⟩) (p3 := ⟨68, 8, 68, 24⟩) (p4 := ⟨68, 25, 68, 43⟩) (p5 := ⟨68, 8, 68, 44⟩) (p6 := ⟨68, 8, 68, 44⟩) KX G ?iS ?tS (K03.al_mk ?xS ?fS) ?aC12 ?xL12 ?kC12 ?sa12 ?ga12 ?gg12 ?ha12 (K03.no_one K03.fo_owner ?no12) ?fi12 ?ti12 ?lk12 ?hcd12 ?lkc12 ?v212 ?hf12 ?lkcc12 rfl rfl K03.fo_owner.sup K03.fo_owner.cls K03.fo_owner.loc)
      (K03.errF_mk (x := "NotHeld") (l := K03.l13) (p := ⟨72, 17, 72, 21⟩) (pl := [(⟨72, 23, 72, 27⟩, "item")]) (m := "this item is not held") (j := 0) (p1 := ⟨73, 8, 73, 13⟩) (p2 := ⟨73, 8, 73, 15⟩) (p3 := ⟨73, 8, 73, 24⟩) (p4 := ⟨73, 25, 73, 48⟩) (p5 := ⟨73, 8, 73, 49⟩) (p6 := ⟨73, 8, 73, 49⟩) KX G ?iS ?tS (K03.al_mk ?xS ?fS) ?aC13 ?xL13 ?kC13 ?sa13 ?ga13 ?gg13 ?ha13 (K03.no_one K03.fo_item ?no13) ?fi13 ?ti13 ?lk13 ?hcd13 ?lkc13 ?v213 ?hf13 ?lkcc13 rfl rfl K03.fo_item.sup K03.fo_item.cls K03.fo_item.loc)
      (K03.errF_mk (x := "Mismatch") (l := K03.l14) (p := ⟨77, 17, 77, 21⟩) (pl := [(⟨77, 23, 77, 27⟩, "name")]) (m := "an argument does not fit") (j := 0) (p1 := ⟨78, 8, 78, 13⟩) (p2 := ⟨78, 8, 78, 15⟩) (p3 := ⟨78, 8, 78, 24⟩) (p4 := ⟨78, 25, 78, 51⟩) (p5 := ⟨78, 8, 78, 52⟩) (p6 := ⟨78, 8, 78, 52⟩) KX G ?iS ?tS (K03.al_mk ?xS ?fS) ?aC14 ?xL14 ?kC14 ?sa14 ?ga14 ?gg14 ?ha14 (K03.no_one K03.fo_name ?no14) ?fi14 ?ti14 ?lk14 ?hcd14 ?lkc14 ?v214 ?hf14 ?lkcc14 rfl rfl K03.fo_name.sup K03.fo_name.cls K03.fo_name.loc)
      (K03.errF_mk (x := "TooLarge") (l := K03.l15) (p := ⟨82, 17, 82, 21⟩) (pl := [(⟨82, 23, 82, 28⟩, "limit")]) (m := "this is more than can be looked at") (j := 0) (p1 := ⟨83, 8, 83, 13⟩) (p2 := ⟨83, 8, 83, 15⟩) (p3 := ⟨83, 8, 83, 24⟩) (p4 := ⟨83, 25, 83, 61⟩) (p5 := ⟨83, 8, 83, 62⟩) (p6 := ⟨83, 8, 83, 62⟩) KX G ?iS ?tS (K03.al_mk ?xS ?fS) ?aC15 ?xL15 ?kC15 ?sa15 ?ga15 ?gg15 ?ha15 (K03.no_one K03.fo_limit ?no15) ?fi15 ?ti15 ?lk15 ?hcd15 ?lkc15 ?v215 ?hf15 ?lkcc15 rfl rfl K03.fo_limit.sup K03.fo_limit.cls K03.fo_limit.loc)
      ?b_int
      ?b_abs
      ?b_isinstance
      ?b_bool
      ?b_ValueError
      ?b_super
      ?b_all
      ?b_range
      { hn := ?hn, ht := ?ht, op := ?op, sup := ?b_super, top := ?top }
      ?nS
      ?nd
      ?AMixed
      (fun_mk (x := "_law_mixed") (qual := "_law_mixed") (st := K03.sMixed) ?LMixed ?CMixed ?KMixed)
      ((fun_mk (x := "_law_mixed") (qual := "_law_mixed") (st := K03.sMixed) ?LMixed ?CMixed ?KMixed).binds (ps := ["_law_cell", "_law_draw"]) fun _ _ _ _ _ _ us hl => match us, hl with | [_, _], _ => rfl)
      ?ASource
      (fun_mk (x := "_law_source") (qual := "_law_source") (st := K03.sSource) ?LSource ?CSource ?KSource)
      ((fun_mk (x := "_law_source") (qual := "_law_source") (st := K03.sSource) ?LSource ?CSource ?KSource).binds (ps := ["_law_cell"]) fun _ _ _ _ _ _ us hl => match us, hl with | [_], _ => rfl)
      ?ATake
      (fun_mk (x := "_law_take") (qual := "_law_take") (st := K03.sTake) ?LTake ?CTake ?KTake)
      ((fun_mk (x := "_law_take") (qual := "_law_take") (st := K03.sTake) ?LTake ?CTake ?KTake).binds (ps := ["_law_source_here", "_law_bound"]) fun _ _ _ _ _ _ us hl => match us, hl with | [_, _], _ => rfl)
      ?AIsErr
      (fun_mk (x := "_law_is_error") (qual := "_law_is_error") (st := K03.sIsErr) ?LIsErr ?CIsErr ?KIsErr)
      ((fun_mk (x := "_law_is_error") (qual := "_law_is_error") (st := K03.sIsErr) ?LIsErr ?CIsErr ?KIsErr).binds (ps := ["_law_error", "_law_held", "_law_thing"]) fun _ _ _ _ _ _ us hl => match us, hl with | [_, _, _], _ => rfl)
      ?AFirst
      (fun_mk (x := "_law_first_errors") (qual := "_law_first_errors") (st := K03.sFirst) ?LFirst ?CFirst ?KFirst)
      ((fun_mk (x := "_law_first_errors") (qual := "_law_first_errors") (st := K03.sFirst) ?LFirst ?CFirst ?KFirst).binds (ps := ["_law_thing"]) fun _ _ _ _ _ _ us hl => match us, hl with | [_], _ => rfl)
      ?ALast
      (fun_mk (x := "_law_last_errors") (qual := "_law_last_errors") (st := K03.sLast) ?LLast ?CLast ?KLast)
      ((fun_mk (x := "_law_last_errors") (qual := "_law_last_errors") (st := K03.sLast) ?LLast ?CLast ?KLast).binds (ps := ["_law_thing"]) fun _ _ _ _ _ _ us hl => match us, hl with | [_], _ => rfl)
      ?AApart
      (fun_mk (x := "_law_apart") (qual := "_law_apart") (st := K03.sApart) ?LApart ?CApart ?KApart)
      ((fun_mk (x := "_law_apart") (qual := "_law_apart") (st := K03.sApart) ?LApart ?CApart ?KApart).binds (ps := ["_law_thing"]) fun _ _ _ _ _ _ us hl => match us, hl with | [_], _ => rfl)
      ?ALaw
      (fun_mk (x := "law") (qual := "law") (st := K03.sLaw) ?LLaw ?CLaw ?KLaw)
      (fun s u => .of_eq rfl)
    (case gS => k_is)
    (case iS => k_is)
    (case tS => k_is)
    (case xS => k_is)
    (case fS => k_is)
    (case aC0 => k_is)
    (case xL0 => k_is)
    (case kC0 => k_is)
    (case sa0 => k_is)
    (case ga0 => k_is)
    (case gg0 => k_is)
    (case ha0 => k_is)
    (case no0 => k_is)
    (case fi0 => k_is)
    (case ti0 => k_is)
    (case lk0 => k_is)
    (case hcd0 => k_is)
    (case lkc0 => k_is)
    (case v20 => rfl)
    (case hf0 => decide +kernel)
    (case lkcc0 => k_is)
    (case aC1 => k_is)
    (case xL1 => k_is)
    (case kC1 => k_is)
    (case sa1 => k_is)
    (case ga1 => k_is)
    (case gg1 => k_is)
    (case ha1 => k_is)
    (case no1 => k_is)
    (case fi1 => k_is)
    (case ti1 => k_is)
    (case lk1 => k_is)
    (case hcd1 => k_is)
    (case lkc1 => k_is)
    (case v21 => rfl)
    (case hf1 => decide +kernel)
    (case lkcc1 => k_is)
    (case aC2 => k_is)
    (case xL2 => k_is)
    (case kC2 => k_is)
    (case sa2 => k_is)
    (case ga2 => k_is)
    (case gg2 => k_is)
    (case ha2 => k_is)
    (case no2 => k_is)
    (case np2 => k_is)
    (case fi2 => k_is)
    (case ti2 => k_is)
    (case lk2 => k_is)
    (case hcd2 => k_is)
    (case lkc2 => k_is)
    (case v22 => rfl)
    (case hf2 => decide +kernel)
    (case lkcc2 => k_is)
    (case aC3 => k_is)
    (case xL3 => k_is)
    (case kC3 => k_is)
    (case sa3 => k_is)
    (case ga3 => k_is)
    (case gg3 => k_is)
    (case ha3 => k_is)
    (case no3 => k_is)
    (case fi3 => k_is)
    (case ti3 => k_is)
    (case lk3 => k_is)
    (case hcd3 => k_is)
    (case lkc3 => k_is)
    (case v23 => rfl)
    (case hf3 => decide +kernel)
    (case lkcc3 => k_is)
    (case aC4 => k_is)
    (case xL4 => k_is)
    (case kC4 => k_is)
    (case sa4 => k_is)
    (case ga4 => k_is)
    (case gg4 => k_is)
    (case ha4 => k_is)
    (case no4 => k_is)
    (case fi4 => k_is)
    (case ti4 => k_is)
    (case lk4 => k_is)
    (case hcd4 => k_is)
    (case lkc4 => k_is)
    (case v24 => rfl)
    (case hf4 => decide +kernel)
    (case lkcc4 => k_is)
    (case aC5 => k_is)
    (case xL5 => k_is)
    (case kC5 => k_is)
    (case sa5 => k_is)
    (case ga5 => k_is)
    (case gg5 => k_is)
    (case ha5 => k_is)
    (case no5 => k_is)
    (case fi5 => k_is)
    (case ti5 => k_is)
    (case lk5 => k_is)
    (case hcd5 => k_is)
    (case lkc5 => k_is)
    (case v25 => rfl)
    (case hf5 => decide +kernel)
    (case lkcc5 => k_is)
    (case aC6 => k_is)
    (case xL6 => k_is)
    (case kC6 => k_is)
    (case sa6 => k_is)
    (case ga6 => k_is)
    (case gg6 => k_is)
    (case ha6 => k_is)
    (case no6 => k_is)
    (case fi6 => k_is)
    (case ti6 => k_is)
    (case lk6 => k_is)
    (case hcd6 => k_is)
    (case lkc6 => k_is)
    (case v26 => rfl)
    (case hf6 => decide +kernel)
    (case lkcc6 => k_is)
    (case aC7 => k_is)
    (case xL7 => k_is)
    (case kC7 => k_is)
    (case sa7 => k_is)
    (case ga7 => k_is)
    (case gg7 => k_is)
    (case ha7 => k_is)
    (case no7 => k_is)
    (case fi7 => k_is)
    (case ti7 => k_is)
    (case lk7 => k_is)
    (case hcd7 => k_is)
    (case lkc7 => k_is)
    (case v27 => rfl)
    (case hf7 => decide +kernel)
    (case lkcc7 => k_is)
    (case aC8 => k_is)
    (case xL8 => k_is)
    (case kC8 => k_is)
    (case sa8 => k_is)
    (case ga8 => k_is)
    (case gg8 => k_is)
    (case ha8 => k_is)
    (case no8 => k_is)
    (case fi8 => k_is)
    (case ti8 => k_is)
    (case lk8 => k_is)
    (case hcd8 => k_is)
    (case lkc8 => k_is)
    (case v28 => rfl)
    (case hf8 => decide +kernel)
    (case lkcc8 => k_is)
    (case aC9 => k_is)
    (case xL9 => k_is)
    (case kC9 => k_is)
    (case sa9 => k_is)
    (case ga9 => k_is)
    (case gg9 => k_is)
    (case ha9 => k_is)
    (case no9 => k_is)
    (case fi9 => k_is)
    (case ti9 => k_is)
    (case lk9 => k_is)
    (case hcd9 => k_is)
    (case lkc9 => k_is)
    (case v29 => rfl)
    (case hf9 => decide +kernel)
    (case lkcc9 => k_is)
    (case aC10 => k_is)
    (case xL10 => k_is)
    (case kC10 => k_is)
    (case sa10 => k_is)
    (case ga10 => k_is)
    (case gg10 => k_is)
    (case ha10 => k_is)
    (case no10 => k_is)
    (case fi10 => k_is)
    (case ti10 => k_is)
    (case lk10 => k_is)
    (case hcd10 => k_is)
    (case lkc10 => k_is)
    (case v210 => rfl)
    (case hf10 => decide +kernel)
    (case lkcc10 => k_is)
    (case aC11 => k_is)
    (case xL11 => k_is)
    (case kC11 => k_is)
    (case sa11 => k_is)
    (case ga11 => k_is)
    (case gg11 => k_is)
    (case ha11 => k_is)
    (case no11 => k_is)
    (case fi11 => k_is)
    (case ti11 => k_is)
    (case lk11 => k_is)
    (case hcd11 => k_is)
    (case lkc11 => k_is)
    (case v211 => rfl)
    (case hf11 => decide +kernel)
    (case lkcc11 => k_is)
    (case aC12 => k_is)
    (case xL12 => k_is)
    (case kC12 => k_is)
    (case sa12 => k_is)
    (case ga12 => k_is)
    (case gg12 => k_is)
    (case ha12 => k_is)
    (case no12 => k_is)
    (case fi12 => k_is)
    (case ti12 => k_is)
    (case lk12 => k_is)
    (case hcd12 => k_is)
    (case lkc12 => k_is)
    (case v212 => rfl)
    (case hf12 => decide +kernel)
    (case lkcc12 => k_is)
    (case aC13 => k_is)
    (case xL13 => k_is)
    (case kC13 => k_is)
    (case sa13 => k_is)
    (case ga13 => k_is)
    (case gg13 => k_is)
    (case ha13 => k_is)
    (case no13 => k_is)
    (case fi13 => k_is)
    (case ti13 => k_is)
    (case lk13 => k_is)
    (case hcd13 => k_is)
    (case lkc13 => k_is)
    (case v213 => rfl)
    (case hf13 => decide +kernel)
    (case lkcc13 => k_is)
    (case aC14 => k_is)
    (case xL14 => k_is)
    (case kC14 => k_is)
    (case sa14 => k_is)
    (case ga14 => k_is)
    (case gg14 => k_is)
    (case ha14 => k_is)
    (case no14 => k_is)
    (case fi14 => k_is)
    (case ti14 => k_is)
    (case lk14 => k_is)
    (case hcd14 => k_is)
    (case lkc14 => k_is)
    (case v214 => rfl)
    (case hf14 => decide +kernel)
    (case lkcc14 => k_is)
    (case aC15 => k_is)
    (case xL15 => k_is)
    (case kC15 => k_is)
    (case sa15 => k_is)
    (case ga15 => k_is)
    (case gg15 => k_is)
    (case ha15 => k_is)
    (case no15 => k_is)
    (case fi15 => k_is)
    (case ti15 => k_is)
    (case lk15 => k_is)
    (case hcd15 => k_is)
    (case lkc15 => k_is)
    (case v215 => rfl)
    (case hf15 => decide +kernel)
    (case lkcc15 => k_is)
    (case b_int => k_is)
    (case b_abs => k_is)
    (case b_isinstance => k_is)
    (case b_bool => k_is)
    (case b_ValueError => k_is)
    (case b_super => k_is)
    (case b_all => k_is)
    (case b_range => k_is)
    (case hn => k_is)
    (case ht => k_is)
    (case op => k_is)
    (case top => decide +kernel)
    (case nS => decide)
    (case nd => decide)
    (case AMixed => k_is)
    (case LMixed => k_is)
    (case CMixed => k_is)
    (case KMixed => k_is)
    (case ASource => k_is)
    (case LSource => k_is)
    (case CSource => k_is)
    (case KSource => k_is)
    (case ATake => k_is)
    (case LTake => k_is)
    (case CTake => k_is)
    (case KTake => k_is)
    (case AIsErr => k_is)
    (case LIsErr => k_is)
    (case CIsErr => k_is)
    (case KIsErr => k_is)
    (case AFirst => k_is)
    (case LFirst => k_is)
    (case CFirst => k_is)
    (case KFirst => k_is)
    (case ALast => k_is)
    (case LLast => k_is)
    (case CLast => k_is)
    (case KLast => k_is)
    (case AApart => k_is)
    (case LApart => k_is)
    (case CApart => k_is)
    (case KApart => k_is)
    (case ALaw => k_is)
    (case LLaw => k_is)
    (case CLaw => k_is)
    (case KLaw => k_is)
