import PyProof.Rows.All
import Wide.All
import OpenK.AllK
import Wide.FinOn
import HandS.ForMost
import HandS.Exc
import HandS.ExcOwn
import HandS.ExcValue
import KE.KExcSuper
import KE.KExcIs
import HandS.Wide
import HandS.Evl
import HandS.IsInst
import PySem.Challenge.RW_echofold_k93_errors_made_by_their_fields
set_option Elab.async false
set_option linter.all false
set_option maxRecDepth 100000
set_option maxHeartbeats 4000000
namespace PySem
namespace VK
open PySem.W PySem.Calls PyProof.Rows
/-! ## an own error whose __init__ says super().__init__('..') and stores one field -/
def iA (x : Str) (p1 p2 : Pos) : Arguments := { posonlyargs := [], args := [{ arg := "self", annotation := none, pos := p1 }, { arg := x, annotation := none, pos := p2 }], vararg := none, kwonlyargs := [], kw_defaults := [], kwarg := none, defaults := [] }
def iSup (msg : Str) (j : Nat) (a1 a2 a3 a4 a5 a6 : Pos) : Stmt := .Expr (.Call (.Attribute (.Call (.Name "super" a1) [] [] a2) "__init__" a3) [.Constant (.str msg) 0 a4] [] a5) a6
def iB (msg x : Str) (a1 a2 a3 a4 a5 a6 b1 b2 b3 b4 : Pos) : List Stmt := [.Expr (.Call (.Attribute (.Call (.Name "super" a1) [] [] a2) "__init__" a3) [.Constant (.str msg) 0 a4] [] a5) a6, .Assign [.Attribute (.Name "self" b1) x b2] (.Name x b3) b4]
def iS (x : Str) : Scope := { kind := .function, names := [(PySem.Str.ofString "self", .local), (x, .local), (PySem.Str.ofString "__class__", .free), (PySem.Str.ofString "super", .globalImplicit)], isGenerator := false, isCoroutine := false, more := [] }
/-- no field -/
def iA0 (p1 : Pos) : Arguments := { posonlyargs := [], args := [{ arg := "self", annotation := none, pos := p1 }], vararg := none, kwonlyargs := [], kw_defaults := [], kwarg := none, defaults := [] }
def iB0 (msg : Str) (a1 a2 a3 a4 a5 a6 : Pos) : List Stmt := [.Expr (.Call (.Attribute (.Call (.Name "super" a1) [] [] a2) "__init__" a3) [.Constant (.str msg) 0 a4] [] a5) a6]
def iS0 : Scope := { kind := .function, names := [(PySem.Str.ofString "self", .local), (PySem.Str.ofString "__class__", .free), (PySem.Str.ofString "super", .globalImplicit)], isGenerator := false, isCoroutine := false, more := [] }

/-- what the written part says of the class at C over the built-in B -/
structure XCls (P : Program) (K : Frag) (B i newId : String) (bmB : List Value) (C : Addr) : Prop where
  ini : excInitIn K C bmB newId = true
  ovr : excOver K C bmB = true
  hsd : hasDictIn K C = true
  sat : findIn K (.ref C) "__setattr__" = some (some (.builtin "object.__setattr__"))
  gat : findIn K (.ref C) "__getattribute__" = some (some (.builtin "BaseException.__getattribute__"))
  gga : findIn K (.ref C) "__getattr__" = some none
  cla : findIn K (.ref C) "__class__" = some (some (.builtin "object.__class__"))
  sBE : subIn K (.ref C) (.type "BaseException") = some true
  sBB : subIn K (.ref C) (.type B) = some true
  tyC : typeIn K (.ref C) = some (.type "type")
  mOb : mroIn K C (.type "object") = some true
  mC : mroIn K C (.ref C) = some true
  kpC : keepIn K (.ref C) = true
  thr : nsIn K cStatics "thirdparty.any" = some none
  sup : ks_superIn K C C "__init__" = some (some (.builtin i))
  spG : specialIn K (.builtin "object.__class__") "__get__" = some (some (.builtin "getset_descriptor.__get__"))
  spT : takesIn K (.builtin "object.__class__") = some true
/-- of its __init__ at fI -/
structure XIni (P : Program) (K : Frag) (C fI : Addr) (qual : Str) (args : Arguments) (body : List Stmt) (sc : Scope) : Prop where
  at_ : findIn K (.ref C) "__init__" = some (some (.ref fI))
  fn : isFn K (.ref fI) = true
  lk : ∃ (oc : Value) (od : Option Addr) (kV doc pm : Value) (an : Option Addr) (cda cc : Addr) (ct : Value) (osl : Array (Option Value)),
    K.lookup fI = some ⟨oc, od, .func (ksFn "__init__" qual args body sc .none kV doc pm an (.ref cda) ct cc), osl⟩ ∧ codeIn K (.ref cda) qual = true ∧
    (∃ ccl cdd vs ccs file tf, K.lookup cda = some ⟨ccl, cdd, .fields vs, ccs⟩ ∧ vs[2]? = some (.str file tf) ∧ ((P.main.file : Str) == file) = true) ∧
    ∃ cl cld csl, K.lookup cc = some ⟨cl, cld, .cell (some (.ref C)), csl⟩

section
variable {prog : Program} {w : World} {A : Around} {R : Result → Shared → Prop} {s : Shared} {K : Frag} {B i newId : String} {bmB : List Value} {C fI : Addr} {qual msg x : Str}
open Builtin Builtin.ObjectAttr
/-- the first field stored into an error of any of these classes -/
theorem set_first {E : Value → Shared → Prop} {e t : Addr} {v : Value} {Q : Unit → Shared → Prop} (SF : StoreFacts B bmB "object.__setattr__" "object") (T : XCls prog K B i newId bmB C) (X : K.In s.heap) (hno : takerIn K C x = some none)
    (he : s.heap.get? e = some (excObj C t none .none))
    (hq : ∀ h' tk' dx, (∀ b o, b ≠ e → s.heap.get? b = some o → h'.get? b = some o) → s.heap.objs.size ≤ dx → dx ≠ e → h'.get? e = some (excObj C t (some dx) .none) →
      h'.Ns1 dx (fun y => if y = x then some v else none) → Q () { s with heap := h', toks := tk' }) : wpAny (model prog w) A (setAttr (.ref e) x v) Q E s := by
  obtain ⟨hp, g, d, tk, os⟩ := s
  have hes : e ≠ hp.objs.size := Nat.ne_of_lt (Heap.lt_size he)
  refine set_plain (od := none) X ⟨he, rfl, rfl, trivial⟩ T.sat ?_
  refine osa_openX (od := none) (ox := excObj C t none .none) SF X ⟨he, rfl, rfl, trivial⟩ T.ovr hno fun b => ?_
  show wpAny _ _ (storeInOwnDict (.ref e) (.ref C) (.str x tk) x v b) _ _ _
  obtain ⟨cd, hc, hd'⟩ := any_some T.hsd
  have hcls : Looks (model prog w) hp (classData C) cd := looks_clsIn X hc
  obtain ⟨nm, bs, mro, ns, qn, hd, sn, sb, ab, col, del⟩ := cd
  dsimp only at hd'
  subst hd'
  unfold storeInOwnDict ownDictForStores
  repeat (first | with_reducible refine PySem.PX.store_in_new ?_ ?_ | with_reducible refine wpAny_loadPart_at he ?_ | with_reducible refine hcls.at ?_ | wp_step)
  · exact ⟨_, #[], _, (Heap.get?_update_ne _ _ _ _ hes.symm).trans (Heap.get?_push_at rfl rfl), rfl, fun e he => absurd he (by simp), fun _ => rfl⟩
  · intro h' tk' hn' hs
    have he1 : (hp.push { cls := .type "dict", data := .dict #[] }).get? e = some (excObj C t none .none) := Heap.get?_push_of_some _ he
    refine hq h' tk' hp.objs.size (fun b o hb ho => ?_) (Nat.le_refl _) hes.symm ?_ hn'
    · exact (hs.2 b (Nat.ne_of_lt (Heap.lt_size ho))).trans ((Heap.get?_update_ne _ _ _ _ hb).trans (Heap.get?_push_of_some _ ho))
    · exact (hs.2 e hes).trans (Heap.get?_update_self _ he1 rfl)
end
end VK
end PySem

namespace PySem
namespace VK
open PySem.W PySem.Calls PyProof.Rows
def supPl (env : Env) (a1 a2 : Pos) : Sem Bool := (do return (← importBound (.Call (.Name "super" a1) [] [] a2) env).getD true)
theorem sup_ev (env : Env) (msg : Str) (a1 a2 a3 a4 a5 : Pos) (hp : (a3.endLine == a5.line) = true) : eval (.Call (.Attribute (.Call (.Name "super" a1) [] [] a2) "__init__" a3) [.Constant (.str msg) 0 a4] [] a5) env = (do
      let ov ← attributeBase (.Call (.Name "super" a1) [] [] a2) "__init__" env (eval (.Call (.Name "super" a1) [] [] a2) env)
      standAt a3.atName
      let (f, first) ← holding [ov] (getMethod ov "__init__" (supPl env a1 a2))
      callWith a5 f first (backTo a5 (starEach [.Constant (.str msg) 0 a4] env)) []) := by
  have h : methodCallPos true (.Call (.Name "super" a1) [] [] a2) env a3 a5 = pure a5 := by
    unfold methodCallPos
    rw [hp]
    rfl
  show (do
      let ov ← attributeBase (.Call (.Name "super" a1) [] [] a2) "__init__" env (eval (.Call (.Name "super" a1) [] [] a2) env)
      standAt a3.atName
      methodCall (.Call (.Name "super" a1) [] [] a2) "__init__" a3 a5 env ov 1 (backTo a5 (starEach [.Constant (.str msg) 0 a4] env)) []) = _
  unfold methodCall
  show (do
      let ov ← attributeBase (.Call (.Name "super" a1) [] [] a2) "__init__" env (eval (.Call (.Name "super" a1) [] [] a2) env)
      standAt a3.atName
      let (f, first) ← holding [ov] (getMethod ov "__init__" (supPl env a1 a2))
      let callPos ← methodCallPos true (.Call (.Name "super" a1) [] [] a2) env a3 a5
      callWith callPos f first (backTo a5 (starEach [.Constant (.str msg) 0 a4] env)) []) = _
  rw [h]
  rfl
section
variable {prog : Program} {w : World} {A : Around} {R : Result → Shared → Prop} {s : Shared} {K : Frag} {B i newId : String} {bmB : List Value} {C fI : Addr} {qual msg x : Str} {p1 p2 a1 a2 a3 a4 a5 a6 b1 b2 b3 b4 : Pos}
/-- what __init__ leaves: all that stood but e stands, e has its dict with the field -/
structure IniEnd (h h' : Heap) (e C : Addr) (x : Str) (v : Value) : Prop where
  keep : ∀ b o, b ≠ e → h.get? b = some o → h'.get? b = some o
  obj : ∃ t dx, h'.get? e = some (excObj C t (some dx) .none) ∧ h.objs.size ≤ dx ∧ dx ≠ e ∧ h'.Ns1 dx (fun y => if y = x then some v else none)
/-- what lies around a call: the written part, the module's names -/
structure Arnd (prog : Program) (K : Frag) (h : Heap) : Prop where
  kin : K.In h
  glo : ∃ mg, h.Ns mainGlobals mg ∧ mg "super" = none
  blt : ∃ mb, h.Ns builtinsNs mb ∧ mb "super" = some (.type "super")
  lim : h.NoLimit
  nosup : (prog.main.scope.names.lookup ("super" : Str)).isSome = false
theorem Arnd.keeps {h h' : Heap} (a : Arnd prog K h) (k : ∀ b o, h.get? b = some o → h'.get? b = some o) : Arnd prog K h' :=
  ⟨a.kin.keeps k, let ⟨m, h1, h2⟩ := a.glo; ⟨m, h1.keeps k, h2⟩, let ⟨m, h1, h2⟩ := a.blt; ⟨m, h1.keeps k, h2⟩, a.lim.keeps k, a.nosup⟩

/-- the super call: super().__init__('..') within the frame at L -/
theorem super_stmt {body : List Stmt} {qn : Str} {sc : Scope} {L cda cc : Addr} {m : Str → Option Value} {g : Heap} {e t : Addr} {env : Env} {P : Flow → Shared → Prop} {E : Value → Shared → Prop}
    (KF : KxsFacts B i) (FB : ExcBaseFacts B newId i bmB) (T : XCls prog K B i newId bmB C) (a : Arnd prog K g) (F : Fr g L s.heap m) (he : s.heap.get? e = some (excObj C t none .none)) (hge : g.objs.size ≤ e) (hne : e ≠ L)
    (henv : env = ksEnv qn sc L fI (.ref cda) cc) (hm : m "self" = some (.ref e))
    (hks : sc.names.lookup ("super" : Str) = some .globalImplicit) (hkc : sc.names.lookup ("__class__" : Str) = some .free) (hka : sc.names.lookup ("self" : Str) = some .local) (hk : sc.kind = .function) (hi : interactive env = false)
    {pl : Sem Bool} (hev : eval (.Call (.Attribute (.Call (.Name "super" a1) [] [] a2) "__init__" a3) [.Constant (.str msg) 0 a4] [] a5) env = (do
      let ov ← attributeBase (.Call (.Name "super" a1) [] [] a2) "__init__" env (eval (.Call (.Name "super" a1) [] [] a2) env)
      standAt a3.atName
      let (f, first) ← holding [ov] (getMethod ov "__init__" pl)
      callWith a5 f first (backTo a5 (starEach [.Constant (.str msg) 0 a4] env)) []))
    {oc : Value} {od : Option Addr} {fd : FuncData} {osl : Array (Option Value)} {ar : Arg} (hf : K.lookup fI = some ⟨oc, od, .func fd, osl⟩) (hp : (fd.params.posonlyargs ++ fd.params.args).head? = some ar) (har : ar.arg = "self")
    (hcode : ∃ ccl cdd vs ccs file tf, K.lookup cda = some ⟨ccl, cdd, .fields vs, ccs⟩ ∧ vs[2]? = some (.str file tf) ∧ ((prog.main.file : Str) == file) = true) (hcell : ∃ cl cld csl, K.lookup cc = some ⟨cl, cld, .cell (some (.ref C)), csl⟩)
    (hq : ∀ t' h' tk', Fr g L h' m → h'.get? e = some (excObj C t' none .none) → P .next { s with heap := h', toks := tk' }) :
    _root_.PySem.wpAt (model prog w) A (.func body env) (exec (.Expr (.Call (.Attribute (.Call (.Name "super" a1) [] [] a2) "__init__" a3) [.Constant (.str msg) 0 a4] [] a5) a6) env) P E s := by
  subst henv
  obtain ⟨ccl, cdd, vs, ccs, file, tf, hcd, hvs, hfile⟩ := hcode
  obtain ⟨cl, cld, csl, hcc⟩ := hcell
  have X : K.In s.heap := a.kin.keeps F.keep
  obtain ⟨mg, hg, hgs⟩ := a.glo
  obtain ⟨mb, hb, hbs⟩ := a.blt
  have gE : g.get? e = none := Heap.get?_none_of_le hge
  obtain ⟨cdC, hC⟩ := (by obtain ⟨c, h1, _⟩ := any_some T.hsd; exact ⟨c, h1⟩ : ∃ c, clsIn K C = some c)
  obtain ⟨oD, hD1, hD2⟩ : ∃ oD, K.lookup C = some oD ∧ oD.data = .cls cdC := by
    unfold clsIn at hC
    split at hC
    · rename_i c d cd' sl ho
      cases hC
      exact ⟨_, ho, rfl⟩
    · cases hC
  have N0 : News g L s.heap [(e, excObj C t none .none)] := fun p hp => by
    rcases List.mem_cons.mp hp with rfl | hp
    · exact ⟨he, hne, gE⟩
    · cases hp
  refine ks_wpAt_Expr_any (ks_wpAt_MethodCall (pl := pl) ?_ hev) hi
  refine ks_wpAt_super_base (env := ksEnv qn sc L fI (.ref cda) cc) hks hkc rfl rfl (X _ _ hf) rfl hp rfl (X _ _ hcd) rfl hvs hfile a.nosup ?_
  obtain ⟨hh, gg, d, tk, os⟩ := s
  refine ks_loadName_global hk hks (loadGlobal_builtin (env := ksEnv qn sc L fI (.ref cda) cc) (hg.keeps F.keep) hgs (hb.keeps F.keep) hbs ⟨rfl, ?_⟩)
  refine wpAny_loadName_free hk hkc rfl ⟨_, X _ _ hcc, rfl⟩ ?_
  rw [har]
  refine wpAny_loadName_local hk hka F.ns hm ?_
  refine ks_wpAny_isType_cls (X _ _ hD1) hD2 ⟨rfl, ?_⟩
  refine ks_wpAny_call_super (X _ _ hD1) hD2 he rfl (fun c e => nomatch e) (looks_mroIn X T.mC) (fun h1 e1 k1 => ?_)
  obtain ⟨F1, N1, _⟩ := ks_newsPush (s := ⟨hh, gg, d, tk, os⟩) F N0 rfl e1 k1
  refine kxs_method KF F1 a.kin N1 (.head _) (I := ⟨(N1 _ (.tail _ (.head _))).1, rfl, rfl, trivial⟩) (odx := none) T.thr T.sup T.sBB rfl fun q h2 F2 N2 lt2 => ?_
  show wpAny _ _ (callWith _ (.ref q) [] _ []) _ _ _
  refine kxs_callWith1 (i := i) (x := e) N2 (.head _) ?_
  show wpAny _ _ (spliced _) _ _ _
  refine Calls.spliced_cons ?_
  show wpAny _ _ (eval (.Constant (.str msg) 0 a4) _) _ _ _
  refine wpAny_Constant_str ?_
  refine Calls.spliced_nil ⟨kxs_at N2 (.head _), ?_⟩
  have heq : e < q := lt2 _ (.tail _ (.head _))
  have hes : e < hh.objs.size := Heap.lt_size he
  have U : UpdF e (excObj C t none .none) [(q, kxs_mw i e), (hh.objs.size, ks_superObj C e C), (e, excObj C t none .none)] (fun o' => (q, kxs_mw i e) :: (hh.objs.size, ks_superObj C e C) :: (e, o') :: []) :=
    .tail (Nat.ne_of_gt heq) (.tail (Nat.ne_of_gt hes) (.head fun _ z => nomatch z))
  refine kxs_call F2 a.kin N2 FB T.ini (.head _) U (by show 1 ≤ sizeLine; rw [sizeLine_eq]; omega) fun t' h3 F3 N3 _ => ?_
  exact hq t' h3 _ F3 (N3 _ (.tail _ (.tail _ (.tail _ (.head _))))).1

/-- what __init__ of one field leaves -/
structure Ini1 (g h' : Heap) (e C : Addr) (x : Str) (v : Value) : Prop where
  keep : ∀ b o, g.get? b = some o → h'.get? b = some o
  obj : ∃ t dx, h'.get? e = some (excObj C t (some dx) .none) ∧ g.objs.size ≤ dx ∧ dx ≠ e ∧ h'.Ns1 dx (fun y => if y = x then some v else none)
theorem init1 {g : Heap} {e t : Addr} {v : Value} (KF : KxsFacts B i) (FB : ExcBaseFacts B newId i bmB) (SF : StoreFacts B bmB "object.__setattr__" "object") (T : XCls prog K B i newId bmB C)
    (TI : XIni prog K C fI qual (iA x p1 p2) (iB msg x a1 a2 a3 a4 a5 a6 b1 b2 b3 b4) (iS x)) (hno : takerIn K C x = some none) (hx1 : (x == ("self" : Str)) = false) (hx2 : (("__class__" : Str) == x) = false) (hx3 : (("super" : Str) == x) = false) (hx4 : (x == ("__debug__" : Str)) = false) (hpos : (a3.endLine == a5.line) = true)
    (a : Arnd prog K g) (kg : ∀ b o, g.get? b = some o → s.heap.get? b = some o) (hL1 : g.objs.size ≤ s.heap.objs.size) (hge : g.objs.size ≤ e) (he : s.heap.get? e = some (excObj C t none .none)) (hroom : A.depth < recursionLimit)
    {args : Args} (hb : ∀ (kV doc pm : Value) (an : Option Addr) (cda cc : Addr) (ct : Value), bindArgs (ksFn "__init__" qual (iA x p1 p2) (iB msg x a1 a2 a3 a4 a5 a6 b1 b2 b3 b4) (iS x) .none kV doc pm an (.ref cda) ct cc) args = pure [(("self" : Str), .ref e), (x, v)])
    (hq : ∀ h' tk', Ini1 g h' e C x v → R (.ok (.ret .none)) { s with heap := h', toks := tk' }) :
    codeAny (model prog w) A (.call (.ref fI) args) R s := by
  obtain ⟨oc, od, kV, doc, pm, an, cda, cc, ct, osl, hf, hcd, hcode, hcell⟩ := TI.lk
  have X : K.In s.heap := a.kin.keeps kg
  have l1 : (iS x).names.lookup ("self" : Str) = some .local := rfl
  have l2 : (iS x).names.lookup x = some .local := by
    show List.lookup x [(PySem.Str.ofString "self", NameKind.local), (x, .local), (PySem.Str.ofString "__class__", .free), (PySem.Str.ofString "super", .globalImplicit)] = _
    rw [List.lookup_cons, hx1, List.lookup_cons, beq_self_eq_true]
  have l3 : (iS x).names.lookup ("__class__" : Str) = some .free := by
    show List.lookup (PySem.Str.ofString "__class__") [(PySem.Str.ofString "self", NameKind.local), (x, .local), (PySem.Str.ofString "__class__", .free), (PySem.Str.ofString "super", .globalImplicit)] = _
    rw [List.lookup_cons, show (PySem.Str.ofString "__class__" == PySem.Str.ofString "self") = false by decide, List.lookup_cons, hx2, List.lookup_cons, beq_self_eq_true]
  have l4 : (iS x).names.lookup ("super" : Str) = some .globalImplicit := by
    show List.lookup (PySem.Str.ofString "super") [(PySem.Str.ofString "self", NameKind.local), (x, .local), (PySem.Str.ofString "__class__", .free), (PySem.Str.ofString "super", .globalImplicit)] = _
    rw [List.lookup_cons, show (PySem.Str.ofString "super" == PySem.Str.ofString "self") = false by decide, List.lookup_cons, hx3, List.lookup_cons, show (PySem.Str.ofString "super" == PySem.Str.ofString "__class__") = false by decide, List.lookup_cons, beq_self_eq_true]
  refine ks_codeAny_call_defAt (fd := ksFn "__init__" qual (iA x p1 p2) (iB msg x a1 a2 a3 a4 a5 a6 b1 b2 b3 b4) (iS x) .none kV doc pm an (.ref cda) ct cc) (body := iB msg x a1 a2 a3 a4 a5 a6 b1 b2 b3 b4) (binds := [(("self" : Str), .ref e), (x, v)]) hroom (X _ _ hf) rfl (a.lim.keeps kg) (codeRec_of X hcd) rfl ?hb ?hc ?hl (fun h1 hn1 k1 => ?_) rfl rfl rfl
  case hb => exact BindsTo.of_eq (hb _ _ _ _ _ _ _)
  case hc =>
    intro y hy
    rcases List.mem_cons.mp hy with rfl | hy
    · exact nofun
    rcases List.mem_cons.mp hy with rfl | hy
    · exact nofun
    rcases List.mem_cons.mp hy with rfl | hy
    · exact nofun
    rcases List.mem_cons.mp hy with rfl | hy
    · exact nofun
    cases hy
  case hl =>
    intro y hy
    rcases List.mem_cons.mp hy with rfl | hy
    · exact l1
    rcases List.mem_cons.mp hy with rfl | hy
    · exact l2
    cases hy
  have F : Fr g s.heap.objs.size h1 (fun y => ([(("self" : Str), .ref e), (x, v)] : List (Str × Value)).reverse.lookup y) := ⟨hn1, fun b o z => k1 b o (kg b o z), hL1⟩
  have hm1 : ([(("self" : Str), .ref e), (x, v)] : List (Str × Value)).reverse.lookup ("self" : Str) = some (.ref e) := by
    show List.lookup (PySem.Str.ofString "self") [(x, v), (PySem.Str.ofString "self", .ref e)] = _
    rw [List.lookup_cons, show (PySem.Str.ofString "self" == x) = false from by rw [BEq.comm]; exact hx1, List.lookup_cons, beq_self_eq_true]
  have hm2 : ([(("self" : Str), .ref e), (x, v)] : List (Str × Value)).reverse.lookup x = some v := by
    show List.lookup x [(x, v), (PySem.Str.ofString "self", .ref e)] = _
    rw [List.lookup_cons, beq_self_eq_true]
  have hne : e ≠ s.heap.objs.size := Nat.ne_of_lt (Heap.lt_size he)
  refine ks_wpAt_execs_cons ?_
  refine super_stmt (s := { s with heap := h1, toks := s.toks + 2 }) (qn := qual) (sc := iS x) (L := s.heap.objs.size) (cda := cda) (cc := cc) KF FB T a F (k1 _ _ he) hge hne rfl hm1 l4 l3 l1 rfl rfl (sup_ev _ _ _ _ _ _ _ hpos) hf rfl rfl hcode hcell fun t' h2 tk2 F2 E2 => ?_
  show _root_.PySem.wpAt _ _ _ (execs [.Assign [.Attribute (.Name "self" b1) x b2] (.Name x b3) b4] _) _ _ _
  refine wpAt_of_wpAny (wpAny_execs_cons (plainObj_wpAny_Assign_Attribute ?_))
  refine wpAny_Name (wpAny_loadName_local (env := ksEnv qual (iS x) s.heap.objs.size fI (.ref cda) cc) rfl l2 F2.ns hm2 ?_) hx4
  refine wpAny_Name (wpAny_loadName_local (env := ksEnv qual (iS x) s.heap.objs.size fI (.ref cda) cc) rfl l1 F2.ns hm1 ?_)
  refine set_first SF T (a.kin.keeps F2.keep) hno E2 fun h3 tk3 dx k3 dn dne E3 N3 => ?_
  show wpAny _ _ (execs [] _) _ _ _
  have gE : ∀ {b : Addr} {o : Obj}, g.get? b = some o → b ≠ e := fun {b o} z => Nat.ne_of_lt (Nat.lt_of_lt_of_le (Heap.lt_size z) hge)
  have hz : g.objs.size ≤ h2.objs.size := Nat.le_trans F2.above (Nat.le_of_lt F2.ns.lt)
  exact wpAny_execs_nil (hq h3 tk3 ⟨fun b o z => k3 b o (gE z) (F2.keep b o z), ⟨t', dx, E3, Nat.le_trans hz dn, dne, N3⟩⟩)

/-- no field: what stood stands, e has no dict -/
theorem init0 {g : Heap} {e t : Addr} (KF : KxsFacts B i) (FB : ExcBaseFacts B newId i bmB) (T : XCls prog K B i newId bmB C)
    (TI : XIni prog K C fI qual (iA0 p1) (iB0 msg a1 a2 a3 a4 a5 a6) iS0) (hpos : (a3.endLine == a5.line) = true)
    (a : Arnd prog K g) (kg : ∀ b o, g.get? b = some o → s.heap.get? b = some o) (hL1 : g.objs.size ≤ s.heap.objs.size) (hge : g.objs.size ≤ e) (he : s.heap.get? e = some (excObj C t none .none)) (hroom : A.depth < recursionLimit)
    (hq : ∀ h' tk' t', (∀ b o, g.get? b = some o → h'.get? b = some o) → h'.get? e = some (excObj C t' none .none) → R (.ok (.ret .none)) { s with heap := h', toks := tk' }) :
    codeAny (model prog w) A (.call (.ref fI) ⟨[.ref e], []⟩) R s := by
  obtain ⟨oc, od, kV, doc, pm, an, cda, cc, ct, osl, hf, hcd, hcode, hcell⟩ := TI.lk
  have X : K.In s.heap := a.kin.keeps kg
  refine ks_codeAny_call_defAt (fd := ksFn "__init__" qual (iA0 p1) (iB0 msg a1 a2 a3 a4 a5 a6) iS0 .none kV doc pm an (.ref cda) ct cc) (body := iB0 msg a1 a2 a3 a4 a5 a6) (binds := [(("self" : Str), .ref e)]) hroom (X _ _ hf) rfl (a.lim.keeps kg) (codeRec_of X hcd) rfl ?hb ?hc ?hl (fun h1 hn1 k1 => ?_) rfl rfl rfl
  case hb => exact BindsTo.of_eq rfl
  case hc => show ∀ x ∈ iS0.names, x.2 ≠ .cell; decide
  case hl =>
    intro y hy
    rcases List.mem_cons.mp hy with rfl | hy
    · rfl
    cases hy
  have F : Fr g s.heap.objs.size h1 (fun y => ([(("self" : Str), .ref e)] : List (Str × Value)).reverse.lookup y) := ⟨hn1, fun b o z => k1 b o (kg b o z), hL1⟩
  have hm1 : ([(("self" : Str), .ref e)] : List (Str × Value)).reverse.lookup ("self" : Str) = some (.ref e) := by
    show List.lookup (PySem.Str.ofString "self") [(PySem.Str.ofString "self", Value.ref e)] = _
    rw [List.lookup_cons, beq_self_eq_true]
  have hne : e ≠ s.heap.objs.size := Nat.ne_of_lt (Heap.lt_size he)
  refine ks_wpAt_execs_cons ?_
  refine super_stmt (s := { s with heap := h1, toks := s.toks + 1 }) (qn := qual) (sc := iS0) (L := s.heap.objs.size) (cda := cda) (cc := cc) KF FB T a F (k1 _ _ he) hge hne rfl hm1 rfl rfl rfl rfl rfl (sup_ev _ _ _ _ _ _ _ hpos) hf rfl rfl hcode hcell fun t' h2 tk2 F2 E2 => ?_
  show _root_.PySem.wpAt _ _ _ (execs [] _) _ _ _
  exact wpAt_of_wpAny (wpAny_execs_nil (hq h2 tk2 t' F2.keep E2))

/-- a made error of one field: all that stood stands -/
structure Made1 (g h' : Heap) (e C : Addr) (x : Str) (v : Value) : Prop where
  keep : ∀ b o, g.get? b = some o → h'.get? b = some o
  new : g.objs.size ≤ e
  obj : ∃ t dx, h'.get? e = some (excObj C t (some dx) .none) ∧ g.objs.size ≤ dx ∧ dx ≠ e ∧ h'.Ns1 dx (fun y => if y = x then some v else none)
theorem made1 {E : Value → Shared → Prop} {Q : Value → Shared → Prop} {v : Value} (KF : KxsFacts B i) (FB : ExcBaseFacts B newId i bmB) (SF : StoreFacts B bmB "object.__setattr__" "object") (T : XCls prog K B i newId bmB C)
    (TI : XIni prog K C fI qual (iA x p1 p2) (iB msg x a1 a2 a3 a4 a5 a6 b1 b2 b3 b4) (iS x)) (hno : takerIn K C x = some none) (hx1 : (x == ("self" : Str)) = false) (hx2 : (("__class__" : Str) == x) = false) (hx3 : (("super" : Str) == x) = false) (hx4 : (x == ("__debug__" : Str)) = false)
    (hpos : (a3.endLine == a5.line) = true) (a : Arnd prog K s.heap) (hroom : A.depth + 1 < recursionLimit)
    (hb : ∀ (u1 u2 kV doc pm : Value) (an : Option Addr) (cda cc : Addr) (ct : Value), bindArgs (ksFn "__init__" qual (iA x p1 p2) (iB msg x a1 a2 a3 a4 a5 a6 b1 b2 b3 b4) (iS x) .none kV doc pm an (.ref cda) ct cc) ⟨[u1, u2], []⟩ = pure [(("self" : Str), u1), (x, u2)])
    (hq : ∀ h' tk' e, Made1 s.heap h' e C x v → Q (.ref e) { s with heap := h', toks := tk' }) :
    wpAny (model prog w) A (call (.ref C) [v]) Q E s := by
  obtain ⟨nm, N', qn, bs, bm, hdct, sn, sub, ab, col, dd, k0, k1, k2, k3, k5, hC, hT⟩ := excInit_of a.kin T.ini
  obtain ⟨oI, hoI, hcI⟩ : ∃ oI, s.heap.get? fI = some oI ∧ oI.cls = .type "function" := by
    obtain ⟨o, ho, hc⟩ := Option.map_eq_some_iff.mp (show (K.lookup fI).map (·.cls) = some (.type "function") from beq_iff_eq.mp TI.fn)
    exact ⟨o, a.kin _ _ ho, hc⟩
  have hi' : Looks (model prog w) s.heap (typeLookup (.ref C) "__init__") (some (.ref fI)) := looks_findIn a.kin TI.at_
  obtain ⟨hp, gg, d, tk, os⟩ := s
  have kk : ∀ b o, hp.get? b = some o → ((hp.push (kdv_tup [v])).push (PySem.PX.excO C hp.objs.size)).get? b = some o := fun b o e => Heap.get?_push_of_some _ (Heap.get?_push_of_some _ e)
  have hget : ((hp.push (kdv_tup [v])).push (PySem.PX.excO C hp.objs.size)).get? (hp.objs.size + 1) = some (PySem.PX.excO C hp.objs.size) := by heap_get
  refine wpAny_call (PySem.PX.call_own FB hT hC hi' (fun self => exc_bind hoI hcI self) (by show 1 ≤ sizeLine; rw [sizeLine_eq]; omega) ?_)
  refine init1 (s := ⟨(hp.push (kdv_tup [v])).push (PySem.PX.excO C hp.objs.size), gg, d, tk, os⟩) (v := v) (t := hp.objs.size) KF FB SF T TI hno hx1 hx2 hx3 hx4 hpos a kk (show hp.objs.size ≤ _ by rw [Heap.size_push, Heap.size_push]; omega) (Nat.le_succ _) hget hroom (hb _ _) fun h' tk' M => ?_
  exact ⟨rfl, hq h' tk' _ ⟨M.keep, Nat.le_succ _, M.obj⟩⟩
theorem made0 {E : Value → Shared → Prop} {Q : Value → Shared → Prop} (KF : KxsFacts B i) (FB : ExcBaseFacts B newId i bmB) (T : XCls prog K B i newId bmB C)
    (TI : XIni prog K C fI qual (iA0 p1) (iB0 msg a1 a2 a3 a4 a5 a6) iS0) (hpos : (a3.endLine == a5.line) = true) (a : Arnd prog K s.heap) (hroom : A.depth + 1 < recursionLimit)
    (hq : ∀ h' tk' e t', (∀ b o, s.heap.get? b = some o → h'.get? b = some o) → s.heap.objs.size ≤ e → h'.get? e = some (excObj C t' none .none) → Q (.ref e) { s with heap := h', toks := tk' }) :
    wpAny (model prog w) A (call (.ref C) []) Q E s := by
  obtain ⟨nm, N', qn, bs, bm, hdct, sn, sub, ab, col, dd, k0, k1, k2, k3, k5, hC, hT⟩ := excInit_of a.kin T.ini
  obtain ⟨oI, hoI, hcI⟩ : ∃ oI, s.heap.get? fI = some oI ∧ oI.cls = .type "function" := by
    obtain ⟨o, ho, hc⟩ := Option.map_eq_some_iff.mp (show (K.lookup fI).map (·.cls) = some (.type "function") from beq_iff_eq.mp TI.fn)
    exact ⟨o, a.kin _ _ ho, hc⟩
  have hi' : Looks (model prog w) s.heap (typeLookup (.ref C) "__init__") (some (.ref fI)) := looks_findIn a.kin TI.at_
  obtain ⟨hp, gg, d, tk, os⟩ := s
  have kk : ∀ b o, hp.get? b = some o → ((hp.push (kdv_tup [])).push (PySem.PX.excO C hp.objs.size)).get? b = some o := fun b o e => Heap.get?_push_of_some _ (Heap.get?_push_of_some _ e)
  have hget : ((hp.push (kdv_tup [])).push (PySem.PX.excO C hp.objs.size)).get? (hp.objs.size + 1) = some (PySem.PX.excO C hp.objs.size) := by heap_get
  refine wpAny_call (PySem.PX.call_own FB hT hC hi' (fun self => exc_bind hoI hcI self) (by show 0 ≤ sizeLine; omega) ?_)
  refine init0 (s := ⟨(hp.push (kdv_tup [])).push (PySem.PX.excO C hp.objs.size), gg, d, tk, os⟩) (t := hp.objs.size) KF FB T TI hpos a kk (show hp.objs.size ≤ _ by rw [Heap.size_push, Heap.size_push]; omega) (Nat.le_succ _) hget hroom fun h' tk' t' k' E' => ?_
  exact ⟨rfl, hq h' tk' _ t' k' (Nat.le_succ _) E'⟩
end
end VK
end PySem

namespace VK
open PySem PySem.VK L2
/-! ## errors as values over the abstract heap -/
/-- at e: an error of the class at C, its dict (none | at dx) -/
def exS (e C : Addr) (d : Option Addr) : HO := .ext fun h => ∃ t : Addr, h.get? e = some (PySem.W.excObj C t d .none)
theorem exS_ok {P : Program} {w : World} {H : Hp} {h : Heap} {e C t : Addr} {d : Option Addr} (he : h.get? e = some (PySem.W.excObj C t d .none)) : ObjOk P w H h e (exS e C d) :=
  ⟨⟨t, he⟩, ⟨_, he⟩, fun _ _ ⟨t, q⟩ k => ⟨t, k _ q⟩⟩
theorem exS_at {P : Program} {w : World} {H : Hp} {h : Heap} {e C : Addr} {d : Option Addr} (hok : HOk P w H h) (he : H e = some (exS e C d)) : ∃ t : Addr, h.get? e = some (PySem.W.excObj C t d .none) := by
  have x : ObjOk P w H h e (.ext fun h => ∃ t : Addr, h.get? e = some (PySem.W.excObj C t d .none)) := hok e _ he
  exact x.1
theorem relO_one {x : Str} {v : V} {u : Value} (r : RelV v u) (g : Str) : RelO (([(x, v)] : List (Str × V)).lookup g) (if g = x then some u else none) := by
  by_cases hw : g = x
  · subst hw
    rw [if_pos rfl, List.lookup_cons, beq_self_eq_true]
    exact r
  · have q : (g == x) = false := by simpa using hw
    rw [if_neg hw, List.lookup_cons, q]
    trivial
/-- the call of a class of one field, of none -/
def tMk1 (C : Addr) (x : Str) (ta : TE) : TE := fun σ H Q => ta σ H fun v H1 => ∀ a d, H1 a = none → H1 d = none → d ≠ a → Q (.ref a) (upd (upd H1 d (.xd [(x, v)])) a (exS a C (some d)))
def tMk0 (C : Addr) : TE := fun _ H Q => ∀ a, H a = none → Q (.ref a) (upd H a (exS a C none))
section
variable {X : Cx} {pins : List (Addr × Obj)} {σ : L2.St} {H : Hp} {s : Shared} {B i newId : String} {bmB : List Value} {C fI : Addr} {qual msg x cn : Str} {p1 p2 a1 a2 a3 a4 a5 a6 b1 b2 b3 b4 p pos : Pos}
/-- what a body of a def knows around a call -/
theorem arnd_of (I : Inv X pins σ H s) (hs : X.mg "super" = none) (hn : (X.prog.main.scope.names.lookup ("super" : Str)).isSome = false) : Arnd X.prog X.K s.heap := by
  obtain ⟨mb, hb, hbb⟩ := I.mod.blt
  exact ⟨I.kIn, ⟨X.mg, I.mod.glob.keeps I.bk, hs⟩, ⟨mb, hb.keeps I.bk, (hbb _ (by decide)).trans (by decide +kernel)⟩, I.nolimit, hn⟩
/-- one object laid, tracked -/
theorem inv_two {h' : Heap} {a d : Addr} {oa od : HO} {t' : Nat} (I : Inv X pins σ H s) (k : ∀ b u, s.heap.get? b = some u → h'.get? b = some u) (ha : s.heap.objs.size ≤ a) (hd : s.heap.objs.size ≤ d) (hne : d ≠ a)
    (na : ∀ H', ObjOk X.prog X.w H' h' a oa) (nd : ∀ H', ObjOk X.prog X.w H' h' d od) : Inv X pins σ (upd (upd H d od) a oa) { s with heap := h', toks := t' } := by
  have hna : H a = none := I.hok.fresh ha
  have hnd : H d = none := I.hok.fresh hd
  have neA : ∀ {b : Addr} {o : Obj}, s.heap.get? b = some o → b ≠ a := fun {b o} q => Nat.ne_of_lt (Nat.lt_of_lt_of_le (Heap.lt_size q) ha)
  have neD : ∀ {b : Addr} {o : Obj}, s.heap.get? b = some o → b ≠ d := fun {b o} q => Nat.ne_of_lt (Nat.lt_of_lt_of_le (Heap.lt_size q) hd)
  have hna' : upd H d od a = none := by rw [upd_ne hne.symm]; exact hna
  refine I.un (t' := t') { keep := fun b o q n _ _ => k b o q, slot := fun b o q n _ _ => ⟨o.slots, k b o q⟩, free := fun b o q n _ => ?_, there := fun b o q _ => ⟨o, k b o q⟩, tups := fun b xs q => ?_, frzs := fun b o u q => ?_, tbls := fun b ps q => ⟨#[], ?_⟩ } ?_
  · rw [upd_ne (neA q), upd_ne (neD q)]; exact n
  · rw [upd_ne (ne_of_none q hna), upd_ne (ne_of_none q hnd)]; exact q
  · rw [upd_ne (ne_of_none q hna), upd_ne (ne_of_none q hnd)]; exact q
  · rw [upd_ne (ne_of_none q hna), upd_ne (ne_of_none q hnd), q]; simp
  · exact ((I.hok.kept k).laidN (fun _ _ q => q) hnd (nd _)).laidN (fun _ _ q => q) hna' (na _)
/-- C(e), C an own error of one field -/
theorem pe_mk1 {e : Expr} {ta : TE} (KF : PySem.W.KxsFacts B i) (FB : ExcBaseFacts B newId i bmB) (SF : StoreFacts B bmB "object.__setattr__" "object") (T : XCls X.prog X.K B i newId bmB C)
    (TI : XIni X.prog X.K C fI qual (iA x p1 p2) (iB msg x a1 a2 a3 a4 a5 a6 b1 b2 b3 b4) (iS x)) (hno : PySem.W.takerIn X.K C x = some none) (hgC : X.mg cn = some (.ref C)) (hsu : X.mg "super" = none) (hns : (X.prog.main.scope.names.lookup ("super" : Str)).isSome = false)
    (hdp : X.A.depth + 1 < recursionLimit) (hg : Gl X cn) (he : PE X e ta)
    (hb : ∀ (u1 u2 kV doc pm : Value) (an : Option Addr) (cda cc : Addr) (ct : Value), bindArgs (PySem.W.ksFn "__init__" qual (iA x p1 p2) (iB msg x a1 a2 a3 a4 a5 a6 b1 b2 b3 b4) (iS x) .none kV doc pm an (.ref cda) ct cc) ⟨[u1, u2], []⟩ = pure [(("self" : Str), u1), (x, u2)])
    (hpos : (a3.endLine == a5.line) = true) (hx1 : (x == ("self" : Str)) = false := by decide) (hx2 : (("__class__" : Str) == x) = false := by decide) (hx3 : (("super" : Str) == x) = false := by decide) (hx4 : (x == ("__debug__" : Str)) = false := by decide)
    (hs : starEach [e] X.env = (false, eval e X.env) :: starEach [] X.env := by rfl) (hdb : (cn == ("__debug__" : Str)) = false := by decide) :
    PE X (.Call (.Name cn p) [e] [] pos) (tMk1 C x ta) := by
  refine ⟨fun pins s σ H Q I h => ?_⟩
  refine wpAny_Call_Name_kw (ld_glob I hg hgC ?_ hdb)
  refine PySem.W.callWith_K (h₀ := X.base) I.ok.mod.kin T.kpC ?_ hs (by rfl)
  rw [hs]
  show wpAny _ _ (spliced ((false, eval e X.env) :: backTo pos (starEach [] X.env))) _ _ s
  refine Calls.spliced_cons (thn (he.run pins s σ H _ I h) fun u s1 ⟨v, H1, I1, r1, q1⟩ => ?_)
  refine Calls.spliced_nil ⟨I1.kIn, ?_⟩
  show wpAny _ _ (call (.ref C) [u]) _ _ _
  refine made1 KF FB SF T TI hno hx1 hx2 hx3 hx4 hpos (arnd_of I1 hsu hns) hdp hb fun h' tk' a M => ?_
  obtain ⟨t, d, ho, hd, hne, hn⟩ := M.obj
  have J : Inv X pins σ (upd (upd H1 d (.xd [(x, v)])) a (exS a C (some d))) { s1 with heap := h', toks := tk' } :=
    inv_two I1 M.keep M.new hd hne (fun _ => exS_ok ho) fun _ => ⟨_, hn, relO_one r1⟩
  exact ⟨.ref a, _, J, rfl, q1 a d (I1.hok.fresh M.new) (I1.hok.fresh hd) hne⟩
theorem pe_mk0 (KF : PySem.W.KxsFacts B i) (FB : ExcBaseFacts B newId i bmB) (T : XCls X.prog X.K B i newId bmB C)
    (TI : XIni X.prog X.K C fI qual (iA0 p1) (iB0 msg a1 a2 a3 a4 a5 a6) iS0) (hgC : X.mg cn = some (.ref C)) (hsu : X.mg "super" = none) (hns : (X.prog.main.scope.names.lookup ("super" : Str)).isSome = false)
    (hdp : X.A.depth + 1 < recursionLimit) (hg : Gl X cn) (hpos : (a3.endLine == a5.line) = true) (hdb : (cn == ("__debug__" : Str)) = false := by decide) :
    PE X (.Call (.Name cn p) [] [] pos) (tMk0 C) := by
  refine ⟨fun pins s σ H Q I h => ?_⟩
  refine wpAny_Call_Name_kw (ld_glob I hg hgC ?_ hdb)
  refine PySem.W.callWith_K0 I.kIn T.kpC ?_
  refine made0 KF FB T TI hpos (arnd_of I hsu hns) hdp fun h' tk' a t k hge ho => ?_
  exact ⟨.ref a, _, I.laid (t' := tk') k hge (exS_ok ho), rfl, h a (I.hok.fresh hge)⟩

/-- e.x of such an error -/
def tXat (K : PySem.W.Frag) (C : Addr) (x : Str) (te : TE) : TE := fun σ H Q => te σ H fun z H1 => ∃ a d v, z = .ref a ∧ H1 a = some (exS a C (some d)) ∧ H1 d = some (.xd [(x, v)]) ∧ Q v H1
theorem pe_xat {e : Expr} {te : TE} (T : XCls X.prog X.K B i newId bmB C) (hno : PySem.W.findIn X.K (.ref C) x = some none) (he : PE X e te)
    (hb : attributeBase e x X.env (eval e X.env) = eval e X.env := by rfl) : PE X (.Attribute e x pos) (tXat X.K C x te) := by
  refine ⟨fun pins s σ H Q I h => ?_⟩
  refine attr_of hb (thn (he.run pins s σ H _ I h) fun u s1 hh => ?_)
  obtain ⟨z, H1, I1, rx, a, d, v, rfl, ea, ed, q⟩ := hh
  obtain rfl : u = Value.ref a := rx
  obtain ⟨t, ho⟩ := exS_at I1.hok ea
  have hx : ObjOk X.prog X.w H1 s1.heap d (.xd [(x, v)]) := I1.hok d _ ed
  obtain ⟨mA, hns, hr⟩ := hx
  obtain ⟨od, hod, hl⟩ := lookIn_ns hns
  have l : List.lookup x [(x, v)] = some v := by rw [List.lookup_cons, beq_self_eq_true]
  obtain ⟨u, hu, ru⟩ := RelO.some_of (v := v) (o := mA x) (by rw [← l]; exact hr x)
  have J : PySem.W.InstAt s1.heap a (PySem.W.excObj C t (some d) .none) C (some od) := ⟨ho, rfl, rfl, hod⟩
  exact PySem.PX.exc_get I1.kIn J T.gat T.gga T.sBE (PySem.W.findObj_own T.hsd hno rfl (by rw [hl, hu])) (handed_of ru) ⟨v, H1, I1.tok _, ru, q⟩
/-- isinstance(e, c) of such an error -/
def rIsX (K : PySem.W.Frag) : List V → Hp → VK → Prop := fun xs H Q => ∃ (a C : Addr) (d : Option Addr) (c : V) (cv : Value) (b : Bool), xs = [.ref a, c] ∧ H a = some (exS a C d) ∧ (∀ dd, d = some dd → ∃ fs, H dd = some (.xd fs)) ∧ (∃ (P : Program) (B i newId : String) (bmB : List Value), XCls P K B i newId bmB C) ∧ (∀ u, RelV c u → u = cv) ∧ PySem.W.kitOne K (.ref C) cv = some b ∧ Q (.bl b) H
theorem call_isX : CallR X (.builtin "isinstance") (rIsX X.K) := by
  intro pins s σ H xs us Q I r h
  obtain ⟨a, C, d, c, cv, b, rfl, ha, hd, ⟨P, B, i, newId, bmB, T⟩, hcv, e, q⟩ := h
  cases r with
  | cons rx rr =>
    cases rr with
    | cons rt rr =>
      cases rr
      cases rx
      have ec := hcv _ rt
      subst ec
      obtain ⟨t, ho⟩ := exS_at I.hok ha
      have hcl : (PySem.W.clsIn X.K C).isSome = true := by obtain ⟨cd, hc, _⟩ := PySem.W.any_some T.hsd; rw [hc]; rfl
      obtain ⟨od, J⟩ : ∃ od, PySem.W.InstAt s.heap a (PySem.W.excObj C t d .none) C od := by
        cases d with
        | none => exact ⟨none, ho, rfl, rfl, trivial⟩
        | some dd =>
          obtain ⟨fs, hf⟩ := hd dd rfl
          have hx : ObjOk X.prog X.w H s.heap dd (.xd fs) := I.hok dd _ hf
          obtain ⟨mA, hns, _⟩ := hx
          obtain ⟨od, hod, _⟩ := lookIn_ns hns
          exact ⟨some od, ho, rfl, rfl, hod⟩
      exact PySem.W.kia_one (PySem.W.kitx_exc hcl T.gat T.gga T.sBE T.cla T.spG T.spT T.mOb) I.kIn J e (fun z => nomatch z) fun tk => ⟨.bl b, H, I.kept (t' := tk) fun _ _ z => z, rfl, q⟩
end
end VK

namespace PySem
namespace VK
open PySem.W PySem.Calls PyProof.Rows
/-! ## the same with the field by keyword -/
section
variable {prog : Program} {w : World} {M : Model} {A : Around} {E : Value → Shared → Prop} {R : Result → Shared → Prop} {h : Heap} {g : Array GenState} {d : Drawn} {t : Nat} {os : OsState}
variable {nm q : Str} {C N : Addr} {bs bm bmB : List Value} {hdct : Bool} {sn : List Str} {sub : List Value} {ab : Bool} {col : Option Bool} {dd : Option Addr} {k0 k1 k2 k3 k5 : Option Value} {B newId initId : String} {kw : List (Str × Value)}
theorem new_checkK (FB : ExcBaseFacts B newId initId bmB) (same : ∀ X : String, bm.contains (.type X) = bmB.contains (.type X)) {Q : Unit → Shared → Prop}
    (at_ : h.get? C = some (excClassObj nm q C N bs bm hdct sn sub ab col dd k0 k1 k2 k3 k5 newId)) (fin : Q () ⟨h, g, d, t, os⟩) : wpAny M A (checkBuiltinCall newId ⟨[.ref C], kw⟩) Q E ⟨h, g, d, t, os⟩ := by
  have isB : (Value.ref C :: bm).contains (.type B) = true := by
    rw [List.contains_cons, same, FB.hasB, Bool.or_true]
  have st := FB.noStar
  simp only [checkBuiltinCall, FB.newKind, FB.newSplit, FB.newRow]
  repeat first
    | refine wpAny_loadPart_at at_ ?_
    | (refine wpAny_isSubtype_exc at_ ?_; rw [isB])
    | refine wpAny_staticBase_exc at_ ?_
    | refine wpAny_madeBy_exc at_ ?_
    | simp only [bne_self_eq_false, Bool.false_eq_true, if_false]
    | wp_step
  exact fin
theorem newK (FB : ExcBaseFacts B newId initId bmB) (same : ∀ X : String, bm.contains (.type X) = bmB.contains (.type X))
    (at_ : h.get? C = some (excClassObj nm q C N bs bm hdct sn sub ab col dd k0 k1 k2 k3 k5 newId))
    (fin : R (.ok (.ret (.ref (h.objs.size + 1)))) ⟨(h.push (kdv_tup [])).push (PySem.PX.excO C h.objs.size), g, d, t, os⟩) :
    codeAny (model prog w) A (.builtin newId ⟨[.ref C], kw⟩) R ⟨h, g, d, t, os⟩ := by
  have ends := FB.ends
  have isB : (Value.ref C :: bm).contains (.type B) = true := by
    rw [List.contains_cons, same, FB.hasB, Bool.or_true]
  have noA : (Value.ref C :: bm).contains (.type "AttributeError") = false := by
    rw [List.contains_cons, same, FB.noAttr]; rfl
  have noN : (Value.ref C :: bm).contains (.type "NameError") = false := by
    rw [List.contains_cons, same, FB.noName]; rfl
  refine codeAny_builtinAt FB.entry ?_
  unfold Builtin.«BaseException.__new__»
  refine wpAt_bind ?_
  show _root_.PySem.wpAt _ _ _ (stack >>= _) _ _ _
  refine wpAt_bind (wpAt_stack fun p below => wpAt_of_wpAny ?_)
  wp_walk
  refine wpAt_of_wpAny ?_
  rw [FB.owner]
  repeat first
    | with_reducible refine wpAny_madeHere_exc FB.canon at_ ?_
    | with_reducible refine wpAny_loadPart_at at_ ?_
    | (with_reducible refine wpAny_isSubtype_exc at_ ?_; first | rw [isB] | rw [noA] | rw [noN])
    | wp_step
  show R _ _
  rw [Heap.size_push]
  exact fin
theorem type_callK (FB : ExcBaseFacts B newId initId bmB) (same : ∀ X : String, bm.contains (.type X) = bmB.contains (.type X)) {fI : Addr} {Q : Fin → Shared → Prop}
    (at_ : h.get? C = some (excClassObj nm q C N bs bm hdct sn sub ab col dd k0 k1 k2 k3 k5 newId))
    (hi : Looks (model prog w) h (typeLookup (.ref C) "__init__") (some (.ref fI))) (hb : ∀ self, Looks (model prog w) h (bindSpecial (.ref fI) self) (.ref fI, [self]))
    (fin : codeAny (model prog w) A (.call (.ref fI) ⟨[.ref (h.objs.size + 1)], kw⟩)
      (fun r s' => match r with | .ok (.ret v) => v = .none ∧ Q (.done (.ret (.ref (h.objs.size + 1)))) s' | .ok _ => False | .error e => E e s')
      ⟨(h.push (kdv_tup [])).push (PySem.PX.excO C h.objs.size), g, d, t, os⟩) :
    wpAny (model prog w) A (Builtin.«type.__call__» ⟨[.ref C], kw⟩) Q E ⟨h, g, d, t, os⟩ := by
  repeat first
    | with_reducible refine wpAny_loadPart_at at_ ?_
    | with_reducible refine wpAny_madeBy_exc at_ ?_
    | wp_step
  refine codeAny_call_builtin_code (Code.quiet_builtin _ FB.quiet) (new_checkK FB same at_ ?_)
  refine newK FB same at_ ?_
  show wpAny _ _ _ _ _ _
  have up : ∀ b o, h.get? b = some o → ((h.push (kdv_tup [])).push (PySem.PX.excO C h.objs.size)).get? b = some o :=
    fun b o e => Heap.get?_push_of_some _ (Heap.get?_push_of_some _ e)
  have at1 := up _ _ at_
  have here : ((h.push (kdv_tup [])).push (PySem.PX.excO C h.objs.size)).get? (h.objs.size + 1) = some (PySem.PX.excO C h.objs.size) := by heap_get
  have own : (Value.ref C :: bm).contains (.ref C) = true := by simp
  have i1 := hi.keeps up
  have b1 := (hb (.ref (h.objs.size + 1))).keeps up
  unfold isInstance
  repeat first
    | with_reducible refine wpAny_loadPart_at here ?_
    | (with_reducible refine wpAny_isSubtype_exc at1 ?_; rw [own])
    | wp_step
  show wpAny _ _ (typeLookup (.ref C) _) _ _ _
  refine i1.at ?_
  refine wpAny_holding (wpAny_bind (b1.at ?_))
  refine wpAny_bind (wpAny_call (codeAny_mono fin fun r s' z => ?_))
  rcases r with e | (v | _ | _ | _) <;> first | exact z | exact z.elim | skip
  obtain ⟨rfl, z⟩ := z
  first
    | exact wpAny_pure (wpAny_pure z)
    | (wp_walk; exact z)
theorem call_ownK (FB : ExcBaseFacts B newId initId bmB) (same : ∀ X : String, bm.contains (.type X) = bmB.contains (.type X)) {fI : Addr}
    (at_ : h.get? C = some (excClassObj nm q C N bs bm hdct sn sub ab col dd k0 k1 k2 k3 k5 newId))
    (hi : Looks (model prog w) h (typeLookup (.ref C) "__init__") (some (.ref fI))) (hb : ∀ self, Looks (model prog w) h (bindSpecial (.ref fI) self) (.ref fI, [self]))
    (fin : codeAny (model prog w) (A.under (.builtin "type.__call__" ⟨[.ref C], kw⟩)) (.call (.ref fI) ⟨[.ref (h.objs.size + 1)], kw⟩) (InitBack (h.objs.size + 1) R)
      ⟨(h.push (kdv_tup [])).push (PySem.PX.excO C h.objs.size), g, d, t, os⟩) :
    codeAny (model prog w) A (.call (.ref C) ⟨[], kw⟩) R ⟨h, g, d, t, os⟩ := by
  have f1 := tc_lookup
  have f2 := tc_bind (.ref C)
  have ty : (⟨h, g, d, t, os⟩ : Shared).TypeIs (.ref C) "type" := ⟨_, at_, rfl⟩
  refine codeAny_of_tree ?_
  show wpAny _ _ (callAny (.ref C) _) _ _ _
  repeat (any_goals first | assumption | with_reducible refine wpAny_loadPart_at at_ ?_ | wp_step)
  refine ⟨rfl, ?_⟩
  refine codeAny_call_builtin_at (Code.quiet_builtin _ (by decide +kernel)) entry_typeCall (wpAny_check_type_call_sub at_ (type_callK FB same at_ hi hb ?_))
  refine codeAny_mono fin fun r s' z => ?_
  rcases r with e | (v | _ | _ | _) <;> exact z
end
section
variable {prog : Program} {w : World} {A : Around} {R : Result → Shared → Prop} {s : Shared} {K : Frag} {B i newId : String} {bmB : List Value} {C fI : Addr} {qual msg x : Str} {p1 p2 a1 a2 a3 a4 a5 a6 b1 b2 b3 b4 : Pos}
theorem made1K {E : Value → Shared → Prop} {Q : Value → Shared → Prop} {v : Value} (KF : KxsFacts B i) (FB : ExcBaseFacts B newId i bmB) (SF : StoreFacts B bmB "object.__setattr__" "object") (T : XCls prog K B i newId bmB C)
    (TI : XIni prog K C fI qual (iA x p1 p2) (iB msg x a1 a2 a3 a4 a5 a6 b1 b2 b3 b4) (iS x)) (hno : takerIn K C x = some none) (hx1 : (x == ("self" : Str)) = false) (hx2 : (("__class__" : Str) == x) = false) (hx3 : (("super" : Str) == x) = false) (hx4 : (x == ("__debug__" : Str)) = false)
    (hpos : (a3.endLine == a5.line) = true) (a : Arnd prog K s.heap) (hroom : A.depth + 1 < recursionLimit)
    (hb : ∀ (u1 u2 kV doc pm : Value) (an : Option Addr) (cda cc : Addr) (ct : Value), bindArgs (ksFn "__init__" qual (iA x p1 p2) (iB msg x a1 a2 a3 a4 a5 a6 b1 b2 b3 b4) (iS x) .none kV doc pm an (.ref cda) ct cc) ⟨[u1], [(x, u2)]⟩ = pure [(("self" : Str), u1), (x, u2)])
    (hq : ∀ h' tk' e, Made1 s.heap h' e C x v → Q (.ref e) { s with heap := h', toks := tk' }) :
    wpAny (model prog w) A (call (.ref C) [] [(x, v)]) Q E s := by
  obtain ⟨nm, N', qn, bs, bm, hdct, sn, sub, ab, col, dd, k0, k1, k2, k3, k5, hC, hT⟩ := excInit_of a.kin T.ini
  obtain ⟨oI, hoI, hcI⟩ : ∃ oI, s.heap.get? fI = some oI ∧ oI.cls = .type "function" := by
    obtain ⟨o, ho, hc⟩ := Option.map_eq_some_iff.mp (show (K.lookup fI).map (·.cls) = some (.type "function") from beq_iff_eq.mp TI.fn)
    exact ⟨o, a.kin _ _ ho, hc⟩
  have hi' : Looks (model prog w) s.heap (typeLookup (.ref C) "__init__") (some (.ref fI)) := looks_findIn a.kin TI.at_
  obtain ⟨hp, gg, d, tk, os⟩ := s
  have kk : ∀ b o, hp.get? b = some o → ((hp.push (kdv_tup [])).push (PySem.PX.excO C hp.objs.size)).get? b = some o := fun b o e => Heap.get?_push_of_some _ (Heap.get?_push_of_some _ e)
  have hget : ((hp.push (kdv_tup [])).push (PySem.PX.excO C hp.objs.size)).get? (hp.objs.size + 1) = some (PySem.PX.excO C hp.objs.size) := by heap_get
  refine wpAny_call (call_ownK FB hT hC hi' (fun self => exc_bind hoI hcI self) ?_)
  refine init1 (s := ⟨(hp.push (kdv_tup [])).push (PySem.PX.excO C hp.objs.size), gg, d, tk, os⟩) (v := v) (t := hp.objs.size) KF FB SF T TI hno hx1 hx2 hx3 hx4 hpos a kk (show hp.objs.size ≤ _ by rw [Heap.size_push, Heap.size_push]; omega) (Nat.le_succ _) hget hroom (hb _ _) fun h' tk' M => ?_
  exact ⟨rfl, hq h' tk' _ ⟨M.keep, Nat.le_succ _, M.obj⟩⟩
end
end VK
end PySem
namespace VK
open PySem PySem.VK L2
section
variable {X : Cx} {B i newId : String} {bmB : List Value} {C fI : Addr} {qual msg x cn : Str} {p1 p2 a1 a2 a3 a4 a5 a6 b1 b2 b3 b4 p pos kp : Pos}
/-- C(x = e) -/
theorem pe_mk1K {e : Expr} {te : TE} (KF : PySem.W.KxsFacts B i) (FB : ExcBaseFacts B newId i bmB) (SF : StoreFacts B bmB "object.__setattr__" "object") (T : XCls X.prog X.K B i newId bmB C)
    (TI : XIni X.prog X.K C fI qual (iA x p1 p2) (iB msg x a1 a2 a3 a4 a5 a6 b1 b2 b3 b4) (iS x)) (hno : PySem.W.takerIn X.K C x = some none) (hgC : X.mg cn = some (.ref C)) (hsu : X.mg "super" = none) (hns : (X.prog.main.scope.names.lookup ("super" : Str)).isSome = false)
    (hdp : X.A.depth + 1 < recursionLimit) (hg : Gl X cn) (he : PE X e te)
    (hb : ∀ (u1 u2 kV doc pm : Value) (an : Option Addr) (cda cc : Addr) (ct : Value), bindArgs (PySem.W.ksFn "__init__" qual (iA x p1 p2) (iB msg x a1 a2 a3 a4 a5 a6 b1 b2 b3 b4) (iS x) .none kV doc pm an (.ref cda) ct cc) ⟨[u1], [(x, u2)]⟩ = pure [(("self" : Str), u1), (x, u2)])
    (hpos : (a3.endLine == a5.line) = true) (hx1 : (x == ("self" : Str)) = false := by decide) (hx2 : (("__class__" : Str) == x) = false := by decide) (hx3 : (("super" : Str) == x) = false := by decide) (hx4 : (x == ("__debug__" : Str)) = false := by decide)
    (hall : (backToKw pos (keywordEach [⟨some x, e, kp⟩] X.env)).all (·.1.isSome) = true := by rfl) (hks : (backToKw pos (keywordEach [⟨some x, e, kp⟩] X.env)).filterMap (·.1) = [x] := by rfl)
    (hpl : ((backTo pos (starEach [] X.env)).any (·.1) || (backToKw pos (keywordEach [⟨some x, e, kp⟩] X.env)).any (·.1.isNone)) = false := by rfl) (hdb : (cn == ("__debug__" : Str)) = false := by decide) :
    PE X (.Call (.Name cn p) [] [⟨some x, e, kp⟩] pos) (tMk1 C x te) := by
  refine ⟨fun pins s σ H Q I h => ?_⟩
  refine wpAny_Call_Name_kw (ld_glob I hg hgC ?_ hdb)
  refine PySem.W.callWith_KW0 (h₀ := X.base) I.ok.mod.kin T.kpC hall ?_ hpl
  refine thn ((pk_cons he pk_nil).run pos pins s σ H (fun zs H1 => match zs with | [v] => ∀ a d, H1 a = none → H1 d = none → d ≠ a → Q (.ref a) (upd (upd H1 d (.xd [(x, v)])) a (exS a C (some d))) | _ => False) I h) fun ws s1 hz => ?_
  obtain ⟨zs, H1, I1, r1, q1⟩ := hz
  cases r1 with
  | nil => exact False.elim q1
  | cons r1 rr =>
  cases rr with
  | cons _ _ => exact False.elim q1
  | nil =>
    refine ⟨I1.kIn, ?_⟩
    rw [hks]
    refine made1K KF FB SF T TI hno hx1 hx2 hx3 hx4 hpos (arnd_of I1 hsu hns) hdp hb fun h' tk' a M => ?_
    obtain ⟨t, d, ho, hd, hne, hn⟩ := M.obj
    have J := inv_two (t' := tk') I1 M.keep M.new hd hne (oa := exS a C (some d)) (od := .xd [(x, _)]) (fun _ => exS_ok ho) fun _ => ⟨_, hn, relO_one r1⟩
    exact ⟨.ref a, _, J, rfl, q1 a d (I1.hok.fresh M.new) (I1.hok.fresh hd) hne⟩
end
end VK

namespace VK
open PySem PySem.Spec PyProof.Rows L2
/-! ## repr of data -/
mutual
theorem dp_noDict {K : PySem.W.Frag} {H : Hp} : ∀ (d : PyData) (v : V), Dp K H v d → d.hasDict = false
  | .none, _, _ => by simp [PyData.hasDict]
  | .bool _, _, _ => by simp [PyData.hasDict]
  | .int _, _, _ => by simp [PyData.hasDict]
  | .str _, _, _ => by simp [PyData.hasDict]
  | .list ds, _, h => by
    cases h with
    | lst hs ha =>
      simp only [PyData.hasDict]
      exact dpAll_noDict ds _ ha
  | .tuple ds, _, h => by
    cases h with
    | tup hs ha =>
      simp only [PyData.hasDict]
      exact dpAll_noDict ds _ ha
  | .dict _, _, h => by cases h
theorem dpAll_noDict {K : PySem.W.Frag} {H : Hp} : ∀ (ds : List PyData) (vs : List V), DpAll K H vs ds → PyData.hasDictAll ds = false
  | [], _, _ => by simp [PyData.hasDictAll]
  | d :: ds, _, h => by
    cases h with
    | cons h1 h2 =>
      simp only [PyData.hasDictAll, dp_noDict d _ h1, dpAll_noDict ds _ h2]
      rfl
end
/-- a flat value as data -/
inductive Fl : V → PyData → Prop
  | non : Fl .non .none
  | bl (b : Bool) : Fl (.bl b) (.bool b)
  | int (i : Int) : Fl (.int i) (.int i)
  | str (x : Str) : Fl (.str x) (.str x)
def keyD : Key → PyData
  | .inl i => .int i
  | .inr x => .str x
/-- data: as Dp, or a dict of flat values -/
inductive Dr (K : PySem.W.Frag) (H : Hp) : V → PyData → Prop
  | of {v : V} {d : PyData} : Dp K H v d → Dr K H v d
  | dct {a : Addr} {kvs : List (Key × V)} {ds : List (PyData × PyData)} : H a = some (.dK kvs) → Paired (fun (p : Key × V) (q : PyData × PyData) => q.1 = keyD p.1 ∧ Fl p.2 q.2) kvs ds → Dr K H (.ref a) (.dict ds)
theorem reads_key {h : Heap} {k : Key} {v : Value} (e : keyIs k v = true) : Reads h v (keyD k) [] := by
  rcases keyIs_shape e with ⟨i, t, rfl, rfl⟩ | ⟨x, t, rfl, rfl⟩
  · exact .int i t
  · exact .str x t
theorem reads_fl {h : Heap} {v : V} {d : PyData} {u : Value} (f : Fl v d) (r : RelV v u) : Reads h u d [] := by
  cases f with
  | non => cases r; exact .none
  | bl b => cases r; exact .bool b
  | int i => obtain ⟨t, rfl⟩ := r; exact .int i t
  | str x => obtain ⟨t, rfl⟩ := r; exact .str x t
section
variable {X : Cx} {pins : List (Addr × Obj)} {σ : L2.St} {H : Hp} {s : Shared}
theorem reads_pairs {P : Program} {w : World} {h : Heap} : ∀ {es : List DictEntry} {vs : List (Key × Value)} {kvs : List (Key × V)} {ds : List (PyData × PyData)}, Pairs (mixKind P w) es vs → KV kvs vs →
    Paired (fun (p : Key × V) (q : PyData × PyData) => q.1 = keyD p.1 ∧ Fl p.2 q.2) kvs ds → ReadsAll h (es.map (·.key)) (ds.map (·.1)) [] ∧ ReadsAll h (es.map (·.val)) (ds.map (·.2)) []
  | _, _, _, _, .nil, .nil, .nil => ⟨.nil, .nil⟩
  | _, _, _, _, .cons hk hv hp, .cons r hr, .cons q hq => by
    obtain ⟨i1, i2⟩ := reads_pairs (h := h) hp hr hq
    obtain ⟨e1, e2⟩ := r
    obtain ⟨q1, q2⟩ := q
    refine ⟨?_, ?_⟩
    · rw [List.map_cons, List.map_cons, q1, e1]
      exact .cons (as := []) (reads_key hk) i1
    · rw [List.map_cons, List.map_cons, hv]
      exact .cons (as := []) (reads_fl q2 e2) i2
theorem Dr.reads (I : Inv X pins σ H s) {v : V} {d : PyData} {u : Value} (h : Dr X.K H v d) (r : RelV v u) : ∃ as, Reads s.heap u d as ∧ (d.hasDict = true → sysModules ∉ as) := by
  cases h with
  | of h =>
    obtain ⟨as, q⟩ := Dp.reads I d v u h r
    exact ⟨as, q, PyData.noDict_hsm (dp_noDict d v h)⟩
  | dct ha hp =>
    cases r
    have hx := I.hok _ _ ha
    obtain ⟨_, hne, vs, hkv, o, es, ep, ho, hex, hd, _, hps, _⟩ := hx
    obtain ⟨r1, r2⟩ := reads_pairs (h := s.heap) hps hkv hp
    refine ⟨_, Reads.dict ho hex.1 hd r1 r2, fun _ hm => ?_⟩
    rcases List.mem_append.mp hm with z | z
    · have e := List.mem_singleton.mp z
      rw [← e, beq_self_eq_true] at hne
      cases hne
    · cases z
theorem call_repr (hg : X.A.guards = some []) (hu : X.A.units + 64 < cLine) : CallR X (.builtin "repr") (fun xs H Q => ∃ v d, xs = [v] ∧ Dr X.K H v d ∧ d.showable = true ∧ d.shown.length ≤ sizeLine ∧ d.depth ≤ 60 ∧ Q (.str d.shown) H) := by
  intro pins s σ H xs us Q I r h
  obtain ⟨v, d, rfl, hd, hs, hz, hdep, q⟩ := h
  cases r with
  | cons rv rr =>
    cases rr
    obtain ⟨as, hr, hsm⟩ := hd.reads I rv
    cases hr with
    | none => exact PySem.P.repr_of_none ⟨.str _, H, I.tok _, ⟨_, rfl⟩, by simpa only [PyData.shown] using q⟩
    | bool b => exact PySem.P.repr_of_bool ⟨.str _, H, I.tok _, ⟨_, rfl⟩, by simpa only [PyData.shown] using q⟩
    | int i t => exact PySem.P.repr_of_int (by simpa [PyData.showable] using hs) ⟨.str _, H, I.tok _, ⟨_, rfl⟩, by simpa only [PyData.shown] using q⟩
    | str x t => exact PySem.P.repr_of_str ⟨.str _, H, I.tok _, ⟨_, rfl⟩, by simpa only [PyData.shown] using q⟩ (by simpa only [PyData.shown] using hz)
    | list h1 h2 h3 h4 => exact repr_of_reads' (.list h1 h2 h3 h4) hs hsm hg (by omega) (fun _ _ e => e) (fun h' u tk k => ⟨.str _, H, I.kept (t' := tk) k, ⟨_, rfl⟩, q⟩) hz
    | tuple h1 h2 h3 h4 => exact repr_of_reads' (.tuple h1 h2 h3 h4) hs hsm hg (by omega) (fun _ _ e => e) (fun h' u tk k => ⟨.str _, H, I.kept (t' := tk) k, ⟨_, rfl⟩, q⟩) hz
    | dict h1 h2 h3 h4 h5 => exact repr_of_reads' (.dict h1 h2 h3 h4 h5) hs hsm hg (by omega) (fun _ _ e => e) (fun h' u tk k => ⟨.str _, H, I.kept (t' := tk) k, ⟨_, rfl⟩, q⟩) hz
end
end VK

namespace VK
open PySem PySem.Spec PyProof.Rows L2
/-! ## a def that runs where no repr is under way -/
structure FnG (P : Program) (w : World) (K : PySem.W.Frag) (mg : Str → Option Value) (base : Heap) (CX : CXT) (k : Nat) (f : Addr) (fd : FuncData) (ps : List Str) (sp : Sp) : Prop where
  len : ∀ vs H Q E, sp vs H Q E → vs.length = ps.length
  run : ∀ (A : Around) (outer : List Env) (s : Shared) (H : Hp) (args : Args) (us : List Value) (vs : List V) (Q : VK) (E : XK), Room k A → A.guards = some [] →
    Env0 P w K mg base A outer s H → BindsTo s fd args (ps.zip us) → Vals vs us → sp vs H Q E → codeAny (model P w) A (.call (.ref f) args) (CR CX outer P w H s Q E) s
section
variable {P : Program} {w : World} {K : PySem.W.Frag} {mg : Str → Option Value} {base : Heap} {CXa : CXT} {k : Nat} {f : Addr} {fd : FuncData} {N ps : List Str} {sp : Sp} {nm qual : Str} {st : Stmt}
/-- by its body -/
theorem FnG.by_body (F : Fun K nm qual st f fd) (S : FnScope N ps (defScope st)) (len : ∀ vs H Q E, sp vs H Q E → vs.length = ps.length)
    (hbody : ∀ (cdv : Value) (A : Around) (outer : List Env) (s : Shared) (H : Hp) (vs : List V) (Q : VK) (E : XK),
      Room k (A.deeper (envOfC qual (defScope st) s.heap.objs.size f cdv)) → (A.deeper (envOfC qual (defScope st) s.heap.objs.size f cdv)).guards = some [] → sp vs H Q E →
      ∃ t, PSs (cxOf CXa P w K mg base N qual (defScope st) f cdv A outer s H E) (defBody st) t ∧ t { nx := fun _ H' => Q .non H', rt := Q } (start N vs) H) :
    FnG P w K mg base CXa (k + 1) f fd ps sp := by
  obtain ⟨oc, od, kV, doc, pm, an, cdv, ct, osl, rfl, lk, hcd⟩ := F.ex
  refine ⟨len, ?_⟩
  intro A outer s H args us vs Q E room gu e0 hb vals hsp
  have kin : K.In s.heap := e0.mod.kin.keeps fun b o z => (e0.bs b o z).1
  have nolim : s.heap.NoLimit := e0.mod.nolimit.keeps fun b o z => (e0.bs b o z).1
  have kinds : ∀ y ∈ ps.zip us, (defScope st).names.lookup y.1 = some .local ∨ ((defScope st).names.lookup y.1 = some .cell ∧ ((cellsFrom (s.heap.objs.size + 1) (defScope st).names []).lookup y.1).isSome = true) := by
    rintro ⟨n, v⟩ hy
    rcases S.par n (List.of_mem_zip hy).1 with z | z
    · exact Or.inl z
    · exact Or.inr ⟨z, PySem.W.cellsFrom_some _ _ _ (Or.inl z)⟩
  refine codeAny_call_function room.depth (kin _ _ lk) rfl S.co S.gen rfl (PySem.W.codeRec_of kin hcd) (hb _ _ _ _ ?_)
  refine wpAny_newFunctionEnv_cells S.kind kinds fun env henv s1 inn => ?_
  subst henv
  refine ⟨nolim.keeps inn.toInCall.keep, codeAny_func ?_⟩
  obtain ⟨t, ht, hq⟩ := hbody cdv A outer s H vs Q E (room.deeper _) gu hsp
  have J : Inv (cxOf CXa P w K mg base N qual (defScope st) f cdv A outer s H E) [] (start N vs) H s1 := inv_start S room.hd e0 (len _ _ _ _ hsp) vals inn
  refine wpAny_mono (ht.run [] s1 (start N vs) H _ J hq) ?_ fun e s' z => z
  intro fl s' z
  cases fl with
  | ret u =>
    obtain ⟨v, σ', H', J', rv, q⟩ := z
    exact ⟨v, H', J'.os, J'.bare, J'.base, J'.hok, rv, q⟩
  | next =>
    obtain ⟨σ', H', J', q⟩ := z
    exact ⟨V.non, H', J'.os, J'.bare, J'.base, J'.hok, rfl, q⟩
  | brk =>
    obtain ⟨_, _, _, q⟩ := z
    exact False.elim q
  | cont =>
    obtain ⟨_, _, _, q⟩ := z
    exact False.elim q
theorem FnG.of_ok (F : FnOk P w K mg base CXa k f fd ps sp) : FnG P w K mg base CXa k f fd ps sp :=
  ⟨F.len, fun A outer s H args us vs Q E hr _ => F.run A outer s H args us vs Q E hr⟩
theorem FnG.mono {j : Nat} (F : FnG P w K mg base CXa j f fd ps sp) (h : j ≤ k) : FnG P w K mg base CXa k f fd ps sp :=
  ⟨F.len, fun A outer s H args us vs Q E hr => F.run A outer s H args us vs Q E (hr.mono h)⟩
end
section
variable {X : Cx} {CXa : CXT} {k : Nat} {f : Addr} {fd : FuncData} {ps : List Str} {sp : Sp} {dvs : List V} {ds : List Value} {E : XK} {x : Str} {p pos : Pos} {e : Expr} {es : List Expr} {t : TA}
theorem run_fnG {pins : List (Addr × Obj)} {σ : L2.St} {H : Hp} {s : Shared} {Q : VK} {us : List Value} {vs : List V} (F : FnG X.prog X.w X.K X.mg X.base CXa k f fd ps sp) (hr : Room k X.A) (gu : X.A.guards = some [])
    (hb : Binds X.K fd ps ds) (hd : Vals dvs ds) (hx : Passes CXa X E) (I : Inv X pins σ H s) (r : Vals vs us) (h : sp (vs ++ dvs) H Q E) : wpAny (model X.prog X.w) X.A (call (.ref f) us) (EP X pins σ Q) X.xe s := by
  have vv : Vals (vs ++ dvs) (us ++ ds) := r.append hd
  have ll : (us ++ ds).length = ps.length := vv.length.symm.trans (F.len _ _ _ _ h)
  refine wpAny_call (codeAny_mono (F.run X.A X.stack s H ⟨us, []⟩ (us ++ ds) (vs ++ dvs) Q E hr gu I.env0 (hb s us I.kIn ll) vv h) ?_)
  intro res s' z
  cases res with
  | error er => exact hx pins σ H s er s' I z
  | ok fl =>
    cases fl with
    | ret u => exact I.after z
    | next => exact False.elim z
    | brk => exact False.elim z
    | cont => exact False.elim z
/-- f(..) by such a promise -/
theorem pe_callG (F : FnG X.prog X.w X.K X.mg X.base CXa k f fd ps sp) (hr : Room k X.A) (gu : X.A.guards = some []) (hg : Gl X x) (hm : X.mg x = some (.ref f)) (hk : PySem.W.keepIn X.K (.ref f) = true) (hb : Binds X.K fd ps ds) (hd : Vals dvs ds) (hx : Passes CXa X E)
    (ha : PA X (e :: es) t) (hdb : (x == ("__debug__" : Str)) = false := by decide) (he : starEach (e :: es) X.env = (false, eval e X.env) :: starEach es X.env := by rfl) (hpl : (backTo pos (starEach es X.env)).any (·.1) = false := by rfl) :
    PE X (.Call (.Name x p) (e :: es) [] pos) (tCall sp dvs E t) := ⟨fun pins s σ H Q I h => wpAny_Call_Name_kw (ld_glob I hg hm (PySem.W.callWith_K (h₀ := X.base) I.ok.mod.kin hk
      (thn (ha.run pos pins s σ H _ I h) fun us s1 ⟨vs, H1, I1, r, q⟩ => ⟨I1.kIn, run_fnG F hr gu hb hd hx I1 r q⟩) he hpl) hdb)⟩
end
/-- the law's call -/
theorem law_callG {P : Program} {w : World} {K : PySem.W.Frag} {mg mb : Str → Option Value} {k : Nat} {fa a : Addr} {fd : FuncData} {x : Str} {sp : Sp} {s₁ : Shared} {vs : List Value} {ns : List Int}
    (KX : K.In s₁.heap) (hns : s₁.heap.Ns mainGlobals mg) (hb : s₁.heap.Ns builtinsNs mb) (hbb : ∀ x : Str, x ≠ "__name__" → mb x = bootBuiltins x) (hlim : s₁.heap.NoLimit) (hg : s₁.gens = #[])
    (ha : s₁.heap.get? a = some { cls := .type "list", data := .seq vs.toArray }) (hi : IntsAre vs ns) (hl : ns.length ≤ sizeLine) (hr : Room k callerA)
    (F : ∀ base : Heap, K.In base → base.Ns mainGlobals mg → FnG P w K mg base CX0 k fa fd [x] sp) (hbind : ∀ (s : Shared) (u : Value), BindsTo s fd ⟨[u], []⟩ [(x, u)])
    (hsp : ∀ H : Hp, Only H → SqL K H a (ns.map V.int) → sp [.ref a] H (fun v _ => v = .bl true) fun _ _ _ => False) :
    codeAny (model P w) callerA (.call (.ref fa) ⟨[.ref a], []⟩) (fun r s' => r = .ok (.ret (.bool true)) ∧ OldK s₁.heap s'.heap ∧ s'.os = s₁.os ∧ AllBare s'.gens) s₁ := by
  have rv := vals_ints hi
  have go : ∀ H : Hp, Only H → SqL K H a (ns.map V.int) → HOk P w H s₁.heap → (∀ b, H b ≠ none → b = a) → (H a ≠ none → K.lookup a = none) →
      codeAny (model P w) callerA (.call (.ref fa) ⟨[.ref a], []⟩) (fun r s' => r = .ok (.ret (.bool true)) ∧ OldK s₁.heap s'.heap ∧ s'.os = s₁.os ∧ AllBare s'.gens) s₁ := by
    intro H only sq hok onlyA notK
    have isA : ∀ {b : Addr} {u : HO}, H b = some u → b = a := fun {b u} z => onlyA b (by rw [z]; exact nofun)
    have free : ∀ {b : Addr} {o : Obj} {es : Array DictEntry} {ep : Nat}, s₁.heap.get? b = some o → o.data = .dict es ep → H b = none := by
      intro b o es ep e d
      cases q : H b with
      | none => rfl
      | some u =>
        rw [isA q, ha] at e
        cases e
        cases d
    have ns' : ∀ {b : Addr} {m : Str → Option Value}, s₁.heap.Ns b m → (hidT s₁.heap H).Ns b m := by
      rintro b m ⟨o, es, ep, e, d, r⟩
      exact ⟨o, es, ep, hidT_get e (free e d), d, r⟩
    have kin' : K.In (hidT s₁.heap H) := by
      intro b o e
      refine hidT_get (KX b o e) ?_
      cases q : H b with
      | none => rfl
      | some u =>
        have hz := isA q
        subst hz
        rw [notK (by rw [q]; exact nofun)] at e
        cases e
    obtain ⟨mc, l1, l2⟩ := hlim
    have e0 : Env0 P w K mg (hidT s₁.heap H) callerA [] s₁ H := by
      refine ⟨rfl, ⟨kin', ns' hns, ⟨mb, ns' hb, hbb⟩, ⟨mc, ns' l1, l2⟩⟩, fun b o e => of_hidT e, Nat.le_of_eq (hidT_size _ _), trivial, (fun b z => nomatch z), hok, .of_eq hg⟩
    refine codeAny_mono ((F _ kin' (ns' hns)).run callerA [] s₁ H ⟨[.ref a], []⟩ [.ref a] [.ref a] _ _ hr rfl e0 (hbind s₁ (.ref a)) (.cons rfl .nil) (hsp H only sq)) ?_
    intro res s' z
    cases res with
    | error er => exact False.elim z
    | ok fl =>
      cases fl with
      | next => exact False.elim z
      | brk => exact False.elim z
      | cont => exact False.elim z
      | ret u =>
        obtain ⟨v, H', os, bare, un, hok', rr, q⟩ := z
        have qv : v = .bl true := q
        subst qv
        cases rr
        refine ⟨rfl, OldK.of_keep fun b o e => ?_, os, bare⟩
        cases q : H b with
        | none => exact un.keep b o e q (fun z => nomatch z) (fun z => nomatch z)
        | some u =>
          rcases only b with n | ⟨ob, xs, n⟩
          · rw [q] at n
            cases n
          · obtain ⟨e1, _⟩ := hok b _ n
            obtain ⟨e2, _⟩ := hok' b _ (un.frzs b ob _ n)
            rw [e] at e1
            cases e1
            exact e2
  cases hk : K.lookup a with
  | some o =>
    have e := KX a o hk
    rw [ha] at e
    cases e
    refine go (fun _ => none) (fun _ => .inl rfl) (.inr ⟨_, vs.toArray, _, hk, rfl, rfl, rfl, ?_, ?_⟩) (fun b u z => nomatch z) (fun b z => absurd rfl z) (fun z => absurd rfl z)
    · rw [List.size_toArray, hi.length]
      exact hl
    · simpa using rv
  | none =>
    refine go (fun b => if b = a then some (.frz { cls := .type "list", data := .seq vs.toArray } (.lst (ns.map V.int))) else none) ?_ (.inl (.inr ⟨_, if_pos rfl⟩)) ?_ ?_ (fun _ => hk)
    · intro b
      by_cases hb : b = a
      · exact .inr ⟨_, _, if_pos hb⟩
      · exact .inl (if_neg hb)
    · intro b u z
      by_cases hb : b = a
      · subst hb
        have z' := (if_pos rfl).symm.trans z
        cases z'
        exact ⟨ha, by rw [List.length_map]; exact hl, vs, _, rv, ha⟩
      · have z' := (if_neg hb).symm.trans z
        cases z'
    · intro b z
      by_cases hb : b = a
      · exact hb
      · exact absurd (if_neg hb) z
/-- the walk that k_head asks for -/
theorem walk_G {l : PySem.W.OpenLaw} {n k : Nat} {q : Program} {loose : List Str} {XP : (Str → Option Value) → Heap → Prop} {YP : World → Heap → Prop} {d : DefRec} {K : Params → PySem.W.Frag} {sp : PySem.W.Frag → Sp} {x : Str}
    (hn : l.most = some n) (hn2 : n ≤ sizeLine) (hdf : d.params.defaults = []) (hr : Room k callerA) (hY : ∀ (w : World) (h : Heap), YP w h → (K w.params).In h)
    (F : ∀ (w : World) (mg : Str → Option Value) (fa : Addr) (h : Heap), (K w.params).In h → h.Ns mainGlobals mg → mg d.name = some (.ref fa) →
      ∃ fd : FuncData, (∀ (s : Shared) (u : Value), BindsTo s fd ⟨[u], []⟩ [(x, u)]) ∧ ∀ base : Heap, (K w.params).In base → base.Ns mainGlobals mg → FnG l.prog w (K w.params) mg base CX0 k fa fd [x] (sp (K w.params)))
    (hsp : ∀ (K : PySem.W.Frag) (H : Hp) (a : Addr) (ns : List Int), ns.length ≤ n → Only H → SqL K H a (ns.map V.int) → sp K [.ref a] H (fun v _ => v = .bl true) fun _ _ _ => False) :
    PySem.W.WalkO q loose XP YP l.row.toRowW d [] (fun f vs => PySem.call f vs) := by
  refine Att.attach_call hn hdf ?_
  intro w s₀ s₁ mg mb fa o pm cd doc a vs ns G Y ho hd hcd hmg hobj hints hlen hgen
  have KX := hY w _ Y
  obtain ⟨fd, hb, hF⟩ := F w mg fa _ KX G.T.g hmg
  exact law_callG KX G.T.g G.T.b G.T.builtins G.T.nolimit hgen hobj hints (Nat.le_trans hlen hn2) hr hF hb fun H hO hS => hsp (K w.params) H a ns hlen hO hS
end VK

namespace VK
open PySem PySem.Spec PyProof.Rows L2
/-! ## data that is tracked, and expressions that lay it -/
mutual
inductive Dt (H : Hp) : V → PyData → Prop
  | non : Dt H .non .none
  | bl (b : Bool) : Dt H (.bl b) (.bool b)
  | int (i : Int) : Dt H (.int i) (.int i)
  | str (x : Str) : Dt H (.str x) (.str x)
  | lst {a : Addr} {xs : List V} {ds : List PyData} : H a = some (.lst xs) → DtAll H xs ds → Dt H (.ref a) (.list ds)
  | tup {a : Addr} {xs : List V} {ds : List PyData} : H a = some (.tup xs) → DtAll H xs ds → Dt H (.ref a) (.tuple ds)
  | dct {a : Addr} {kvs : List (Key × V)} {ds : List (PyData × PyData)} : H a = some (.dK kvs) → Paired (fun (p : Key × V) (q : PyData × PyData) => q.1 = keyD p.1 ∧ Fl p.2 q.2) kvs ds → Dt H (.ref a) (.dict ds)
inductive DtAll (H : Hp) : List V → List PyData → Prop
  | nil : DtAll H [] []
  | cons {v : V} {vs : List V} {d : PyData} {ds : List PyData} : Dt H v d → DtAll H vs ds → DtAll H (v :: vs) (d :: ds)
end
/-- what data leans on: lists, tuples, dicts of flat values -/
def Leans : HO → Prop
  | .lst _ => True
  | .tup _ => True
  | .dK kvs => ∀ p ∈ kvs, ∀ a, p.2 ≠ .ref a
  | _ => False
theorem flat_of : ∀ {kvs : List (Key × V)} {ds : List (PyData × PyData)}, Paired (fun (p : Key × V) (q : PyData × PyData) => q.1 = keyD p.1 ∧ Fl p.2 q.2) kvs ds → ∀ p ∈ kvs, ∀ a, p.2 ≠ .ref a
  | _, _, .nil, _, h, _ => nomatch h
  | _, _, .cons r t, p, h, a => by
    rcases List.mem_cons.mp h with rfl | h
    · intro z
      have f := r.2
      rw [z] at f
      cases f
    · exact flat_of t p h a
mutual
theorem Dt.keep {H H' : Hp} (k : ∀ b o, H b = some o → Leans o → H' b = some o) : ∀ (d : PyData) (v : V), Dt H v d → Dt H' v d
  | .none, _, h => by cases h; exact .non
  | .bool b, _, h => by cases h; exact .bl b
  | .int i, _, h => by cases h; exact .int i
  | .str x, _, h => by cases h; exact .str x
  | .list ds, _, h => by
    cases h with
    | lst ha hs => exact .lst (k _ _ ha trivial) (DtAll.keep k ds _ hs)
  | .tuple ds, _, h => by
    cases h with
    | tup ha hs => exact .tup (k _ _ ha trivial) (DtAll.keep k ds _ hs)
  | .dict ds, _, h => by
    cases h with
    | dct ha hp => exact .dct (k _ _ ha (flat_of hp)) hp
theorem DtAll.keep {H H' : Hp} (k : ∀ b o, H b = some o → Leans o → H' b = some o) : ∀ (ds : List PyData) (vs : List V), DtAll H vs ds → DtAll H' vs ds
  | [], _, h => by cases h; exact .nil
  | d :: ds, _, h => by
    cases h with
    | cons h1 h2 => exact .cons (Dt.keep k d _ h1) (DtAll.keep k ds _ h2)
end
theorem Dt.same {H H' : Hp} (s : Same H H') {d : PyData} {v : V} (h : Dt H v d) : Dt H' v d := Dt.keep (fun b o e _ => s b o e) d v h
theorem DtAll.same {H H' : Hp} (s : Same H H') {ds : List PyData} {vs : List V} (h : DtAll H vs ds) : DtAll H' vs ds := DtAll.keep (fun b o e _ => s b o e) ds vs h
mutual
theorem Dt.dp {K : PySem.W.Frag} {H : Hp} : ∀ (d : PyData) (v : V), Dt H v d → d.hasDict = false → Dp K H v d
  | .none, _, h, _ => by cases h; exact .non
  | .bool b, _, h, _ => by cases h; exact .bl b
  | .int i, _, h, _ => by cases h; exact .int i
  | .str x, _, h, _ => by cases h; exact .str x
  | .list ds, _, h, z => by
    cases h with
    | lst ha hs => exact .lst (SqL.of ha) (DtAll.dp ds _ hs (by simpa only [PyData.hasDict] using z))
  | .tuple ds, _, h, z => by
    cases h with
    | tup ha hs => exact .tup (SqT.of ha) (DtAll.dp ds _ hs (by simpa only [PyData.hasDict] using z))
  | .dict ds, _, _, z => by simp only [PyData.hasDict] at z; cases z
theorem DtAll.dp {K : PySem.W.Frag} {H : Hp} : ∀ (ds : List PyData) (vs : List V), DtAll H vs ds → PyData.hasDictAll ds = false → DpAll K H vs ds
  | [], _, h, _ => by cases h; exact .nil
  | d :: ds, _, h, z => by
    cases h with
    | cons h1 h2 =>
      simp only [PyData.hasDictAll, Bool.or_eq_false_iff] at z
      exact .cons (Dt.dp d _ h1 z.1) (DtAll.dp ds _ h2 z.2)
end
/-- no dict within: repr may be asked -/
def topDict : PyData → Bool
  | .dict _ => true
  | d => !d.hasDict
theorem Dt.dr {K : PySem.W.Frag} {H : Hp} {d : PyData} {v : V} (h : Dt H v d) (z : topDict d = true) : Dr K H v d := by
  cases d with
  | dict ds => cases h with | dct ha hp => exact .dct ha hp
  | none => exact .of (Dt.dp _ _ h (by simpa [topDict] using z))
  | bool b => exact .of (Dt.dp _ _ h (by simpa [topDict] using z))
  | int b => exact .of (Dt.dp _ _ h (by simpa [topDict] using z))
  | str b => exact .of (Dt.dp _ _ h (by simpa [topDict] using z))
  | list b => exact .of (Dt.dp _ _ h (by simpa [topDict] using z))
  | tuple b => exact .of (Dt.dp _ _ h (by simpa [topDict] using z))
theorem DtAll.length {H : Hp} : ∀ {vs : List V} {ds : List PyData}, DtAll H vs ds → vs.length = ds.length
  | _, _, .nil => rfl
  | _, _, .cons _ t => congrArg (· + 1) t.length
theorem DtAll.append {H : Hp} : ∀ {vs ws : List V} {ds es : List PyData}, DtAll H vs ds → DtAll H ws es → DtAll H (vs ++ ws) (ds ++ es)
  | _, _, _, _, .nil, h => h
  | _, _, _, _, .cons a t, h => .cons a (t.append h)
theorem DtAll.mem {H : Hp} : ∀ {vs : List V} {ds : List PyData}, DtAll H vs ds → ∀ v ∈ vs, ∃ d ∈ ds, Dt H v d
  | _, _, .nil, _, h => nomatch h
  | _, _, .cons a t, v, h => by
    rcases List.mem_cons.mp h with rfl | h
    · exact ⟨_, List.mem_cons_self, a⟩
    · obtain ⟨d, hd, q⟩ := t.mem v h
      exact ⟨d, List.mem_cons_of_mem _ hd, q⟩
/-- an expression that lays data, new where it is an object -/
def EvD (te : TE) (σ : L2.St) (d : PyData) : Prop := ∀ H Q, (∀ v H1, Same H H1 → Dt H1 v d → (∀ a, v = .ref a → H a = none) → Q v H1) → te σ H Q
def EvDs (ta : TA) (σ : L2.St) (ds : List PyData) : Prop := ∀ H Q, (∀ vs H1, Same H H1 → DtAll H1 vs ds → (∀ v ∈ vs, ∀ a, v = .ref a → H a = none) → Q vs H1) → ta σ H Q
section
variable {σ : L2.St} {te : TE} {ta : TA} {d : PyData} {ds : List PyData}
theorem ed_non : EvD (tC .non) σ .none := fun H _ k => k _ H (Same.refl H) .non (fun _ z => nomatch z)
theorem ed_bl (b : Bool) : EvD (tC (.bl b)) σ (.bool b) := fun H _ k => k _ H (Same.refl H) (.bl b) (fun _ z => nomatch z)
theorem ed_int (i : Int) : EvD (tC (.int i)) σ (.int i) := fun H _ k => k _ H (Same.refl H) (.int i) (fun _ z => nomatch z)
theorem ed_str (x : Str) : EvD (tC (.str x)) σ (.str x) := fun H _ k => k _ H (Same.refl H) (.str x) (fun _ z => nomatch z)
theorem ed_neg (i : Int) : EvD (tUn (rU fun i => .int (-i)) (tC (.int i))) σ (.int (-i)) := fun H _ k => ⟨i, rfl, k _ H (Same.refl H) (.int (-i)) (fun _ z => nomatch z)⟩
theorem ed_pow (i j : Int) (h : CPow i j) : EvD (tOp (rI CPow fun i j => .int (i ^ j.toNat)) (tC (.int i)) (tC (.int j))) σ (.int (i ^ j.toNat)) := fun H _ k => ⟨i, j, rfl, rfl, h, k _ H (Same.refl H) (.int _) (fun _ z => nomatch z)⟩
theorem eds_nil : EvDs tNil σ [] := fun H _ k => k _ H (Same.refl H) .nil (fun _ z => nomatch z)
theorem eds_cons (h : EvD te σ d) (hr : EvDs ta σ ds) : EvDs (tCons te ta) σ (d :: ds) := fun H Q k => h H _ fun v H1 s1 d1 n1 => hr H1 _ fun vs H2 s2 d2 n2 => k _ H2 (s1.trans s2) (.cons (d1.same s2) d2) fun x hx a e => by
  rcases List.mem_cons.mp hx with rfl | hx
  · exact n1 a e
  · exact s1.free (n2 x hx a e)
theorem ed_lst (h : EvDs ta σ ds) (hl : ds.length ≤ 10000 := by decide) : EvD (tLst ta) σ (.list ds) := fun H Q k => h H _ fun vs H1 s1 d1 n1 =>
  ⟨by rw [d1.length]; exact Nat.le_trans hl (by decide), fun p hp => k _ _ (s1.trans (fun b o e => by rw [upd_ne (ne_of_none e hp)]; exact e)) (.lst upd_same (d1.same fun b o e => by rw [upd_ne (ne_of_none e hp)]; exact e)) fun a e => by cases e; exact s1.free hp⟩
theorem ed_tup (h : EvDs ta σ ds) (hl : ds.length ≤ 10000 := by decide) : EvD (tTup ta) σ (.tuple ds) := fun H Q k => h H _ fun vs H1 s1 d1 n1 =>
  ⟨by rw [d1.length]; exact Nat.le_trans hl (by decide), fun p hp => k _ _ (s1.trans (fun b o e => by rw [upd_ne (ne_of_none e hp)]; exact e)) (.tup upd_same (d1.same fun b o e => by rw [upd_ne (ne_of_none e hp)]; exact e)) fun a e => by cases e; exact s1.free hp⟩
theorem ed_dict0 : EvD tDNewK σ (.dict []) := fun H Q k p hp => k _ _ (fun b o e => by rw [upd_ne (ne_of_none e hp)]; exact e) (.dct upd_same .nil) fun a e => by cases e; exact hp
theorem ed_dict1 (i j : Int) : EvD (tDisp [(tC (.int i), tC (.int j))]) σ (.dict [(.int i, .int j)]) := fun H Q k p hp =>
  ⟨upd_same, [(Sum.inl i, .int j)], rfl, by show 1 ≤ 15; decide, k _ _ (fun b o e => by rw [upd_ne (ne_of_none e hp), upd_ne (ne_of_none e hp)]; exact e) (.dct upd_same (.cons ⟨rfl, .int j⟩ .nil)) fun a e => by cases e; exact hp⟩

/-- x = e, e laying data; a list + a list laid in the place -/
theorem st_evd {i : Nat} {u : TS} {D : Ends} {H : Hp} (h : EvD te σ d) (k : ∀ v H1, Same H H1 → Dt H1 v d → (∀ a, v = .ref a → H a = none) → u D (σ.set i (some v)) H1) : tSeq (tAsg te (gName i)) u D σ H := h H _ k
theorem op_evd {r : R2} {tb : TE} {H : Hp} {Q : VK} {x : V} {i : Nat} (hi : σ[i]? = some (some x)) (h : EvD tb σ d) (k : ∀ v H1, Same H H1 → Dt H1 v d → (∀ a, v = .ref a → H a = none) → r x v H1 Q) : tOp r (tVar i) tb σ H Q := ⟨x, hi, h H _ k⟩
theorem lst_evds {H : Hp} {Q : VK} (h : EvDs ta σ ds) (hl : ds.length ≤ 10000) (k : ∀ p vs H1, H p = none → Same H H1 → H1 p = some (.lst vs) → DtAll H1 vs ds → (∀ v ∈ vs, ∀ a, v = .ref a → H a = none) → Q (.ref p) H1) : tLst ta σ H Q :=
  h H _ fun vs H1 s1 d1 n1 => ⟨by rw [d1.length]; exact Nat.le_trans hl (by decide), fun p hp => k p vs _ (s1.free hp) (s1.trans (fun b o e => by rw [upd_ne (ne_of_none e hp)]; exact e)) upd_same (d1.same fun b o e => by rw [upd_ne (ne_of_none e hp)]; exact e) n1⟩
theorem st_evds {i : Nat} {u : TS} {D : Ends} {H : Hp} (h : EvDs ta σ ds) (hl : ds.length ≤ 10000) (k : ∀ p vs H1, H p = none → Same H H1 → H1 p = some (.lst vs) → DtAll H1 vs ds → (∀ v ∈ vs, ∀ a, v = .ref a → H a = none) → u D (σ.set i (some (.ref p))) H1) :
    tSeq (tAsg (tLst ta) (gName i)) u D σ H := by
  show tLst ta σ H (fun x H1 => u D (σ.set i (some x)) H1)
  exact lst_evds h hl k
theorem op_evds {r : R2} {H : Hp} {Q : VK} {x : V} {i : Nat} (hi : σ[i]? = some (some x)) (h : EvDs ta σ ds) (hl : ds.length ≤ 10000) (k : ∀ p vs H1, H p = none → Same H H1 → H1 p = some (.lst vs) → DtAll H1 vs ds → (∀ v ∈ vs, ∀ a, v = .ref a → H a = none) → r x (.ref p) H1 Q) :
    tOp r (tVar i) (tLst ta) σ H Q := ⟨x, hi, lst_evds h hl k⟩
end
end VK

namespace VK
open PySem PySem.VK PySem.Spec PyProof.Rows L2
/-! ## many errors -/
def XOk (K : PySem.W.Frag) (C : Addr) : Prop := ∃ (P : Program) (B i newId : String) (bmB : List Value), XCls P K B i newId bmB C
def tXatA (K : PySem.W.Frag) (x : Str) (te : TE) : TE := fun σ H Q => te σ H fun z H1 => ∃ a C d v, z = .ref a ∧ H1 a = some (exS a C (some d)) ∧ H1 d = some (.xd [(x, v)]) ∧ XOk K C ∧ PySem.W.findIn K (.ref C) x = some none ∧ Q v H1
section
variable {X : Cx} {x : Str} {pos : Pos}
theorem pe_xatA {e : Expr} {te : TE} (he : PE X e te) (hb : attributeBase e x X.env (eval e X.env) = eval e X.env := by rfl) : PE X (.Attribute e x pos) (tXatA X.K x te) := by
  refine ⟨fun pins s σ H Q I h => ?_⟩
  refine attr_of hb (thn (he.run pins s σ H _ I h) fun u s1 hh => ?_)
  obtain ⟨z, H1, I1, rx, a, C, d, v, rfl, ea, ed, ⟨P, B, i, newId, bmB, T⟩, hno, q⟩ := hh
  obtain rfl : u = Value.ref a := rx
  obtain ⟨t, ho⟩ := exS_at I1.hok ea
  have hx : ObjOk X.prog X.w H1 s1.heap d (.xd [(x, v)]) := I1.hok d _ ed
  obtain ⟨mA, hns, hr⟩ := hx
  obtain ⟨od, hod, hl⟩ := lookIn_ns hns
  have l : List.lookup x [(x, v)] = some v := by rw [List.lookup_cons, beq_self_eq_true]
  obtain ⟨u, hu, ru⟩ := RelO.some_of (v := v) (o := mA x) (by rw [← l]; exact hr x)
  have J : PySem.W.InstAt s1.heap a (PySem.W.excObj C t (some d) .none) C (some od) := ⟨ho, rfl, rfl, hod⟩
  exact PySem.PX.exc_get I1.kIn J T.gat T.gga T.sBE (PySem.W.findObj_own T.hsd hno rfl (by rw [hl, hu])) (handed_of ru) ⟨v, H1, I1.tok _, ru, q⟩
/-- text * 0, text * 1 -/
theorem op_repS : OpR X (binaryOp .Mult) (fun x y H Q => ∃ (z : Str) (b : Bool), x = .str z ∧ y = .int (if b then 1 else 0) ∧ Q (.str (if b then z else Str.empty)) H) := by
  intro pins s σ H x y v u Q I rx ry h
  obtain ⟨z, b, rfl, rfl, q⟩ := h
  obtain ⟨t, rfl⟩ := rx
  obtain ⟨t', rfl⟩ := ry
  cases b with
  | false => exact PySem.P.mul_str_none (by decide) (by decide) ⟨.str _, H, I.tok _, ⟨_, rfl⟩, q⟩
  | true => exact PySem.P.mul_str (by decide) (fun _ h2 => absurd h2 (by simp)) (fun _ h2 => absurd h2 (by simp)) (by
      rw [if_neg (by decide), if_pos (by simp)]
      exact ⟨.str _, H, I, ⟨_, rfl⟩, q⟩)
end
/-- an error at e, of the class C, with the field x of value v, or none -/
def ErrAt (H : Hp) (v : V) (e C : Addr) : Option Str → Prop
  | some x => ∃ d, H e = some (exS e C (some d)) ∧ H d = some (.xd [(x, v)])
  | none => H e = some (exS e C none)
theorem ErrAt.same {H H' : Hp} {v : V} {e C : Addr} {x : Option Str} (s : Same H H') (h : ErrAt H v e C x) : ErrAt H' v e C x := by
  cases x with
  | some x =>
    obtain ⟨d, h1, h2⟩ := h
    exact ⟨d, s _ _ h1, s _ _ h2⟩
  | none => exact s _ _ h
abbrev Errs (H : Hp) (v : V) : List Addr → List (Addr × Option Str) → Prop := Paired fun e s => ErrAt H v e s.1 s.2
theorem Errs.same {H H' : Hp} {v : V} {es : List Addr} {sp : List (Addr × Option Str)} (s : Same H H') (h : Errs H v es sp) : Errs H' v es sp := Paired.mapP h fun _ _ q => q.same s
theorem Errs.append {H : Hp} {v : V} : ∀ {es fs : List Addr} {sp sq : List (Addr × Option Str)}, Errs H v es sp → Errs H v fs sq → Errs H v (es ++ fs) (sp ++ sq)
  | _, _, _, _, .nil, h => h
  | _, _, _, _, .cons a t, h => .cons a (Errs.append t h)
theorem Errs.len {H : Hp} {v : V} {es : List Addr} {sp : List (Addr × Option Str)} (h : Errs H v es sp) : es.length = sp.length := Paired.length h
theorem Errs.at_ {H : Hp} {v : V} : ∀ {es : List Addr} {sp : List (Addr × Option Str)} (k : Nat) {s : Addr × Option Str}, Errs H v es sp → sp[k]? = some s → ∃ e, es[k]? = some e ∧ ErrAt H v e s.1 s.2
  | _, _, k, _, .nil, e => by simp at e
  | _, _, 0, _, .cons a _, e => by
    simp only [List.getElem?_cons_zero, Option.some.injEq] at e
    subst e
    exact ⟨_, rfl, a⟩
  | _, _, k + 1, _, .cons _ t, e => by
    obtain ⟨e', h1, h2⟩ := Errs.at_ k t (by simpa using e)
    exact ⟨e', by simpa using h1, h2⟩
theorem new_same {H : Hp} {p : Addr} {o : HO} (h : H p = none) : Same H (upd H p o) := fun b u z => by rw [upd_ne (ne_of_none z h)]; exact z
def EvXs (ta : TA) (σ : L2.St) (v : V) (sp : List (Addr × Option Str)) : Prop := ∀ H Q, (∀ es H1, Same H H1 → Errs H1 v es sp → Q (es.map V.ref) H1) → ta σ H Q
section
variable {σ : L2.St} {ta : TA} {v : V} {sp : List (Addr × Option Str)} {C : Addr} {x : Str} {i : Nat}
theorem xs_nil : EvXs tNil σ v [] := fun H _ k => k [] H (Same.refl H) .nil
theorem xs_mk1 (hv : σ[i]? = some (some v)) (h : EvXs ta σ v sp) : EvXs (tCons (tMk1 C x (tVar i)) ta) σ v ((C, some x) :: sp) := fun H Q k => ⟨v, hv, fun a d ha hd hne => by
  have s1 : Same H (upd (upd H d (.xd [(x, v)])) a (exS a C (some d))) := fun b o e => by rw [upd_ne (ne_of_none e ha), upd_ne (ne_of_none e hd)]; exact e
  refine h _ _ fun es H1 s2 r => k (a :: es) H1 (s1.trans s2) (.cons ⟨d, s2 _ _ upd_same, s2 _ _ ?_⟩ r)
  rw [upd_ne hne]
  exact upd_same⟩
theorem xs_mk0 (h : EvXs ta σ v sp) : EvXs (tCons (tMk0 C) ta) σ v ((C, none) :: sp) := fun H Q k a ha =>
  h _ _ fun es H1 s2 r => k (a :: es) H1 ((new_same ha).trans s2) (.cons (s2 _ _ upd_same) r)
theorem lst_xs {H : Hp} {Q : VK} (h : EvXs ta σ v sp) (hl : sp.length ≤ 10000) (k : ∀ p es H1, Same H H1 → H1 p = some (.lst (es.map V.ref)) → Errs H1 v es sp → Q (.ref p) H1) : tLst ta σ H Q :=
  h H _ fun es H1 s1 r => ⟨by rw [List.length_map, r.len]; exact Nat.le_trans hl (by decide), fun p hp => k p es _ (s1.trans (fun b o e => by rw [upd_ne (ne_of_none e hp)]; exact e)) upd_same (r.same fun b o e => by rw [upd_ne (ne_of_none e hp)]; exact e)⟩
theorem st_xs {u : TS} {D : Ends} {H : Hp} (h : EvXs ta σ v sp) (hl : sp.length ≤ 10000) (k : ∀ p es H1, Same H H1 → H1 p = some (.lst (es.map V.ref)) → Errs H1 v es sp → u D (σ.set i (some (.ref p))) H1) : tSeq (tAsg (tLst ta) (gName i)) u D σ H := by
  show tLst ta σ H (fun x H1 => u D (σ.set i (some x)) H1)
  exact lst_xs h hl k
theorem cat_xs {H : Hp} {Q : VK} {L : Addr} {es : List Addr} {sq : List (Addr × Option Str)} (hi : σ[i]? = some (some (.ref L))) (hL : H L = some (.lst (es.map V.ref))) (hE : Errs H v es sp) (hs : sp.length ≤ 10000) (h : EvXs ta σ v sq) (hl : sq.length ≤ 10000)
    (k : ∀ p fs H1, Same H H1 → H1 p = some (.lst (fs.map V.ref)) → Errs H1 v fs (sp ++ sq) → Q (.ref p) H1) : tOp rCat (tVar i) (tLst ta) σ H Q := ⟨_, hi, lst_xs h hl fun p fs H1 s1 hp r => by
  refine ⟨L, p, _, _, rfl, rfl, s1 _ _ hL, hp, ?_, fun q hq => ?_⟩
  · rw [List.length_map, List.length_map, hE.len, r.len]
    exact Nat.le_trans (Nat.add_le_add hs hl) (by decide)
  · have s2 : Same H1 (upd H1 q (.lst (es.map V.ref ++ fs.map V.ref))) := fun b o e => by rw [upd_ne (ne_of_none e hq)]; exact e
    refine k q (es ++ fs) _ (s1.trans s2) ?_ (Errs.append (hE.same (s1.trans s2)) (r.same s2))
    rw [List.map_append]
    exact upd_same⟩
theorem st_catxs {u : TS} {D : Ends} {H : Hp} {j : Nat} {L : Addr} {es : List Addr} {sq : List (Addr × Option Str)} (hi : σ[i]? = some (some (.ref L))) (hL : H L = some (.lst (es.map V.ref))) (hE : Errs H v es sp) (hs : sp.length ≤ 10000) (h : EvXs ta σ v sq) (hl : sq.length ≤ 10000)
    (k : ∀ p fs H1, Same H H1 → H1 p = some (.lst (fs.map V.ref)) → Errs H1 v fs (sp ++ sq) → u D (σ.set j (some (.ref p))) H1) : tSeq (tAsg (tOp rCat (tVar i) (tLst ta)) (gName j)) u D σ H := by
  show tOp rCat (tVar i) (tLst ta) σ H (fun x H1 => u D (σ.set j (some x)) H1)
  exact cat_xs hi hL hE hs h hl k
end
end VK

namespace VK
open PySem PySem.Spec PyProof.Rows L2
def topS (i : Nat) : Stmt := PySem.Challenge.pw_echofold_k93_errors_made_by_their_fields.main.body.getD i (.Pass ⟨0, 0, 0, 0⟩)
abbrev sPen : Stmt := topS 21
abbrev sDraw : Stmt := topS 22
/-! ## the pen -/
def penK (c : Addr) (t r : Int) : List (Key × V) := [(Sum.inr "cells", .ref c), (Sum.inr "turn", .int t), (Sum.inr "rest", .int r)]
structure PenAt (H : Hp) (p c : Addr) (ns : List Int) (t r : Int) : Prop where
  d : H p = some (.dK (penK c t r))
  l : H c = some (.lst (ns.map V.int))
theorem pen_cells (c : Addr) (t r : Int) : valV (penK c t r) (Sum.inr "cells") = some (.ref c) := rfl
theorem pen_turn (c : Addr) (t r : Int) : valV (penK c t r) (Sum.inr "turn") = some (.int t) := rfl
theorem pen_rest (c : Addr) (t r : Int) : valV (penK c t r) (Sum.inr "rest") = some (.int r) := rfl
theorem pen_put_turn (c : Addr) (t r t' : Int) : putK (penK c t r) (Sum.inr "turn") (.int t') = penK c t' r := rfl
theorem pen_put_rest (c : Addr) (t r r' : Int) : putK (penK c t r) (Sum.inr "rest") (.int r') = penK c t r' := rfl
theorem PenAt.g_cells {H : Hp} {p c : Addr} {ns : List Int} {t r : Int} (h : PenAt H p c ns t r) : DGet H p (.str "cells") (some (.ref c)) := DGet.k (k := Sum.inr "cells") h.d
theorem PenAt.g_turn {H : Hp} {p c : Addr} {ns : List Int} {t r : Int} (h : PenAt H p c ns t r) : DGet H p (.str "turn") (some (.int t)) := DGet.k (k := Sum.inr "turn") h.d
theorem PenAt.g_rest {H : Hp} {p c : Addr} {ns : List Int} {t r : Int} (h : PenAt H p c ns t r) : DGet H p (.str "rest") (some (.int r)) := DGet.k (k := Sum.inr "rest") h.d
theorem PenAt.p_turn {H : Hp} {p c : Addr} {ns : List Int} {t r : Int} (t' : Int) (h : PenAt H p c ns t r) : DPut H p (.str "turn") (.int t') (upd H p (.dK (penK c t' r))) := DPut.k (k := Sum.inr "turn") h.d (by show 3 < sizeLine; decide)
theorem PenAt.p_rest {H : Hp} {p c : Addr} {ns : List Int} {t r : Int} (r' : Int) (h : PenAt H p c ns t r) : DPut H p (.str "rest") (.int r') (upd H p (.dK (penK c t r'))) := DPut.k (k := Sum.inr "rest") h.d (by show 3 < sizeLine; decide)
theorem PenAt.ne {H : Hp} {p c : Addr} {ns : List Int} {t r : Int} (h : PenAt H p c ns t r) : c ≠ p := ne_of h.l h.d (by intro z; cases z)
theorem PenAt.upd {H : Hp} {p c : Addr} {ns : List Int} {t r : Int} (t' r' : Int) (h : PenAt H p c ns t r) : PenAt (upd H p (.dK (penK c t' r'))) p c ns t' r' := ⟨upd_same, by rw [upd_ne h.ne]; exact h.l⟩
structure PenT (mg : Str → Option Value) : Prop where
  n_list : mg "list" = none
  n_int : mg "int" = none
  n_len : mg "len" = none
  n_abs : mg "abs" = none
/-- pen(script) -/
def spPen (K : PySem.W.Frag) : Sp := fun vs H Q _ => ∃ (a : Addr) (ns : List Int), vs = [.ref a] ∧ SqL K H a (ns.map V.int) ∧ ns.length ≤ 63 ∧ ∀ p c H', H p = none → H c = none → PenAt H' p c ns 0 0 → Same H H' → Q (.ref p) H'
/-- draw(pen, size) -/
def spDraw : Sp := fun vs H Q _ => ∃ (p c : Addr) (ns : List Int) (t r z : Int), vs = [.ref p, .int z] ∧ PenAt H p c ns t r ∧ ns.length ≤ 63 ∧ 0 ≤ t ∧ t < 1000000000 ∧ 0 ≤ r ∧ 0 < z ∧ z < 1000000000000 ∧
  ∀ (i t' r' : Int) (H' : Hp), 0 ≤ i → i < z → t ≤ t' → t' ≤ t + 1 → 0 ≤ r' → PenAt H' p c ns t' r' → (∀ b o, H b = some o → b ≠ p → H' b = some o) → Q (.int i) H'
theorem same_new {H : Hp} {p : Addr} {o : HO} (h : H p = none) : Same H (upd H p o) := fun b u z => by
  rw [upd_ne (ne_of_none z h)]
  exact z
theorem cut63 {xs : List V} (h : xs.length ≤ 63) : cutV xs none (some 63) = xs := by
  unfold cutV
  show (xs.drop (HT.sIx xs.length 0 none)).take (HT.sIx xs.length xs.length (some 63) - HT.sIx xs.length 0 none) = xs
  have e0 : HT.sIx xs.length 0 none = 0 := rfl
  have e1 : HT.sIx xs.length xs.length (some 63) = xs.length := by
    unfold HT.sIx
    simp
    omega
  rw [e0, e1]
  simp
theorem div_ok {i z : Int} (h0 : 0 < z) (h1 : z < 1000000000000) : CDivW i z := wide_div (b := 40) h0 (by omega) (by omega) (by omega)
theorem dpAll_int {K : PySem.W.Frag} {H : Hp} : ∀ ns : List Int, DpAll K H (ns.map V.int) (ns.map PyData.int)
  | [] => .nil
  | n :: ns => .cons (.int n) (dpAll_int ns)
theorem shaped_int (ns : List Int) : SeqAt.shaped (.list (ns.map PyData.int)) = true := PySem.W.ke_shaped_ints ns
theorem at_mod (ns : List Int) (t : Int) (h : (0 : Int) < ((ns.map V.int).length : Int)) : ∃ v, atI (ns.map V.int) (t % ((ns.map V.int).length : Int)) = some (.int v) := by
  have h1 := Int.emod_nonneg t (show ((ns.map V.int).length : Int) ≠ 0 by omega)
  have h2 := Int.emod_lt_of_pos t h
  obtain ⟨j, hj⟩ : ∃ j : Nat, t % ((ns.map V.int).length : Int) = (j : Int) := ⟨(t % ((ns.map V.int).length : Int)).toNat, by omega⟩
  rw [hj] at h2 ⊢
  rw [List.length_map] at h2
  have hjl : j < ns.length := by omega
  refine ⟨ns[j], atI_nat ?_⟩
  rw [List.getElem?_map, List.getElem?_eq_getElem hjl]
  rfl
theorem prime_at (t : Int) : ∃ v : Int, atI [V.int 2147483629, .int 2147483647, .int 2147483563, .int 2147483587, .int 2147483579] (t % 5) = some (.int v) ∧ 0 < v ∧ v ≤ 2147483647 := by
  have h1 := Int.emod_nonneg t (show (5 : Int) ≠ 0 by decide)
  have h2 := Int.emod_lt_of_pos t (show (0 : Int) < 5 by decide)
  have h3 : t % 5 = 0 ∨ t % 5 = 1 ∨ t % 5 = 2 ∨ t % 5 = 3 ∨ t % 5 = 4 := by omega
  rcases h3 with e | e | e | e | e <;> rw [e]
  · exact ⟨_, rfl, by decide, by decide⟩
  · exact ⟨_, rfl, by decide, by decide⟩
  · exact ⟨_, rfl, by decide, by decide⟩
  · exact ⟨_, rfl, by decide, by decide⟩
  · exact ⟨_, rfl, by decide, by decide⟩
section
variable {P : Program} {w : World} {K : PySem.W.Frag} {mg : Str → Option Value} {base : Heap}
theorem scPen : FnScope ["_law_script"] ["_law_script"] (defScope sPen) := ⟨rfl, rfl, rfl, by decide +kernel, rfl, by decide +kernel, by decide +kernel⟩
theorem ok_pen {f : Addr} {fd : FuncData} (F : Fun K "_law_pen" "_law_pen" sPen f fd) (T : PenT mg) : FnOk P w K mg base CX0 1 f fd ["_law_script"] (spPen K) := by
  refine F.ok scPen (fun vs H Q E h => ?_) (fun cdv A outer s H vs Q E hr h => ?_)
  · obtain ⟨a, ns, rfl, _⟩ := h
    rfl
  · obtain ⟨a, ns, rfl, hS, hl, k⟩ := h
    have hu := hu_of hr
    refine ⟨_, (pss_one (ps_ret (pe_disp (pps_cons pe_str (pe_callTy call_list_of (by rfl) T.n_list (by decide +kernel) (pa_cons (pe_slice sl_list (pv 0) po_none (po_some pe_int)) pa_nil)) (pps_cons pe_str pe_int (pps_cons pe_str pe_int pps_nil))) (by rfl) (by rfl) (fun z => by cases z) (by decide)))), ?_⟩
    intro p hp
    have hS1 : SqL K (upd H p (.dK [])) a (ns.map V.int) := (same_new hp).seq hS
    refine ⟨_, rfl, 63, rfl, a, _, rfl, hS1, fun q hq => ?_⟩
    refine ⟨q, _, rfl, Or.inl (SqL.of upd_same), fun l hl1 => ?_⟩
    have e1 : cutV (ns.map V.int) none (some 63) = ns.map V.int := cut63 (by rw [List.length_map]; exact hl)
    rw [e1]
    have npq : p ≠ q := ne_of_none upd_same hq
    have npl : p ≠ l := ne_of_none (show upd (upd H p (.dK [])) q _ p = some _ by rw [upd_ne npq]; exact upd_same) hl1
    have nql : q ≠ l := ne_of_none upd_same hl1
    refine ⟨by rw [upd_ne npl, upd_ne npq]; exact upd_same, [(Sum.inr "cells", .ref l), (Sum.inr "turn", .int 0), (Sum.inr "rest", .int 0)], rfl, by show 3 ≤ 15; decide, ?_⟩
    have hpl : H l = none := by
      rw [upd_ne nql.symm, upd_ne npl.symm] at hl1
      exact hl1
    refine k p l _ hp hpl ⟨upd_same, ?_⟩ fun b o z => ?_
    · rw [upd_ne npl.symm]
      exact upd_same
    · have hq' : H q = none := by
        rw [upd_ne npq.symm] at hq
        exact hq
      rw [upd_ne (ne_of_none z hp), upd_ne (ne_of_none z hpl), upd_ne (ne_of_none z hq'), upd_ne (ne_of_none z hp)]
      exact z
theorem scDraw : FnScope ["_law_pen_here", "_law_size", "_law_digit", "_law_turn", "_law_cell", "_law_primes", "_law_prime", "_law_mixed"] ["_law_pen_here", "_law_size"] (defScope sDraw) := ⟨rfl, rfl, rfl, by decide +kernel, rfl, by decide +kernel, by decide +kernel⟩
theorem ok_draw {f : Addr} {fd : FuncData} (F : Fun K "_law_draw" "_law_draw" sDraw f fd) (T : PenT mg) : FnOk P w K mg base CX0 1 f fd ["_law_pen_here", "_law_size"] spDraw := by
  refine F.ok scDraw (fun vs H Q E h => ?_) (fun cdv A outer s H vs Q E hr h => ?_)
  · obtain ⟨p, c, ns, t, r, z, rfl, _⟩ := h
    rfl
  · obtain ⟨p, c, ns, t, r, z, rfl, pen, hl, ht0, ht1, hr0, hz0, hz1, k⟩ := h
    have hu := hu_of hr
    refine ⟨_, (pss_cons (ps_if (pt_cmpR op_gt (pe_dget hu (pv 0) pe_str (fun _ _ => rfl)) pe_int (nomark _)) (pss_cons (ps_set (i := 2) scDraw.nd rfl (Or.inl rfl) (pe_op op_mod (pe_callTy call_int1 (by rfl) T.n_int (by decide +kernel) (pa_cons (pe_dget hu (pv 0) pe_str (fun _ _ => rfl)) pa_nil)) (pv 1)))
    (pss_cons (ps_dput hu (pv 0) pe_str (pe_op op_fdivW (pe_dget hu (pv 0) pe_str (fun _ _ => rfl)) (pv 1)) rfl)
    (pss_one (ps_ret (pv 2))))) pss_nil)
    (pss_cons (ps_set (i := 3) scDraw.nd rfl (Or.inl rfl) (pe_dget hu (pv 0) pe_str (fun _ _ => rfl)))
    (pss_cons (ps_dput hu (pv 0) pe_str (pe_op op_add (pv 3) pe_int) rfl)
    (pss_cons (ps_set (i := 4) scDraw.nd rfl (Or.inl rfl) (pe_op op_add (pe_op op_mul pe_int (pv 3)) pe_int))
    (Evl.pss_cut (ps_if (pt_cmpR (op_neD hr.units) (pe_dget hu (pv 0) pe_str (fun _ _ => rfl)) (pe_lst pa_nil) (nomark _)) (pss_one (ps_set (i := 4) scDraw.nd rfl (Or.inl rfl) (pe_ix ix_list (pe_dget hu (pv 0) pe_str (fun _ _ => rfl)) (pe_op op_mod (pe_callTy call_int1 (by rfl) T.n_int (by decide +kernel) (pa_cons (pv 3) pa_nil)) (pe_callB call_len_seq (by rfl) T.n_len (by decide +kernel) (pa_cons (pe_dget hu (pv 0) pe_str (fun _ _ => rfl)) pa_nil))) (fun _ _ => rfl)))) pss_nil)
    (Evl.pss_cut (ps_if (PW.pt (pw_and (pt_cmpR op_lt (pv 3) (pe_callB call_len_seq (by rfl) T.n_len (by decide +kernel) (pa_cons (pe_dget hu (pv 0) pe_str (fun _ _ => rfl)) pa_nil)) (nomark _)) (pw_and1 (pt_cmpR op_ge (pe_callB call_abs (by rfl) T.n_abs (by decide +kernel) (pa_cons (pv 4) pa_nil)) (pe_op op_pow pe_int pe_int) (nomark _))))) (pss_cons (ps_dput hu (pv 0) pe_str (pe_op op_fdivW (pe_op op_sub (pe_callB call_abs (by rfl) T.n_abs (by decide +kernel) (pa_cons (pv 4) pa_nil)) (pe_op op_pow pe_int pe_int)) (pv 1)) rfl)
    (pss_one (ps_ret (pe_op op_mod (pe_op op_sub (pe_callB call_abs (by rfl) T.n_abs (by decide +kernel) (pa_cons (pv 4) pa_nil)) (pe_op op_pow pe_int pe_int)) (pv 1))))) pss_nil)
    (pss_cons (ps_set (i := 5) scDraw.nd rfl (Or.inl rfl) (pe_lst (pa_cons pe_int (pa_cons pe_int (pa_cons pe_int (pa_cons pe_int (pa_cons pe_int pa_nil)))))))
    (pss_cons (ps_set (i := 6) scDraw.nd rfl (Or.inl rfl) (pe_ix ix_list (pv 5) (pe_op op_mod (pe_callTy call_int1 (by rfl) T.n_int (by decide +kernel) (pa_cons (pv 3) pa_nil)) pe_int) (fun _ _ => rfl)))
    (pss_cons (ps_set (i := 7) scDraw.nd rfl (Or.inl rfl) (pe_op op_add (pe_op op_add (pe_op op_add (pe_op op_mul (pe_op op_mod (pe_callTy call_int1 (by rfl) T.n_int (by decide +kernel) (pa_cons (pv 4) pa_nil)) pe_int) pe_int) (pe_op op_mul (pe_op op_mul pe_int (pv 3)) (pv 3))) (pe_op op_mul pe_int (pv 3))) pe_int))
    (pss_cons (ps_set (i := 7) scDraw.nd rfl (Or.inl rfl) (pe_op op_mod (pe_callTy call_int1 (by rfl) T.n_int (by decide +kernel) (pa_cons (pv 7) pa_nil)) (pv 6)))
    (pss_cons (ps_set (i := 7) scDraw.nd rfl (Or.inl rfl) (pe_op op_mod (pe_callTy call_int1 (by rfl) T.n_int (by decide +kernel) (pa_cons (pe_op op_add (pe_op op_add (pe_op op_add (pe_op op_mul (pv 7) (pv 7)) (pe_op op_mul pe_int (pv 7))) (pe_op op_mul pe_int (pv 3))) pe_int) pa_nil)) pe_int))
    (pss_one (ps_ret (pe_op op_mod (pe_callTy call_int1 (by rfl) T.n_int (by decide +kernel) (pa_cons (pe_op op_fdiv (pe_op op_mod (pe_callTy call_int1 (by rfl) T.n_int (by decide +kernel) (pa_cons (pe_op op_mul (pv 7) (pe_op op_add (pv 7) pe_int)) pa_nil)) pe_int) pe_int) pa_nil)) (pv 1))))))))))))))), ?_⟩
    refine ⟨_, rfl, p, _, rfl, pen.g_rest, _, _, rfl, rfl, _, rfl, ?_⟩
    refine ite2 (fun c0 => ?_) (fun c0 => ?_)
    · have c1 : 0 < r := of_decide_eq_true c0
      refine ⟨_, rfl, p, _, rfl, pen.g_rest, .inl ⟨_, rfl, _, rfl, _, _, rfl, rfl, hz0, ?_⟩⟩
      refine ⟨_, rfl, p, _, rfl, pen.g_rest, _, rfl, _, _, rfl, rfl, div_ok hz0 hz1, _, rfl, p, _, rfl, pen.p_rest _, _, rfl, ?_⟩
      exact k (r % z) t (r / z) _ (Int.emod_nonneg _ (by omega)) (Int.emod_lt_of_pos _ hz0) (by omega) (by omega) (Int.ediv_nonneg hr0 (by omega)) (pen.upd _ _) fun b o e hb => by
        rw [upd_ne hb]
        exact e
    · refine ⟨_, rfl, p, _, rfl, pen.g_turn, ?_⟩
      refine ⟨_, rfl, _, _, rfl, rfl, _, rfl, p, _, rfl, pen.p_turn _, ?_⟩
      have pen1 := pen.upd (t + 1) r
      have kp1 : ∀ b o, H b = some o → b ≠ p → upd H p (.dK (penK c (t + 1) r)) b = some o := fun b o e hb => by
        rw [upd_ne hb]
        exact e
      generalize upd H p (.dK (penK c (t + 1) r)) = H1 at pen1 kp1
      refine ⟨_, rfl, _, _, rfl, rfl, .inl ⟨by decide, by decide⟩, _, _, rfl, rfl, ?_⟩
      -- the cell
      refine ⟨fun σ' H' => ∃ cell : Int, σ' = [some (.ref p), some (.int z), none, some (.int t), some (.int cell), none, none, none] ∧ PenAt H' p c ns (t + 1) r ∧ (∀ b o, H b = some o → b ≠ p → H' b = some o), ?_, ?_⟩
      · refine ⟨_, rfl, p, _, rfl, pen1.g_cells, by show 0 ≤ sizeLine; decide, fun q hq => ?_⟩
        have pen2 : PenAt (upd H1 q (.lst [])) p c ns (t + 1) r := ⟨by rw [upd_ne (ne_of_none pen1.d hq)]; exact pen1.d, by rw [upd_ne (ne_of_none pen1.l hq)]; exact pen1.l⟩
        have kp2 : ∀ b o, H b = some o → b ≠ p → upd H1 q (.lst []) b = some o := fun b o e hb => by
          rw [upd_ne (ne_of_none (kp1 b o e hb) hq)]
          exact kp1 b o e hb
        refine ⟨.list (ns.map .int), .list [], .lst (SqL.of pen2.l) (dpAll_int ns), .lst (SqL.of upd_same) .nil, shaped_int ns, by decide, _, rfl, ?_⟩
        cases ns with
        | nil =>
          refine iteF ?_
          exact ⟨_, rfl, pen2, kp2⟩
        | cons n0 nr =>
          refine iteT ?_
          have hlen : (0 : Int) < (((n0 :: nr).map V.int).length : Int) := by rw [List.length_map, List.length_cons]; omega
          obtain ⟨v, hv⟩ := at_mod (n0 :: nr) t hlen
          refine ⟨_, rfl, p, _, rfl, pen2.g_cells, _, rfl, .inl ⟨_, rfl, _, rfl, p, _, rfl, pen2.g_cells, c, _, rfl, .inl (SqL.of pen2.l), _, _, rfl, rfl, hlen, c, _, _, _, rfl, rfl, SqL.of pen2.l, hv, ?_⟩⟩
          exact ⟨v, rfl, pen2, kp2⟩
      · rintro σ' H2 ⟨cell, rfl, pen2, kp2⟩
        have hn : (((ns.map V.int).length : Nat) : Int) ≤ 63 := by rw [List.length_map]; omega
        refine ⟨fun σ' H' => σ' = [some (.ref p), some (.int z), none, some (.int t), some (.int cell), none, none, none] ∧ PenAt H' p c ns (t + 1) r ∧ (∀ b o, H b = some o → b ≠ p → H' b = some o), ?_, ?_⟩
        · refine ⟨_, rfl, _, rfl, p, _, rfl, pen2.g_cells, c, _, rfl, .inl (SqL.of pen2.l), _, _, rfl, rfl, _, rfl, ?_⟩
          refine ite2 (fun _ => ?_) (fun _ => iteF ⟨rfl, pen2, kp2⟩)
          refine ⟨_, rfl, _, rfl, _, _, rfl, rfl, ⟨by decide, by decide, by decide⟩, _, _, rfl, rfl, _, rfl, ?_⟩
          refine ite2 (fun c2 => ?_) (fun _ => ⟨rfl, pen2, kp2⟩)
          have c3 : (10 : Int) ^ (18 : Int).toNat ≤ (if cell < 0 then -cell else cell) := of_decide_eq_true c2
          refine ⟨_, rfl, _, rfl, _, _, rfl, rfl, ⟨by decide, by decide, by decide⟩, _, _, rfl, rfl, _, rfl, _, _, rfl, rfl, div_ok hz0 hz1, _, rfl, p, _, rfl, pen2.p_rest _, ?_⟩
          refine ⟨_, rfl, _, rfl, _, _, rfl, rfl, ⟨by decide, by decide, by decide⟩, _, _, rfl, rfl, _, rfl, _, _, rfl, rfl, hz0, ?_⟩
          refine k _ (t + 1) _ _ (Int.emod_nonneg _ (by omega)) (Int.emod_lt_of_pos _ hz0) (by omega) (by omega) (Int.ediv_nonneg (by omega) (by omega)) (pen2.upd _ _) fun b o e hb => ?_
          rw [upd_ne hb]
          exact kp2 b o e hb
        · rintro σ' H3 ⟨rfl, pen3, kp3⟩
          refine ⟨by show 5 ≤ sizeLine; decide, fun q hq => ?_⟩
          obtain ⟨v, hv, v0, v1⟩ := prime_at t
          have kp4 : ∀ b o, H b = some o → b ≠ p → upd H3 q (.lst [.int 2147483629, .int 2147483647, .int 2147483563, .int 2147483587, .int 2147483579]) b = some o := fun b o e hb => by
            rw [upd_ne (ne_of_none (kp3 b o e hb) hq)]
            exact kp3 b o e hb
          have pen4 : PenAt (upd H3 q (.lst [.int 2147483629, .int 2147483647, .int 2147483563, .int 2147483587, .int 2147483579])) p c ns (t + 1) r := ⟨by rw [upd_ne (ne_of_none pen3.d hq)]; exact pen3.d, by rw [upd_ne (ne_of_none pen3.l hq)]; exact pen3.l⟩
          refine ⟨_, rfl, _, rfl, .inl ⟨_, rfl, _, _, rfl, rfl, by show (0 : Int) < 5; decide, q, _, _, _, rfl, rfl, SqL.of upd_same, hv, ?_⟩⟩
          have a0 := Int.emod_nonneg cell (show (4294967279 : Int) ≠ 0 by decide)
          have a1 := Int.emod_lt_of_pos cell (show (0 : Int) < 4294967279 by decide)
          refine ⟨_, rfl, .inl ⟨_, rfl, _, _, rfl, rfl, by show (0 : Int) < 4294967279; decide, _, _, rfl, rfl, .inr ⟨by decide, by decide⟩, ?_⟩⟩
          refine ⟨_, rfl, _, _, rfl, rfl, .inl ⟨by decide, by decide⟩, _, rfl, _, _, rfl, rfl, .inr ⟨by omega, by omega⟩, _, _, rfl, rfl, ?_⟩
          refine ⟨_, rfl, _, _, rfl, rfl, .inl ⟨by decide, by decide⟩, _, _, rfl, rfl, _, _, rfl, rfl, ?_⟩
          -- below the prime
          refine ⟨_, rfl, .inl ⟨_, rfl, _, rfl, _, _, rfl, rfl, v0, ?_⟩⟩
          generalize hm : (cell % 4294967279 * 69621 + 50021 * t * t + 48271 * t + 19) % v = m
          have m0 : 0 ≤ m := by rw [← hm]; exact Int.emod_nonneg _ (by omega)
          have m1 : m < 2147483647 := by
            rw [← hm]
            have := Int.emod_lt_of_pos (cell % 4294967279 * 69621 + 50021 * t * t + 48271 * t + 19) v0
            omega
          refine ⟨_, rfl, _, rfl, _, _, rfl, rfl, .inl ⟨by omega, by omega⟩, _, rfl, _, _, rfl, rfl, .inl ⟨by decide, by decide⟩, _, _, rfl, rfl, _, rfl, _, _, rfl, rfl, .inl ⟨by decide, by decide⟩, _, _, rfl, rfl, _, _, rfl, rfl, ?_⟩
          refine .inl ⟨_, rfl, _, _, rfl, rfl, by show (0 : Int) < 4294967231; decide, ?_⟩
          generalize hl : (m * m + 40692 * m + 11 * t + 3) % 4294967231 = l
          have l0 : 0 ≤ l := by rw [← hl]; exact Int.emod_nonneg _ (by decide)
          have l1 : l < 4294967231 := by rw [← hl]; exact Int.emod_lt_of_pos _ (by decide)
          refine ⟨_, rfl, _, rfl, _, _, rfl, rfl, _, _, rfl, rfl, .inl ⟨by omega, by omega⟩, .inl ⟨_, rfl, _, _, rfl, rfl, by show (0 : Int) < 4294967197; decide, _, _, rfl, rfl, ⟨by decide, by decide⟩, .inl ⟨_, rfl, _, rfl, _, _, rfl, rfl, hz0, ?_⟩⟩⟩
          exact k _ (t + 1) r _ (Int.emod_nonneg _ (by omega)) (Int.emod_lt_of_pos _ hz0) (by omega) (by omega) hr0 pen4 kp4
end

/-! ## pick -/
abbrev sPick : Stmt := topS 23
def spPick : Sp := fun vs H Q _ => ∃ (p c o : Addr) (ns : List Int) (t r : Int) (xs : List V), vs = [.ref p, .ref o] ∧ PenAt H p c ns t r ∧ ns.length ≤ 63 ∧ 0 ≤ t ∧ t < 1000000000 ∧ 0 ≤ r ∧ H o = some (.lst xs) ∧ 0 < xs.length ∧ xs.length ≤ 1000 ∧
  ∀ (v : V) (t' r' : Int) (H' : Hp), v ∈ xs → t ≤ t' → t' ≤ t + 1 → 0 ≤ r' → PenAt H' p c ns t' r' → (∀ b o, H b = some o → b ≠ p → H' b = some o) → Q v H'
section
variable {P : Program} {w : World} {K : PySem.W.Frag} {mg : Str → Option Value} {base : Heap}
theorem scPick : FnScope ["_law_pen_here", "_law_options"] ["_law_pen_here", "_law_options"] (defScope sPick) := ⟨rfl, rfl, rfl, by decide +kernel, rfl, by decide +kernel, by decide +kernel⟩
theorem ok_pick {f fD : Addr} {fd fdD : FuncData} (F : Fun K "_law_pick" "_law_pick" sPick f fd) (T : PenT mg) (FD : Fun K "_law_draw" "_law_draw" sDraw fD fdD) (bD : Binds K fdD ["_law_pen_here", "_law_size"] [])
    (gD : mg "_law_draw" = some (.ref fD)) (kD : PySem.W.keepIn K (.ref fD) = true) : FnOk P w K mg base CX0 2 f fd ["_law_pen_here", "_law_options"] spPick := by
  have G : FnOk P w K mg base CX0 1 fD fdD ["_law_pen_here", "_law_size"] spDraw := ok_draw FD T
  refine F.ok scPick (fun vs H Q E h => ?_) (fun cdv A outer s H vs Q E hr h => ?_)
  · obtain ⟨p, c, o, ns, t, r, xs, rfl, _⟩ := h
    rfl
  · obtain ⟨p, c, o, ns, t, r, xs, rfl, pen, hl, h0, h1, hr0, ho, hx0, hx1, k⟩ := h
    have hr1 : Room 1 _ := hr.mono (by decide)
    refine ⟨_, (pss_one (ps_ret (pe_ix ix_list (pv 1) (pe_call G hr1 rfl gD kD bD .nil pass0 (pa_cons (pv 0) (pa_cons (pe_callB call_len_seq (by rfl) T.n_len (by decide +kernel) (pa_cons (pv 1) pa_nil)) pa_nil))) (fun _ _ => rfl)))), ?_⟩
    refine ⟨_, rfl, _, rfl, _, rfl, o, _, rfl, .inl (SqL.of ho), p, c, ns, t, r, _, rfl, pen, hl, h0, h1, hr0, by omega, by omega, fun i t' r' H' i0 i1 t0 t1 r0 pen' kp => ?_⟩
    have hop : o ≠ p := ne_of ho pen.d (by intro z; cases z)
    have ho' := kp o _ ho hop
    obtain ⟨j, hj⟩ : ∃ j : Nat, i = (j : Int) := ⟨i.toNat, by omega⟩
    subst hj
    have hjl : j < xs.length := by omega
    refine ⟨o, xs, _, xs[j], rfl, rfl, SqL.of ho', atI_nat (List.getElem?_eq_getElem hjl), ?_⟩
    exact k _ t' r' H' (List.getElem_mem hjl) t0 t1 r0 pen' kp
end

/-! ## any -/
abbrev sAny : Stmt := topS 24
def menuA : List PyData := [.none, .bool true, .bool false, .int 0, .int 1, .int (-1), .int 7, .int (10 ^ (30 : Int).toNat), .str "", .str "a", .str "0 1", .tuple [], .tuple [.int 0], .tuple [.int 0, .int 1], .tuple [.tuple [.int 0, .int 1], .tuple [.int 1, .int 0]], .list [], .list [.int 0], .dict []]
def menuB : List PyData := [.list [.list [.none]], .list [.list [.int 0, .int 1]], .dict [(.int 0, .int 1)], .tuple [.int 1, .tuple [.int 0]], .list [.list [.int 0, .int 1], .list [.int 1]], .str "-", .list [.tuple [], .tuple []], .tuple [.none, .none]]
/-- a value of any kind out of the menu, new where it is an object -/
def spAny : Sp := fun vs H Q _ => ∃ (p c : Addr) (ns : List Int) (t r : Int), vs = [.ref p] ∧ PenAt H p c ns t r ∧ ns.length ≤ 63 ∧ 0 ≤ t ∧ t < 1000000000 ∧ 0 ≤ r ∧
  ∀ (v : V) (d : PyData) (t' r' : Int) (H' : Hp), d ∈ menuA ++ menuB → Dt H' v d → (∀ a, v = .ref a → H a = none) → t ≤ t' → t' ≤ t + 1 → 0 ≤ r' → PenAt H' p c ns t' r' → (∀ b o, H b = some o → b ≠ p → H' b = some o) → Q v H'
section
variable {P : Program} {w : World} {K : PySem.W.Frag} {mg : Str → Option Value} {base : Heap}
theorem scAny : FnScope ["_law_pen_here", "_law_some"] ["_law_pen_here"] (defScope sAny) := ⟨rfl, rfl, rfl, by decide +kernel, rfl, by decide +kernel, by decide +kernel⟩
theorem ok_any {f fD : Addr} {fd fdD : FuncData} (F : Fun K "_law_any" "_law_any" sAny f fd) (G : FnOk P w K mg base CX0 2 fD fdD ["_law_pen_here", "_law_options"] spPick) (bP : Binds K fdD ["_law_pen_here", "_law_options"] [])
    (gP : mg "_law_pick" = some (.ref fD)) (kP : PySem.W.keepIn K (.ref fD) = true) : FnOk P w K mg base CX0 3 f fd ["_law_pen_here"] spAny := by
  refine F.ok scAny (fun vs H Q E h => ?_) (fun cdv A outer s H vs Q E hr h => ?_)
  · obtain ⟨p, c, ns, t, r, rfl, _⟩ := h
    rfl
  · obtain ⟨p, c, ns, t, r, rfl, pen, hl, h0, h1, hr0, k⟩ := h
    have hr1 : Room 2 _ := hr.mono (by decide)
    refine ⟨_, (pss_cons (ps_set (i := 1) scAny.nd rfl (Or.inl rfl) (pe_lst (pa_cons pe_non (pa_cons pe_bl (pa_cons pe_bl (pa_cons pe_int (pa_cons pe_int (pa_cons (pe_un un_neg pe_int) (pa_cons pe_int (pa_cons (pe_op op_pow pe_int pe_int) (pa_cons pe_str (pa_cons pe_str (pa_cons pe_str (pa_cons (pe_tup pa_nil) (pa_cons (pe_tup (pa_cons pe_int pa_nil)) (pa_cons (pe_tup (pa_cons pe_int (pa_cons pe_int pa_nil))) (pa_cons (pe_tup (pa_cons (pe_tup (pa_cons pe_int (pa_cons pe_int pa_nil))) (pa_cons (pe_tup (pa_cons pe_int (pa_cons pe_int pa_nil))) pa_nil))) (pa_cons (pe_lst pa_nil) (pa_cons (pe_lst (pa_cons pe_int pa_nil)) (pa_cons pe_dnewK pa_nil))))))))))))))))))))
    (pss_one (ps_ret (pe_call G hr1 rfl gP kP bP .nil pass0 (pa_cons (pv 0) (pa_cons (pe_op op_cat (pv 1) (pe_lst (pa_cons (pe_lst (pa_cons (pe_lst (pa_cons pe_non pa_nil)) pa_nil)) (pa_cons (pe_lst (pa_cons (pe_lst (pa_cons pe_int (pa_cons pe_int pa_nil))) pa_nil)) (pa_cons (pe_disp (pps_cons pe_int pe_int pps_nil) (by rfl) (by rfl) (fun z => by cases z) (by decide)) (pa_cons (pe_tup (pa_cons pe_int (pa_cons (pe_tup (pa_cons pe_int pa_nil)) pa_nil))) (pa_cons (pe_lst (pa_cons (pe_lst (pa_cons pe_int (pa_cons pe_int pa_nil))) (pa_cons (pe_lst (pa_cons pe_int pa_nil)) pa_nil))) (pa_cons pe_str (pa_cons (pe_lst (pa_cons (pe_tup pa_nil) (pa_cons (pe_tup pa_nil) pa_nil))) (pa_cons (pe_tup (pa_cons pe_non (pa_cons pe_non pa_nil))) pa_nil)))))))))) pa_nil)))))), ?_⟩
    refine st_evds (ds := menuA) ((eds_cons ed_non (eds_cons (ed_bl true) (eds_cons (ed_bl false) (eds_cons (ed_int 0) (eds_cons (ed_int 1) (eds_cons (ed_neg 1) (eds_cons (ed_int 7) (eds_cons (ed_pow 10 30 ⟨by decide, by decide, by decide⟩) (eds_cons (ed_str _) (eds_cons (ed_str _) (eds_cons (ed_str _) (eds_cons (ed_tup eds_nil) (eds_cons (ed_tup (eds_cons (ed_int 0) eds_nil)) (eds_cons (ed_tup (eds_cons (ed_int 0) (eds_cons (ed_int 1) eds_nil))) (eds_cons (ed_tup (eds_cons (ed_tup (eds_cons (ed_int 0) (eds_cons (ed_int 1) eds_nil))) (eds_cons (ed_tup (eds_cons (ed_int 1) (eds_cons (ed_int 0) eds_nil))) eds_nil))) (eds_cons (ed_lst eds_nil) (eds_cons (ed_lst (eds_cons (ed_int 0) eds_nil)) (eds_cons ed_dict0 eds_nil))))))))))))))))))) (by decide) fun l1 xs H1 _ s1 ha da n1 => ?_
    refine ⟨_, rfl, ?_⟩
    refine op_evds (ds := menuB) rfl ((eds_cons (ed_lst (eds_cons (ed_lst (eds_cons ed_non eds_nil)) eds_nil)) (eds_cons (ed_lst (eds_cons (ed_lst (eds_cons (ed_int 0) (eds_cons (ed_int 1) eds_nil))) eds_nil)) (eds_cons (ed_dict1 0 1) (eds_cons (ed_tup (eds_cons (ed_int 1) (eds_cons (ed_tup (eds_cons (ed_int 0) eds_nil)) eds_nil))) (eds_cons (ed_lst (eds_cons (ed_lst (eds_cons (ed_int 0) (eds_cons (ed_int 1) eds_nil))) (eds_cons (ed_lst (eds_cons (ed_int 1) eds_nil)) eds_nil))) (eds_cons (ed_str _) (eds_cons (ed_lst (eds_cons (ed_tup eds_nil) (eds_cons (ed_tup eds_nil) eds_nil))) (eds_cons (ed_tup (eds_cons ed_non (eds_cons ed_non eds_nil))) eds_nil))))))))) (by decide) fun l2 zs H2 _ s2 hb db n2 => ?_
    refine ⟨_, _, _, _, rfl, rfl, s2 _ _ ha, hb, by rw [da.length, db.length]; decide, fun q hq => ?_⟩
    have s3 : Same H2 (upd H2 q (.lst (xs ++ zs))) := same_new hq
    have sA : Same H (upd H2 q (.lst (xs ++ zs))) := (s1.trans s2).trans s3
    have pen' : PenAt (upd H2 q (.lst (xs ++ zs))) p c ns t r := ⟨sA _ _ pen.d, sA _ _ pen.l⟩
    refine ⟨p, c, q, ns, t, r, xs ++ zs, rfl, pen', hl, h0, h1, hr0, upd_same, ?_, ?_, fun v t' r' H' hv t0 t1 r0 pen2 kp => ?_⟩
    · rw [List.length_append, da.length, db.length]; decide
    · rw [List.length_append, da.length, db.length]; decide
    · have dd := DtAll.append (da.same (s2.trans s3)) (db.same s3)
      obtain ⟨d, hd, q1⟩ := dd.mem v hv
      refine k v d t' r' H' hd (Dt.keep (fun b o e le => kp b o e fun z => ?_) d v q1) (fun a e => ?_) t0 t1 r0 pen2 fun b o e hb => kp b o (sA b o e) hb
      · subst z
        rw [pen'.d] at e
        cases e
        exact le _ List.mem_cons_self c rfl
      · rcases List.mem_append.mp hv with z | z
        · exact n1 v z a e
        · exact s1.free (n2 v z a e)
end
end VK

namespace VK
open PySem PySem.VK PySem.Spec PyProof.Rows L2
/-! ## own error classes in bundles -/
structure XBd where
  B : String
  i : String
  nw : String
  bm : List Value
def fldNames : List Str := ["value", "line", "index", "number", "limit"]
structure XB (b : XBd) : Prop where
  KF : PySem.W.KxsFacts b.B b.i
  FB : ExcBaseFacts b.B b.nw b.i b.bm
  SF : StoreFacts b.B b.bm "object.__setattr__" "object"
  tl : PySem.W.excTail b.bm b.bm = true
  ai : ∀ K, PySem.W.alongIn K "__init__" b.bm = some (some (.builtin b.i))
  as : ∀ K, PySem.W.alongIn K "__setattr__" b.bm = some (some (.builtin "object.__setattr__"))
  ag : ∀ K, PySem.W.alongIn K "__getattribute__" b.bm = some (some (.builtin "BaseException.__getattribute__"))
  aa : ∀ K, PySem.W.alongIn K "__getattr__" b.bm = some none
  ac : ∀ K, PySem.W.alongIn K "__class__" b.bm = some (some (.builtin "object.__class__"))
  af : ∀ K x, x ∈ fldNames → PySem.W.alongIn K x b.bm = some none
  hE : b.bm.contains (.type "BaseException") = true
  hB : b.bm.contains (.type b.B) = true
  hO : b.bm.contains (.type "object") = true
  hr : ∀ a, b.bm.contains (.ref a) = false
def xValueError : XBd := ⟨"ValueError", "ValueError.__init__", "ValueError.__new__", [.type "ValueError", .type "Exception", .type "BaseException", .type "object"]⟩
theorem xb_ValueError : XB xValueError where
  KF := PySem.W.kxs_ValueError
  FB := PySem.F.excBase_ValueError
  SF := PySem.F.store_ValueError
  tl := by decide +kernel
  ai := fun K => by kernel_rfl
  as := fun K => by kernel_rfl
  ag := fun K => by kernel_rfl
  aa := fun K => by kernel_rfl
  ac := fun K => by kernel_rfl
  af := fun K x h => by
    simp only [fldNames, List.mem_cons, List.not_mem_nil, or_false] at h
    rcases h with rfl | rfl | rfl | rfl | rfl <;> kernel_rfl
  hE := by decide +kernel
  hB := by decide +kernel
  hO := by decide +kernel
  hr := fun a => rfl
def xLookupError : XBd := ⟨"LookupError", "LookupError.__init__", "LookupError.__new__", [.type "LookupError", .type "Exception", .type "BaseException", .type "object"]⟩
theorem xb_LookupError : XB xLookupError where
  KF := PySem.W.kxs_LookupError
  FB := PySem.F.excBase_LookupError
  SF := PySem.F.store_LookupError
  tl := by decide +kernel
  ai := fun K => by kernel_rfl
  as := fun K => by kernel_rfl
  ag := fun K => by kernel_rfl
  aa := fun K => by kernel_rfl
  ac := fun K => by kernel_rfl
  af := fun K x h => by
    simp only [fldNames, List.mem_cons, List.not_mem_nil, or_false] at h
    rcases h with rfl | rfl | rfl | rfl | rfl <;> kernel_rfl
  hE := by decide +kernel
  hB := by decide +kernel
  hO := by decide +kernel
  hr := fun a => rfl
def xIndexError : XBd := ⟨"IndexError", "IndexError.__init__", "IndexError.__new__", [.type "IndexError", .type "LookupError", .type "Exception", .type "BaseException", .type "object"]⟩
theorem xb_IndexError : XB xIndexError where
  KF := PySem.W.kxs_IndexError
  FB := PySem.F.excBase_IndexError
  SF := PySem.F.store_IndexError
  tl := by decide +kernel
  ai := fun K => by kernel_rfl
  as := fun K => by kernel_rfl
  ag := fun K => by kernel_rfl
  aa := fun K => by kernel_rfl
  ac := fun K => by kernel_rfl
  af := fun K x h => by
    simp only [fldNames, List.mem_cons, List.not_mem_nil, or_false] at h
    rcases h with rfl | rfl | rfl | rfl | rfl <;> kernel_rfl
  hE := by decide +kernel
  hB := by decide +kernel
  hO := by decide +kernel
  hr := fun a => rfl
def xOverflowError : XBd := ⟨"OverflowError", "OverflowError.__init__", "OverflowError.__new__", [.type "OverflowError", .type "ArithmeticError", .type "Exception", .type "BaseException", .type "object"]⟩
theorem xb_OverflowError : XB xOverflowError where
  KF := PySem.W.kxs_OverflowError
  FB := PySem.F.excBase_OverflowError
  SF := PySem.F.store_OverflowError
  tl := by decide +kernel
  ai := fun K => by kernel_rfl
  as := fun K => by kernel_rfl
  ag := fun K => by kernel_rfl
  aa := fun K => by kernel_rfl
  ac := fun K => by kernel_rfl
  af := fun K x h => by
    simp only [fldNames, List.mem_cons, List.not_mem_nil, or_false] at h
    rcases h with rfl | rfl | rfl | rfl | rfl <;> kernel_rfl
  hE := by decide +kernel
  hB := by decide +kernel
  hO := by decide +kernel
  hr := fun a => rfl
def xRuntimeError : XBd := ⟨"RuntimeError", "RuntimeError.__init__", "RuntimeError.__new__", [.type "RuntimeError", .type "Exception", .type "BaseException", .type "object"]⟩
theorem xb_RuntimeError : XB xRuntimeError where
  KF := PySem.W.kxs_RuntimeError
  FB := PySem.F.excBase_RuntimeError
  SF := PySem.F.store_RuntimeError
  tl := by decide +kernel
  ai := fun K => by kernel_rfl
  as := fun K => by kernel_rfl
  ag := fun K => by kernel_rfl
  aa := fun K => by kernel_rfl
  ac := fun K => by kernel_rfl
  af := fun K x h => by
    simp only [fldNames, List.mem_cons, List.not_mem_nil, or_false] at h
    rcases h with rfl | rfl | rfl | rfl | rfl <;> kernel_rfl
  hE := by decide +kernel
  hB := by decide +kernel
  hO := by decide +kernel
  hr := fun a => rfl

/-- what an __init__ of one field is, of none -/
def IniOk (P : Program) (K : PySem.W.Frag) (C : Addr) : Option Str → Prop
  | some x => ∃ (fI : Addr) (qual msg : Str) (p1 p2 a1 a2 a3 a4 a5 a6 b1 b2 b3 b4 : Pos), XIni P K C fI qual (iA x p1 p2) (iB msg x a1 a2 a3 a4 a5 a6 b1 b2 b3 b4) (iS x) ∧ (a3.endLine == a5.line) = true ∧ x ∈ fldNames ∧
      PySem.W.findIn K (.ref C) x = some none
  | none => ∃ (fI : Addr) (qual msg : Str) (p1 a1 a2 a3 a4 a5 a6 : Pos), XIni P K C fI qual (iA0 p1) (iB0 msg a1 a2 a3 a4 a5 a6) iS0 ∧ (a3.endLine == a5.line) = true
structure EC (P : Program) (K : PySem.W.Frag) (mg : Str → Option Value) (cn : Str) (C : Addr) (b : XBd) (fl : Option Str) : Prop where
  xb : XB b
  T : XCls P K b.B b.i b.nw b.bm C
  g : mg cn = some (.ref C)
  cd : ∃ cd, PySem.W.clsIn K C = some cd ∧ cd.name = cn ∧ cd.mro = .ref C :: b.bm
  ini : IniOk P K C fl
/-- from what the top has written -/
theorem ec_cls {P : Program} {K : PySem.W.Frag} {C : Addr} {b : XBd} {cd : ClassData} {dd : Option Addr} {sl : Array (Option Value)} {k0 k1 k2 k3 k5 : Option Value} (xb : XB b)
    (lk : K.lookup C = some ⟨.type "type", dd, .cls cd, sl⟩) (hm : cd.mro = .ref C :: b.bm) (hs : sl.toList = [k0, k1, k2, k3, some (.builtin b.nw), k5]) (hd : cd.hasDel = false) (hh : cd.hasDict = true)
    (n1 : PySem.W.nsIn K cd.ns "__setattr__" = some none) (n2 : PySem.W.nsIn K cd.ns "__getattribute__" = some none) (n3 : PySem.W.nsIn K cd.ns "__getattr__" = some none) (n4 : PySem.W.nsIn K cd.ns "__class__" = some none)
    (kp : PySem.W.keepIn K (.ref C) = true) (thr : PySem.W.nsIn K cStatics "thirdparty.any" = some none) (spG : PySem.W.specialIn K (.builtin "object.__class__") "__get__" = some (some (.builtin "getset_descriptor.__get__"))) (spT : PySem.W.takesIn K (.builtin "object.__class__") = some true) :
    XCls P K b.B b.i b.nw b.bm C := by
  have hc : PySem.W.clsIn K C = some cd := by unfold PySem.W.clsIn; rw [lk]
  have own : ∀ n, PySem.W.nsIn K cd.ns n = some none → PySem.W.findIn K (.ref C) n = PySem.W.alongIn K n b.bm := fun n hn => by
    unfold PySem.W.findIn
    simp only [lk, hm]
    rw [PySem.W.alongIn]
    unfold PySem.W.ownIn
    simp only [lk, hn]
  have mro : ∀ v, PySem.W.mroIn K C v = some ((Value.ref C :: b.bm).contains v) := fun v => by
    unfold PySem.W.mroIn
    rw [hc, Option.bind_some, hm]
    rfl
  exact {
    ini := by
      unfold PySem.W.excInitIn
      simp only [lk, hm, hs, hd, xb.tl, beq_self_eq_true, Bool.not_false, Bool.and_self]
    ovr := by
      unfold PySem.W.excOver
      simp only [hc, Option.any_some, hm, xb.tl, beq_self_eq_true, Bool.and_self]
    hsd := by
      unfold PySem.W.hasDictIn
      rw [hc, Option.any_some, hh]
    sat := (own _ n1).trans (xb.as K)
    gat := (own _ n2).trans (xb.ag K)
    gga := (own _ n3).trans (xb.aa K)
    cla := (own _ n4).trans (xb.ac K)
    sBE := (mro _).trans (by rw [List.contains_cons, xb.hE, Bool.or_true])
    sBB := (mro _).trans (by rw [List.contains_cons, xb.hB, Bool.or_true])
    tyC := by
      show (K.lookup C).map (·.cls) = _
      rw [lk]
      rfl
    mOb := (mro _).trans (by rw [List.contains_cons, xb.hO, Bool.or_true])
    mC := (mro _).trans (by rw [List.contains_cons, beq_self_eq_true, Bool.true_or])
    kpC := kp
    thr := thr
    sup := by
      unfold PySem.W.ks_superIn
      rw [hc, Option.bind_some, hm, List.dropWhile_cons]
      simp only [bne_self_eq_false, Bool.false_eq_true, if_false, List.drop_succ_cons, List.drop_zero]
      exact xb.ai K
    spG := spG
    spT := spT }
theorem ec_get {K : PySem.W.Frag} {C : Addr} {b : XBd} {cd : ClassData} {dd : Option Addr} {sl : Array (Option Value)} {x : Str} (xb : XB b)
    (lk : K.lookup C = some ⟨.type "type", dd, .cls cd, sl⟩) (hm : cd.mro = .ref C :: b.bm) (hx : x ∈ fldNames) (n : PySem.W.nsIn K cd.ns x = some none) : PySem.W.findIn K (.ref C) x = some none := by
  unfold PySem.W.findIn
  simp only [lk, hm]
  rw [PySem.W.alongIn]
  unfold PySem.W.ownIn
  simp only [lk, n]
  exact xb.af K x hx
section
variable {P : Program} {K : PySem.W.Frag} {mg : Str → Option Value} {cn cn' : Str} {C C' : Addr} {b b' : XBd} {fl fl' : Option Str}
theorem EC.mro (E : EC P K mg cn C b fl) (v : Value) : PySem.W.subIn K (.ref C) v = some ((Value.ref C :: b.bm).contains v) := by
  obtain ⟨cd, hc, _, hm⟩ := E.cd
  show PySem.W.mroIn K C v = _
  unfold PySem.W.mroIn
  rw [hc, Option.bind_some, hm]
  rfl
theorem EC.kit (E : EC P K mg cn C b fl) (E' : EC P K mg cn' C' b' fl') : PySem.W.kitOne K (.ref C) (.ref C') = some (decide (cn = cn')) := by
  obtain ⟨cd, hc, hn, hm⟩ := E.cd
  obtain ⟨cd', hc', hn', hm'⟩ := E'.cd
  have iff : C = C' ↔ cn = cn' := ⟨fun e => by
    subst e
    rw [hc] at hc'
    cases hc'
    rw [← hn, ← hn'], fun e => by
    subst e
    have q := E.g.symm.trans E'.g
    cases q
    rfl⟩
  unfold PySem.W.kitOne
  by_cases h : C = C'
  · rw [if_pos (by rw [h]; exact beq_self_eq_true _), decide_eq_true (iff.mp h)]
  · have hv : (Value.ref C == Value.ref C') = false := by
      rw [beq_eq_false_iff_ne]
      intro z
      cases z
      exact h rfl
    have hv' : (Value.ref C' == Value.ref C) = false := by
      rw [beq_eq_false_iff_ne]
      intro z
      cases z
      exact h rfl
    rw [if_neg (by rw [hv]; decide)]
    unfold PySem.W.kitCls
    have ty := E'.T.tyC
    simp only [hc', ty, Option.isSome_some, beq_self_eq_true, Bool.and_self, if_true]
    rw [E.mro, List.contains_cons, hv', E.xb.hr, Bool.or_self, decide_eq_false (fun e => h (iff.mpr e))]
theorem EC.kitT (E : EC P K mg cn C b fl) {T : String} (m : PySem.W.kitMeta T = true) : PySem.W.kitOne K (.ref C) (.type T) = some (b.bm.contains (.type T)) := by
  unfold PySem.W.kitOne
  have hv : (Value.ref C == Value.type T) = false := by
    rw [beq_eq_false_iff_ne]
    intro z
    cases z
  have hv' : (Value.type T == Value.ref C) = false := by
    rw [beq_eq_false_iff_ne]
    intro z
    cases z
  rw [if_neg (by rw [hv]; decide)]
  unfold PySem.W.kitCls
  simp only [m, if_true]
  rw [E.mro, List.contains_cons, hv', Bool.false_or]
theorem EC.xok (E : EC P K mg cn C b fl) : XOk K C := ⟨_, _, _, _, _, E.T⟩
theorem EC.get {x : Str} (E : EC P K mg cn C b (some x)) : PySem.W.findIn K (.ref C) x = some none := by
  obtain ⟨_, _, _, _, _, _, _, _, _, _, _, _, _, _, _, _, _, _, q⟩ := E.ini
  exact q
end
theorem fldNames_ok {x : Str} (h : x ∈ fldNames) : (x == ("self" : Str)) = false ∧ (("__class__" : Str) == x) = false ∧ (("super" : Str) == x) = false ∧ (x == ("__debug__" : Str)) = false := by
  simp only [fldNames, List.mem_cons, List.not_mem_nil, or_false] at h
  rcases h with rfl | rfl | rfl | rfl | rfl <;> decide
theorem taker_no {K : PySem.W.Frag} {C : Addr} {x : Str} (h : PySem.W.findIn K (.ref C) x = some none) : PySem.W.takerIn K C x = some none := by
  unfold PySem.W.takerIn
  rw [h]
  rfl
/-- what a body needs to make one -/
structure MkR (X : Cx) : Prop where
  su : X.mg "super" = none
  ns : (X.prog.main.scope.names.lookup ("super" : Str)).isSome = false
  dp : X.A.depth + 1 < recursionLimit
section
variable {X : Cx} {cn x y : Str} {C : Addr} {b : XBd} {p q pos kp : Pos} {ty : TE}
theorem EC.mk1 (E : EC X.prog X.K X.mg cn C b (some x)) (R : MkR X) (hg : Gl X cn) (he : PE X (.Name y q) ty) (hdb : (cn == ("__debug__" : Str)) = false := by decide) : PE X (.Call (.Name cn p) [.Name y q] [] pos) (tMk1 C x ty) := by
  obtain ⟨fI, qual, msg, p1, p2, a1, a2, a3, a4, a5, a6, b1, b2, b3, b4, TI, hp, hx, hf⟩ := E.ini
  obtain ⟨x1, x2, x3, x4⟩ := fldNames_ok hx
  refine pe_mk1 E.xb.KF E.xb.FB E.xb.SF E.T TI (taker_no hf) E.g R.su R.ns R.dp hg he ?_ hp x1 x2 x3 x4 (by rfl) hdb
  intro u1 u2 kV doc pm an cda cc ct
  simp only [fldNames, List.mem_cons, List.not_mem_nil, or_false] at hx
  rcases hx with rfl | rfl | rfl | rfl | rfl <;> rfl
theorem EC.mk1K (E : EC X.prog X.K X.mg cn C b (some x)) (R : MkR X) (hg : Gl X cn) (he : PE X (.Name y q) ty) (hdb : (cn == ("__debug__" : Str)) = false := by decide) : PE X (.Call (.Name cn p) [] [⟨some x, .Name y q, kp⟩] pos) (tMk1 C x ty) := by
  obtain ⟨fI, qual, msg, p1, p2, a1, a2, a3, a4, a5, a6, b1, b2, b3, b4, TI, hp, hx, hf⟩ := E.ini
  obtain ⟨x1, x2, x3, x4⟩ := fldNames_ok hx
  refine pe_mk1K E.xb.KF E.xb.FB E.xb.SF E.T TI (taker_no hf) E.g R.su R.ns R.dp hg he ?_ hp x1 x2 x3 x4 (by rfl) (by rfl) (by rfl) hdb
  intro u1 u2 kV doc pm an cda cc ct
  simp only [fldNames, List.mem_cons, List.not_mem_nil, or_false] at hx
  rcases hx with rfl | rfl | rfl | rfl | rfl <;> rfl
theorem EC.mk0 (E : EC X.prog X.K X.mg cn C b none) (R : MkR X) (hg : Gl X cn) (hdb : (cn == ("__debug__" : Str)) = false := by decide) : PE X (.Call (.Name cn p) [] [] pos) (tMk0 C) := by
  obtain ⟨fI, qual, msg, p1, a1, a2, a3, a4, a5, a6, TI, hp⟩ := E.ini
  exact pe_mk0 E.xb.KF E.xb.FB E.T TI E.g R.su R.ns R.dp hg hp hdb
end
/-! ## a bundle from what the top has written: each premise is a fact that k_is finds -/
theorem ec1_mk {P : Program} {K : PySem.W.Frag} {mg : Str → Option Value} {h : Heap} (X : K.In h) (G : h.Ns mainGlobals mg) {cn x : Str} {b : XBd} (xb : XB b) {C fI cda cc : Addr} {cd : ClassData} {dd od cdd cld an : Option Addr} {sl osl ccs csl : Array (Option Value)}
    {k0 k1 k2 k3 k5 : Option Value} {oc kV doc pm ct ccl cl : Value} {qual msg : Str} {p1 p2 a1 a2 a3 a4 a5 a6 b1 b2 b3 b4 : Pos} {vs : Array Value} {file : Str} {tf : Tok}
    (aC : PySem.W.nsIn K mainGlobals cn = some (some (.ref C)))
    (lk : K.lookup C = some ⟨.type "type", dd, .cls cd, sl⟩) (hm : cd.mro = .ref C :: b.bm) (hs : sl.toList = [k0, k1, k2, k3, some (.builtin b.nw), k5]) (hd : cd.hasDel = false) (hh : cd.hasDict = true) (hn : cd.name = cn)
    (n1 : PySem.W.nsIn K cd.ns "__setattr__" = some none) (n2 : PySem.W.nsIn K cd.ns "__getattribute__" = some none) (n3 : PySem.W.nsIn K cd.ns "__getattr__" = some none) (n4 : PySem.W.nsIn K cd.ns "__class__" = some none)
    (kp : PySem.W.keepIn K (.ref C) = true) (thr : PySem.W.nsIn K cStatics "thirdparty.any" = some none) (spG : PySem.W.specialIn K (.builtin "object.__class__") "__get__" = some (some (.builtin "getset_descriptor.__get__"))) (spT : PySem.W.takesIn K (.builtin "object.__class__") = some true)
    (hx : x ∈ fldNames) (n5 : PySem.W.nsIn K cd.ns x = some none)
    (at_ : PySem.W.findIn K (.ref C) "__init__" = some (some (.ref fI))) (fn : PySem.W.isFn K (.ref fI) = true)
    (lf : K.lookup fI = some ⟨oc, od, .func (PySem.W.ksFn "__init__" qual (iA x p1 p2) (iB msg x a1 a2 a3 a4 a5 a6 b1 b2 b3 b4) (iS x) .none kV doc pm an (.ref cda) ct cc), osl⟩)
    (ci : PySem.W.codeIn K (.ref cda) qual = true) (lc : K.lookup cda = some ⟨ccl, cdd, .fields vs, ccs⟩) (hv : vs[2]? = some (.str file tf)) (hf : ((P.main.file : Str) == file) = true)
    (ll : K.lookup cc = some ⟨cl, cld, .cell (some (.ref C)), csl⟩) (hp : (a3.endLine == a5.line) = true) : EC P K mg cn C b (some x) where
  xb := xb
  T := ec_cls xb lk hm hs hd hh n1 n2 n3 n4 kp thr spG spT
  g := PySem.W.mg_of X G aC
  cd := ⟨cd, by unfold PySem.W.clsIn; rw [lk], hn, hm⟩
  ini := ⟨fI, qual, msg, p1, p2, a1, a2, a3, a4, a5, a6, b1, b2, b3, b4, ⟨at_, fn, oc, od, kV, doc, pm, an, cda, cc, ct, osl, lf, ci, ⟨ccl, cdd, vs, ccs, file, tf, lc, hv, hf⟩, cl, cld, csl, ll⟩, hp, hx, ec_get xb lk hm hx n5⟩
theorem ec0_mk {P : Program} {K : PySem.W.Frag} {mg : Str → Option Value} {h : Heap} (X : K.In h) (G : h.Ns mainGlobals mg) {cn : Str} {b : XBd} (xb : XB b) {C fI cda cc : Addr} {cd : ClassData} {dd od cdd cld an : Option Addr} {sl osl ccs csl : Array (Option Value)}
    {k0 k1 k2 k3 k5 : Option Value} {oc kV doc pm ct ccl cl : Value} {qual msg : Str} {p1 a1 a2 a3 a4 a5 a6 : Pos} {vs : Array Value} {file : Str} {tf : Tok}
    (aC : PySem.W.nsIn K mainGlobals cn = some (some (.ref C)))
    (lk : K.lookup C = some ⟨.type "type", dd, .cls cd, sl⟩) (hm : cd.mro = .ref C :: b.bm) (hs : sl.toList = [k0, k1, k2, k3, some (.builtin b.nw), k5]) (hd : cd.hasDel = false) (hh : cd.hasDict = true) (hn : cd.name = cn)
    (n1 : PySem.W.nsIn K cd.ns "__setattr__" = some none) (n2 : PySem.W.nsIn K cd.ns "__getattribute__" = some none) (n3 : PySem.W.nsIn K cd.ns "__getattr__" = some none) (n4 : PySem.W.nsIn K cd.ns "__class__" = some none)
    (kp : PySem.W.keepIn K (.ref C) = true) (thr : PySem.W.nsIn K cStatics "thirdparty.any" = some none) (spG : PySem.W.specialIn K (.builtin "object.__class__") "__get__" = some (some (.builtin "getset_descriptor.__get__"))) (spT : PySem.W.takesIn K (.builtin "object.__class__") = some true)
    (at_ : PySem.W.findIn K (.ref C) "__init__" = some (some (.ref fI))) (fn : PySem.W.isFn K (.ref fI) = true)
    (lf : K.lookup fI = some ⟨oc, od, .func (PySem.W.ksFn "__init__" qual (iA0 p1) (iB0 msg a1 a2 a3 a4 a5 a6) iS0 .none kV doc pm an (.ref cda) ct cc), osl⟩)
    (ci : PySem.W.codeIn K (.ref cda) qual = true) (lc : K.lookup cda = some ⟨ccl, cdd, .fields vs, ccs⟩) (hv : vs[2]? = some (.str file tf)) (hf : ((P.main.file : Str) == file) = true)
    (ll : K.lookup cc = some ⟨cl, cld, .cell (some (.ref C)), csl⟩) (hp : (a3.endLine == a5.line) = true) : EC P K mg cn C b none where
  xb := xb
  T := ec_cls xb lk hm hs hd hh n1 n2 n3 n4 kp thr spG spT
  g := PySem.W.mg_of X G aC
  cd := ⟨cd, by unfold PySem.W.clsIn; rw [lk], hn, hm⟩
  ini := ⟨fI, qual, msg, p1, a1, a2, a3, a4, a5, a6, ⟨at_, fn, oc, od, kV, doc, pm, an, cda, cc, ct, osl, lf, ci, ⟨ccl, cdd, vs, ccs, file, tf, lc, hv, hf⟩, cl, cld, csl, ll⟩, hp⟩
end VK

namespace VK
open PySem PySem.VK PySem.Spec PyProof.Rows L2
/-! ## comprehensions by a function of the place -/
theorem range_snoc (f : Nat → V) (n : Nat) : (List.range (n + 1)).map f = (List.range n).map f ++ [f n] := by
  rw [List.range_succ, List.map_append]
  rfl
section
variable {K : PySem.W.Frag} {a D : Addr} {xs : List V} {te : TE} {σ : L2.St} {H1 : Hp} {Qd : Hp → Prop} {j : Nat}
theorem lc_map (f : Nat → V) (hD : H1 D = none) (hx : SqL K H1 a xs) (hl : xs.length ≤ 10000) (hw : ∀ x, wipe ((wipe σ [j]).set j (some x)) [j] = wipe σ [j])
    (hs : ∀ i x H, xs[i]? = some x → Same H1 H → ∀ Q : VK, (∀ H', Same H H' → Q (f i) H') → te ((wipe σ [j]).set j (some x)) H Q)
    (hd : ∀ H, Same H1 H → H D = some (.lst ((List.range xs.length).map f)) → Qd H) :
    ∃ W : Nat → Nat → Hp → Prop, (∃ m, W 0 m (upd H1 D (.lst []))) ∧ ∀ i m H, W i m H →
      ((Itl K a).stop i H ∧ Qd H) ∨ ((Itl K a).go i H ∧ ∃ Nx : Hp → Prop, (∀ H', Nx H' → ∃ m', m' < m ∧ W (i + 1) m' H') ∧ ∀ x H', (Itl K a).yld i H x H' → gName j x (wipe σ [j]) H' fun σ2 H2 => wipe σ2 [j] = wipe σ [j] ∧ tYes σ2 H2 fun b H3 =>
        if b = true then te σ2 H3 fun y H4 => ∃ acc, H4 D = some (.lst acc) ∧ acc.length < sizeLine ∧ Nx (upd H4 D (.lst (acc ++ [y]))) else Nx H3) := by
  refine lc_list (K := K) (a := a) (xs := xs) (fun i H => Same H1 H ∧ H D = some (.lst ((List.range i).map f))) ⟨new_same hD, upd_same⟩ (fun i H _ p => p.1.seq hx) ?_ (fun H p => hd H p.1 p.2)
  intro i x H hi p
  refine ⟨hw x, ?_⟩
  dsimp only [tYes]
  rw [if_pos rfl]
  refine hs i x H hi p.1 _ fun H' s => ⟨_, s _ _ p.2, ?_, ?_, ?_⟩
  · rw [List.length_map, List.length_range]
    have := (List.getElem?_eq_some_iff.mp hi).1
    exact Nat.lt_of_lt_of_le this (Nat.le_trans hl (by decide))
  · intro b o e
    have hb : b ≠ D := fun z => by
      subst z
      rw [hD] at e
      cases e
    rw [upd_ne hb]
    exact s _ _ (p.1 _ _ e)
  · rw [upd_same, range_snoc]
theorem lc_mapR {n : Nat} (f : Nat → V) (hD : H1 D = none) (hl : n ≤ 10000) (hw : ∀ x, wipe ((wipe σ [j]).set j (some x)) [j] = wipe σ [j])
    (hs : ∀ i H, i < n → Same H1 H → ∀ Q : VK, (∀ H', Same H H' → Q (f i) H') → te ((wipe σ [j]).set j (some (.int (0 + (i : Int))))) H Q)
    (hd : ∀ H, Same H1 H → H D = some (.lst ((List.range n).map f)) → Qd H) :
    ∃ W : Nat → Nat → Hp → Prop, (∃ m, W 0 m (upd H1 D (.lst []))) ∧ ∀ i m H, W i m H →
      ((Itr 0 n).stop i H ∧ Qd H) ∨ ((Itr 0 n).go i H ∧ ∃ Nx : Hp → Prop, (∀ H', Nx H' → ∃ m', m' < m ∧ W (i + 1) m' H') ∧ ∀ x H', (Itr 0 n).yld i H x H' → gName j x (wipe σ [j]) H' fun σ2 H2 => wipe σ2 [j] = wipe σ [j] ∧ tYes σ2 H2 fun b H3 =>
        if b = true then te σ2 H3 fun y H4 => ∃ acc, H4 D = some (.lst acc) ∧ acc.length < sizeLine ∧ Nx (upd H4 D (.lst (acc ++ [y]))) else Nx H3) := by
  refine lc_range (lo := 0) (n := n) (fun i H => Same H1 H ∧ H D = some (.lst ((List.range i).map f))) ⟨new_same hD, upd_same⟩ ?_ (fun H p => hd H p.1 p.2)
  intro i H hi p
  refine ⟨hw _, ?_⟩
  dsimp only [tYes]
  rw [if_pos rfl]
  refine hs i H hi p.1 _ fun H' s => ⟨_, s _ _ p.2, ?_, ?_, ?_⟩
  · rw [List.length_map, List.length_range]
    exact Nat.lt_of_lt_of_le hi (Nat.le_trans hl (by decide))
  · intro b o e
    have hb : b ≠ D := fun z => by
      subst z
      rw [hD] at e
      cases e
    rw [upd_ne hb]
    exact s _ _ (p.1 _ _ e)
  · rw [upd_same, range_snoc]
end
theorem pc_inv {α β : Type} {R : α → β → Prop} {es : List α} {s : β} {sp : List β} (h : Paired R es (s :: sp)) : ∃ e es', es = e :: es' ∧ R e s ∧ Paired R es' sp := by
  cases h with
  | cons a t => exact ⟨_, _, rfl, a, t⟩
theorem pn_inv {α β : Type} {R : α → β → Prop} {es : List α} (h : Paired R es ([] : List β)) : es = [] := by
  cases h
  rfl
/-! ## values that are made without a change -/
def EvP1 (te : TE) (σ : L2.St) (H0 : Hp) (v : V) : Prop := ∀ H Q, Same H0 H → Q v H → te σ H Q
def EvP (ta : TA) (σ : L2.St) (H0 : Hp) (vs : List V) : Prop := ∀ H Q, Same H0 H → Q vs H → ta σ H Q
section
variable {K : PySem.W.Frag} {σ : L2.St} {H0 H : Hp} {te : TE} {ta : TA} {v : V} {vs ws : List V} {i j : Nat} {Q : VK} {u : TS} {D : Ends} {L : Addr}
theorem pv_nil : EvP tNil σ H0 [] := fun _ _ _ q => q
theorem pv_cons (h : EvP1 te σ H0 v) (t : EvP ta σ H0 vs) : EvP (tCons te ta) σ H0 (v :: vs) := fun H Q s q => h H _ s (t H _ s q)
theorem lst_ps (h : EvP ta σ H0 vs) (s : Same H0 H) (hl : vs.length ≤ 10000) (k : ∀ p H1, Same H H1 → H1 p = some (.lst vs) → Q (.ref p) H1) : tLst ta σ H Q :=
  h H _ s ⟨Nat.le_trans hl (by decide), fun p hp => k p _ (new_same hp) upd_same⟩
theorem st_ps (h : EvP ta σ H0 vs) (s : Same H0 H) (hl : vs.length ≤ 10000) (k : ∀ p H1, Same H H1 → H1 p = some (.lst vs) → u D (σ.set i (some (.ref p))) H1) : tSeq (tAsg (tLst ta) (gName i)) u D σ H := by
  show tLst ta σ H (fun x H1 => u D (σ.set i (some x)) H1)
  exact lst_ps h s hl k
theorem cat_ps (hi : σ[i]? = some (some (.ref L))) (hL : H L = some (.lst ws)) (hws : ws.length ≤ 10000) (h : EvP ta σ H0 vs) (s : Same H0 H) (hl : vs.length ≤ 10000) (k : ∀ p H1, Same H H1 → H1 p = some (.lst (ws ++ vs)) → Q (.ref p) H1) :
    tOp rCat (tVar i) (tLst ta) σ H Q := ⟨_, hi, lst_ps h s hl fun p H1 s1 hp => by
  refine ⟨L, p, _, _, rfl, rfl, s1 _ _ hL, hp, ?_, fun q hq => ?_⟩
  · exact Nat.le_trans (Nat.add_le_add hws hl) (by decide)
  · exact k q _ (s1.trans (new_same hq)) upd_same⟩
theorem st_catps (hi : σ[i]? = some (some (.ref L))) (hL : H L = some (.lst ws)) (hws : ws.length ≤ 10000) (h : EvP ta σ H0 vs) (s : Same H0 H) (hl : vs.length ≤ 10000) (k : ∀ p H1, Same H H1 → H1 p = some (.lst (ws ++ vs)) → u D (σ.set j (some (.ref p))) H1) :
    tSeq (tAsg (tOp rCat (tVar i) (tLst ta)) (gName j)) u D σ H := by
  show tOp rCat (tVar i) (tLst ta) σ H (fun x H1 => u D (σ.set j (some x)) H1)
  exact cat_ps hi hL hws h s hl k
/-- isinstance(e, c) -/
theorem is_at {P : Program} {mg : Str → Option Value} {cn : Str} {C e : Addr} {b : XBd} {fl : Option Str} {c : V} {cv : Value} {r : Bool} (E : EC P K mg cn C b fl) (h : ErrAt H v e C fl) (hc : ∀ u, RelV c u → u = cv) (hk : PySem.W.kitOne K (.ref C) cv = some r) (q : Q (.bl r) H) :
    rIsX K [.ref e, c] H Q := by
  cases fl with
  | none => exact ⟨e, C, none, c, cv, r, rfl, h, (fun dd z => nomatch z), E.xok, hc, hk, q⟩
  | some x =>
    obtain ⟨d, h1, h2⟩ := h
    exact ⟨e, C, some d, c, cv, r, rfl, h1, (fun dd z => by cases z; exact ⟨_, h2⟩), E.xok, hc, hk, q⟩
theorem pv_is {P : Program} {mg : Str → Option Value} {cn : Str} {C e : Addr} {b : XBd} {fl : Option Str} {c : V} {cv : Value} {r : Bool} (E : EC P K mg cn C b fl) (h : ErrAt H0 v e C fl) (hv : σ[i]? = some (some (.ref e))) (hc : ∀ u, RelV c u → u = cv) (hk : PySem.W.kitOne K (.ref C) cv = some r) :
    EvP1 (tCB (rIsX K) (tCons (tVar i) (tCons (tC c) tNil))) σ H0 (.bl r) := fun H Q s q => ⟨_, hv, is_at E (h.same s) hc hk q⟩
/-- t * int(isinstance(e, c)) -/
theorem pv_txt {P : Program} {mg : Str → Option Value} {cn z : Str} {C e : Addr} {b : XBd} {fl : Option Str} {c : V} {cv : Value} {r : Bool} {r2 : R2} {rI : List V → Hp → VK → Prop} (E : EC P K mg cn C b fl) (h : ErrAt H0 v e C fl) (hv : σ[i]? = some (some (.ref e))) (hc : ∀ u, RelV c u → u = cv)
    (hk : PySem.W.kitOne K (.ref C) cv = some r) (h2 : ∀ H Q, Q (.str (if r then z else Str.empty)) H → r2 (.str z) (.int (if r then 1 else 0)) H Q) (hI : ∀ H Q, Q (.int (if r then 1 else 0)) H → rI [.bl r] H Q) :
    EvP1 (tOp r2 (tC (.str z)) (tCB rI (tCons (tCB (rIsX K) (tCons (tVar i) (tCons (tC c) tNil))) tNil))) σ H0 (.str (if r then z else Str.empty)) := fun H Q s q =>
  pv_is E h hv hc hk H _ s (hI _ _ (h2 _ _ q))
/-- some[k].x -/
theorem pv_fld {e C : Addr} {x : Str} {es : List V} {k : Nat} (hv : σ[i]? = some (some (.ref L))) (hL : H0 L = some (.lst es)) (he : es[k]? = some (.ref e)) (h : ErrAt H0 v e C (some x)) (ok : XOk K C) (hf : PySem.W.findIn K (.ref C) x = some none) {te : TE}
    (ht : ∀ H Q, te σ H Q = (∃ v, σ[i]? = some (some v) ∧ rIxL K v (.int (k : Int)) H Q)) : EvP1 (tXatA K x te) σ H0 v := fun H Q s q => by
  obtain ⟨d, h1, h2⟩ := h.same s
  show te σ H _
  rw [ht]
  refine ⟨_, hv, L, es, _, _, rfl, rfl, SqL.of (s _ _ hL), atI_nat he, e, C, d, v, rfl, h1, h2, ok, hf, q⟩
end
section
variable {X : Cx} {x : Str} {pos : Pos} {K : PySem.W.Frag} {te : TE}
/-- within a comprehension: the written part named from outside -/
theorem pe_xatK {e : Expr} (hK : X.K = K) (he : PE X e te) (hb : attributeBase e x X.env (eval e X.env) = eval e X.env := by rfl) : PE X (.Attribute e x pos) (tXatA K x te) := by
  subst hK
  exact pe_xatA he hb
def rRepr (K : PySem.W.Frag) : List V → Hp → VK → Prop := fun xs H Q => ∃ v d, xs = [v] ∧ Dr K H v d ∧ d.showable = true ∧ d.shown.length ≤ sizeLine ∧ d.depth ≤ 60 ∧ Q (.str d.shown) H
theorem call_reprK (hK : X.K = K) (hg : X.A.guards = some []) (hu : X.A.units + 64 < cLine) : CallR X (.builtin "repr") (rRepr K) := by
  subst hK
  exact call_repr hg hu
end
end VK

namespace VK
open PySem PySem.VK PySem.Spec PyProof.Rows L2
/-- the classes of the program, in their order -/
structure Kl (P : Program) (K : PySem.W.Frag) (mg : Str → Option Value) (C : Nat → Addr) : Prop where
  e0 : EC P K mg "InvalidTable" (C 0) xValueError (some "value")
  e1 : EC P K mg "InvalidEcho" (C 1) xValueError (some "value")
  e2 : EC P K mg "InvalidSong" (C 2) xValueError (some "value")
  e3 : EC P K mg "InvalidRow" (C 3) xValueError (some "value")
  e4 : EC P K mg "InvalidWishes" (C 4) xValueError (some "value")
  e5 : EC P K mg "InvalidFixed" (C 5) xValueError (some "value")
  e6 : EC P K mg "InvalidPlace" (C 6) xValueError (some "value")
  e7 : EC P K mg "InvalidNumber" (C 7) xValueError (some "value")
  e8 : EC P K mg "InvalidText" (C 8) xValueError (some "line")
  e9 : EC P K mg "InvalidLine" (C 9) xValueError (some "value")
  e10 : EC P K mg "InvalidDeed" (C 10) xValueError (some "index")
  e11 : EC P K mg "OtherLetters" (C 11) xValueError none
  e12 : EC P K mg "Barred" (C 12) xLookupError none
  e13 : EC P K mg "NoEcho" (C 13) xIndexError (some "index")
  e14 : EC P K mg "NoRow" (C 14) xIndexError (some "number")
  e15 : EC P K mg "TooLong" (C 15) xOverflowError (some "limit")
  e16 : EC P K mg "TooFar" (C 16) xOverflowError (some "limit")
  e17 : EC P K mg "NothingToUndo" (C 17) xRuntimeError none
  e18 : EC P K mg "NothingToRedo" (C 18) xRuntimeError none
def spL (C : Nat → Addr) : List (Addr × Option Str) := [(C 0, some "value"), (C 1, some "value"), (C 2, some "value"), (C 3, some "value"), (C 4, some "value"), (C 5, some "value"), (C 6, some "value"), (C 7, some "value"), (C 8, some "line"), (C 9, some "value"), (C 10, some "index"), (C 11, none), (C 12, none), (C 13, some "index"), (C 14, some "number"), (C 15, some "limit"), (C 16, some "limit"), (C 17, none), (C 18, none)]
structure Tx (P : Program) (mg : Str → Option Value) : Prop where
  top : (P.main.scope.names.lookup ("super" : Str)).isSome = false
  n_super : mg "super" = none
  n_isinstance : mg "isinstance" = none
  n_int : mg "int" = none
  n_len : mg "len" = none
  n_range : mg "range" = none
  n_repr : mg "repr" = none
  n_list : mg "list" = none
  n_ValueError : mg "ValueError" = none
  n_LookupError : mg "LookupError" = none
  n_IndexError : mg "IndexError" = none
  n_KeyError : mg "KeyError" = none
  n_OverflowError : mg "OverflowError" = none
  n_RuntimeError : mg "RuntimeError" = none
  n_TypeError : mg "TypeError" = none
theorem mk_dp {k : Nat} {A : Around} (hr : Room (k + 1) A) : A.depth + 1 < recursionLimit := by have := hr.dp; omega
def spMade (C : Nat → Addr) : Sp := fun vs H Q _ => ∃ v, vs = [v] ∧ ∀ L es H', Same H H' → H' L = some (.lst (es.map V.ref)) → Errs H' v es (spL C) → Q (.ref L) H'
section
variable {P : Program} {w : World} {K : PySem.W.Frag} {mg : Str → Option Value} {base : Heap} {C : Nat → Addr}

abbrev sMade : Stmt := topS 25
theorem scMade : FnScope ["_law_aa", "_law_found"] ["_law_aa"] (defScope sMade) := ⟨rfl, rfl, rfl, by decide +kernel, rfl, by decide +kernel, by decide +kernel⟩
theorem okMade {f : Addr} {fd : FuncData} (F : Fun K "_law_made" "_law_made" sMade f fd) (Z : Kl P K mg C) (T : Tx P mg) : FnOk P w K mg base CX0 2 f fd ["_law_aa"] (spMade C) := by
  refine F.ok scMade (fun vs H Q E h => ?_) (fun cdv A outer s H vs Q E hr h => ?_)
  · obtain ⟨v, rfl, _⟩ := h
    rfl
  · obtain ⟨v, rfl, k⟩ := h
    have R : MkR (cxOf CX0 P w K mg base ["_law_aa", "_law_found"] "_law_made" (defScope sMade) f cdv A outer s H E).nox := ⟨T.n_super, T.top, mk_dp hr⟩
    refine ⟨_, (pss_cons (ps_set (i := 1) scMade.nd rfl (Or.inl rfl) (pe_lst (pa_cons (Z.e0.mk1 R (by rfl) (pv 0)) (pa_cons (Z.e1.mk1 R (by rfl) (pv 0)) (pa_cons (Z.e2.mk1 R (by rfl) (pv 0)) (pa_cons (Z.e3.mk1 R (by rfl) (pv 0)) (pa_cons (Z.e4.mk1 R (by rfl) (pv 0)) (pa_cons (Z.e5.mk1 R (by rfl) (pv 0)) pa_nil))))))))
    (pss_cons (ps_set (i := 1) scMade.nd rfl (Or.inl rfl) (pe_op op_cat (pv 1) (pe_lst (pa_cons (Z.e6.mk1 R (by rfl) (pv 0)) (pa_cons (Z.e7.mk1 R (by rfl) (pv 0)) (pa_cons (Z.e8.mk1 R (by rfl) (pv 0)) (pa_cons (Z.e9.mk1 R (by rfl) (pv 0)) (pa_cons (Z.e10.mk1 R (by rfl) (pv 0)) pa_nil))))))))
    (pss_cons (ps_set (i := 1) scMade.nd rfl (Or.inl rfl) (pe_op op_cat (pv 1) (pe_lst (pa_cons (Z.e11.mk0 R (by rfl)) (pa_cons (Z.e12.mk0 R (by rfl)) (pa_cons (Z.e13.mk1 R (by rfl) (pv 0)) (pa_cons (Z.e14.mk1 R (by rfl) (pv 0)) (pa_cons (Z.e15.mk1 R (by rfl) (pv 0)) (pa_cons (Z.e16.mk1 R (by rfl) (pv 0)) pa_nil)))))))))
    (pss_one (ps_ret (pe_op op_cat (pv 1) (pe_lst (pa_cons (Z.e17.mk0 R (by rfl)) (pa_cons (Z.e18.mk0 R (by rfl)) pa_nil))))))))), ?_⟩
    refine st_xs (xs_mk1 rfl (xs_mk1 rfl (xs_mk1 rfl (xs_mk1 rfl (xs_mk1 rfl (xs_mk1 rfl xs_nil)))))) (Nat.le_of_ble_eq_true rfl) fun p0 es0 H0 s0 hp0 r0 => ?_
    refine st_catxs rfl hp0 r0 (Nat.le_of_ble_eq_true rfl) (xs_mk1 rfl (xs_mk1 rfl (xs_mk1 rfl (xs_mk1 rfl (xs_mk1 rfl xs_nil))))) (Nat.le_of_ble_eq_true rfl) fun p1 es1 H1 s1 hp1 r1 => ?_
    refine st_catxs rfl hp1 r1 (Nat.le_of_ble_eq_true rfl) (xs_mk0 (xs_mk0 (xs_mk1 rfl (xs_mk1 rfl (xs_mk1 rfl (xs_mk1 rfl xs_nil)))))) (Nat.le_of_ble_eq_true rfl) fun p2 es2 H2 s2 hp2 r2 => ?_
    refine cat_xs rfl hp2 r2 (Nat.le_of_ble_eq_true rfl) (xs_mk0 (xs_mk0 xs_nil)) (Nat.le_of_ble_eq_true rfl) fun p3 es3 H3 s3 hp3 r3 => ?_
    exact k p3 es3 H3 (((s0.trans s1).trans s2).trans s3) hp3 r3

abbrev sMadeSo : Stmt := topS 26
theorem scMadeSo : FnScope ["_law_aa", "_law_found"] ["_law_aa"] (defScope sMadeSo) := ⟨rfl, rfl, rfl, by decide +kernel, rfl, by decide +kernel, by decide +kernel⟩
theorem okMadeSo {f : Addr} {fd : FuncData} (F : Fun K "_law_made_so" "_law_made_so" sMadeSo f fd) (Z : Kl P K mg C) (T : Tx P mg) : FnOk P w K mg base CX0 2 f fd ["_law_aa"] (spMade C) := by
  refine F.ok scMadeSo (fun vs H Q E h => ?_) (fun cdv A outer s H vs Q E hr h => ?_)
  · obtain ⟨v, rfl, _⟩ := h
    rfl
  · obtain ⟨v, rfl, k⟩ := h
    have R : MkR (cxOf CX0 P w K mg base ["_law_aa", "_law_found"] "_law_made_so" (defScope sMadeSo) f cdv A outer s H E).nox := ⟨T.n_super, T.top, mk_dp hr⟩
    refine ⟨_, (pss_cons (ps_set (i := 1) scMadeSo.nd rfl (Or.inl rfl) (pe_lst (pa_cons (Z.e0.mk1K R (by rfl) (pv 0)) (pa_cons (Z.e1.mk1K R (by rfl) (pv 0)) (pa_cons (Z.e2.mk1K R (by rfl) (pv 0)) (pa_cons (Z.e3.mk1K R (by rfl) (pv 0)) pa_nil))))))
    (pss_cons (ps_set (i := 1) scMadeSo.nd rfl (Or.inl rfl) (pe_op op_cat (pv 1) (pe_lst (pa_cons (Z.e4.mk1K R (by rfl) (pv 0)) (pa_cons (Z.e5.mk1K R (by rfl) (pv 0)) (pa_cons (Z.e6.mk1K R (by rfl) (pv 0)) (pa_cons (Z.e7.mk1K R (by rfl) (pv 0)) pa_nil)))))))
    (pss_cons (ps_set (i := 1) scMadeSo.nd rfl (Or.inl rfl) (pe_op op_cat (pv 1) (pe_lst (pa_cons (Z.e8.mk1K R (by rfl) (pv 0)) (pa_cons (Z.e9.mk1K R (by rfl) (pv 0)) (pa_cons (Z.e10.mk1K R (by rfl) (pv 0)) (pa_cons (Z.e11.mk0 R (by rfl)) (pa_cons (Z.e12.mk0 R (by rfl)) pa_nil))))))))
    (pss_cons (ps_set (i := 1) scMadeSo.nd rfl (Or.inl rfl) (pe_op op_cat (pv 1) (pe_lst (pa_cons (Z.e13.mk1K R (by rfl) (pv 0)) (pa_cons (Z.e14.mk1K R (by rfl) (pv 0)) (pa_cons (Z.e15.mk1K R (by rfl) (pv 0)) (pa_cons (Z.e16.mk1K R (by rfl) (pv 0)) pa_nil)))))))
    (pss_one (ps_ret (pe_op op_cat (pv 1) (pe_lst (pa_cons (Z.e17.mk0 R (by rfl)) (pa_cons (Z.e18.mk0 R (by rfl)) pa_nil)))))))))), ?_⟩
    refine st_xs (xs_mk1 rfl (xs_mk1 rfl (xs_mk1 rfl (xs_mk1 rfl xs_nil)))) (Nat.le_of_ble_eq_true rfl) fun p0 es0 H0 s0 hp0 r0 => ?_
    refine st_catxs rfl hp0 r0 (Nat.le_of_ble_eq_true rfl) (xs_mk1 rfl (xs_mk1 rfl (xs_mk1 rfl (xs_mk1 rfl xs_nil)))) (Nat.le_of_ble_eq_true rfl) fun p1 es1 H1 s1 hp1 r1 => ?_
    refine st_catxs rfl hp1 r1 (Nat.le_of_ble_eq_true rfl) (xs_mk1 rfl (xs_mk1 rfl (xs_mk1 rfl (xs_mk0 (xs_mk0 xs_nil))))) (Nat.le_of_ble_eq_true rfl) fun p2 es2 H2 s2 hp2 r2 => ?_
    refine st_catxs rfl hp2 r2 (Nat.le_of_ble_eq_true rfl) (xs_mk1 rfl (xs_mk1 rfl (xs_mk1 rfl (xs_mk1 rfl xs_nil)))) (Nat.le_of_ble_eq_true rfl) fun p3 es3 H3 s3 hp3 r3 => ?_
    refine cat_xs rfl hp3 r3 (Nat.le_of_ble_eq_true rfl) (xs_mk0 (xs_mk0 xs_nil)) (Nat.le_of_ble_eq_true rfl) fun p4 es4 H4 s4 hp4 r4 => ?_
    exact k p4 es4 H4 ((((s0.trans s1).trans s2).trans s3).trans s4) hp4 r4

def nmL : List Str := ["InvalidTable", "InvalidEcho", "InvalidSong", "InvalidRow", "InvalidWishes", "InvalidFixed", "InvalidPlace", "InvalidNumber", "InvalidText", "InvalidLine", "InvalidDeed", "OtherLetters", "Barred", "NoEcho", "NoRow", "TooLong", "TooFar", "NothingToUndo", "NothingToRedo"]
def bsL : List XBd := [xValueError, xValueError, xValueError, xValueError, xValueError, xValueError, xValueError, xValueError, xValueError, xValueError, xValueError, xValueError, xLookupError, xIndexError, xIndexError, xOverflowError, xOverflowError, xRuntimeError, xRuntimeError]
def flL : List (Option Str) := [some "value", some "value", some "value", some "value", some "value", some "value", some "value", some "value", some "line", some "value", some "index", none, none, some "index", some "number", some "limit", some "limit", none, none]
def nm (k : Nat) : Str := nmL.getD k ""
def bs (k : Nat) : XBd := bsL.getD k xValueError
def fl (k : Nat) : Option Str := flL.getD k none
theorem Kl.at_ (Z : Kl P K mg C) : ∀ k, k < 19 → EC P K mg (nm k) (C k) (bs k) (fl k)
  | 0, _ => Z.e0
  | 1, _ => Z.e1
  | 2, _ => Z.e2
  | 3, _ => Z.e3
  | 4, _ => Z.e4
  | 5, _ => Z.e5
  | 6, _ => Z.e6
  | 7, _ => Z.e7
  | 8, _ => Z.e8
  | 9, _ => Z.e9
  | 10, _ => Z.e10
  | 11, _ => Z.e11
  | 12, _ => Z.e12
  | 13, _ => Z.e13
  | 14, _ => Z.e14
  | 15, _ => Z.e15
  | 16, _ => Z.e16
  | 17, _ => Z.e17
  | 18, _ => Z.e18
  | k + 19, h => absurd h (by omega)
theorem spL_at {v : V} {H : Hp} {es : List Addr} (h : Errs H v es (spL C)) : ∀ k, k < 19 → ∃ e, es[k]? = some e ∧ ErrAt H v e (C k) (fl k)
  | 0, _ => Errs.at_ 0 h rfl
  | 1, _ => Errs.at_ 1 h rfl
  | 2, _ => Errs.at_ 2 h rfl
  | 3, _ => Errs.at_ 3 h rfl
  | 4, _ => Errs.at_ 4 h rfl
  | 5, _ => Errs.at_ 5 h rfl
  | 6, _ => Errs.at_ 6 h rfl
  | 7, _ => Errs.at_ 7 h rfl
  | 8, _ => Errs.at_ 8 h rfl
  | 9, _ => Errs.at_ 9 h rfl
  | 10, _ => Errs.at_ 10 h rfl
  | 11, _ => Errs.at_ 11 h rfl
  | 12, _ => Errs.at_ 12 h rfl
  | 13, _ => Errs.at_ 13 h rfl
  | 14, _ => Errs.at_ 14 h rfl
  | 15, _ => Errs.at_ 15 h rfl
  | 16, _ => Errs.at_ 16 h rfl
  | 17, _ => Errs.at_ 17 h rfl
  | 18, _ => Errs.at_ 18 h rfl
  | k + 19, h => absurd h (by omega)

abbrev sFields : Stmt := topS 27
theorem scFields : FnScope ["_law_some", "_law_found", "_law_one"] ["_law_some"] (defScope sFields) := ⟨rfl, rfl, rfl, by decide +kernel, rfl, by decide +kernel, by decide +kernel⟩
def spFields (C : Nat → Addr) : Sp := fun vs H Q _ => ∃ L es v, vs = [.ref L] ∧ H L = some (.lst (es.map V.ref)) ∧ Errs H v es (spL C) ∧ ∀ F H', Same H H' → H' F = some (.lst (List.replicate 15 v)) → Q (.ref F) H'
theorem okFields {f : Addr} {fd : FuncData} (F : Fun K "_law_fields" "_law_fields" sFields f fd) (Z : Kl P K mg C) (T : Tx P mg) : FnOk P w K mg base CX0 2 f fd ["_law_some"] (spFields C) := by
  refine F.ok scFields (fun vs H Q E h => ?_) (fun cdv A outer s H vs Q E hr h => ?_)
  · obtain ⟨L, es, v, rfl, _⟩ := h
    rfl
  · obtain ⟨L, es, v, rfl, hL, r, k⟩ := h
    refine ⟨_, (pss_cons (ps_set (i := 1) scFields.nd rfl (Or.inl rfl) (pe_op op_cat (pe_lc (own := [("_law_one", 2)]) (g := gName 2) (tt := tYes) (by rfl) scFields.nd (pi_list (pe_slice sl_list (pv 0) po_none (po_some pe_int))) (blkOk_by (own := [("_law_one", 2)]) (N := ["_law_some", "_law_found", "_law_one"]) (sc := defScope sFields) (by decide +kernel)) (fun _ _ _ _ _ => pg_name (i := 2) scFields.nd rfl (Or.inl rfl)) (fun _ _ _ _ _ => pts_nil) (fun _ _ _ _ _ => (pe_xatK (K := K) rfl (pv 2)))) (pe_lst (pa_cons (pe_xatA (pe_ix ix_list (pv 0) pe_int (fun _ _ => rfl))) (pa_cons (pe_xatA (pe_ix ix_list (pv 0) pe_int (fun _ _ => rfl))) (pa_cons (pe_xatA (pe_ix ix_list (pv 0) pe_int (fun _ _ => rfl))) (pa_cons (pe_xatA (pe_ix ix_list (pv 0) pe_int (fun _ _ => rfl))) pa_nil)))))))
    (pss_one (ps_ret (pe_op op_cat (pv 1) (pe_lst (pa_cons (pe_xatA (pe_ix ix_list (pv 0) pe_int (fun _ _ => rfl))) (pa_cons (pe_xatA (pe_ix ix_list (pv 0) pe_int (fun _ _ => rfl))) (pa_cons (pe_xatA (pe_ix ix_list (pv 0) pe_int (fun _ _ => rfl))) pa_nil)))))))), ?_⟩
    have len : es.length = 19 := r.len
    obtain ⟨e8, q8, h8⟩ := spL_at r 8 (by decide)
    have g8 : (es.map V.ref)[8]? = some (V.ref e8) := by rw [List.getElem?_map, q8]; rfl
    obtain ⟨e9, q9, h9⟩ := spL_at r 9 (by decide)
    have g9 : (es.map V.ref)[9]? = some (V.ref e9) := by rw [List.getElem?_map, q9]; rfl
    obtain ⟨e10, q10, h10⟩ := spL_at r 10 (by decide)
    have g10 : (es.map V.ref)[10]? = some (V.ref e10) := by rw [List.getElem?_map, q10]; rfl
    obtain ⟨e13, q13, h13⟩ := spL_at r 13 (by decide)
    have g13 : (es.map V.ref)[13]? = some (V.ref e13) := by rw [List.getElem?_map, q13]; rfl
    obtain ⟨e14, q14, h14⟩ := spL_at r 14 (by decide)
    have g14 : (es.map V.ref)[14]? = some (V.ref e14) := by rw [List.getElem?_map, q14]; rfl
    obtain ⟨e15, q15, h15⟩ := spL_at r 15 (by decide)
    have g15 : (es.map V.ref)[15]? = some (V.ref e15) := by rw [List.getElem?_map, q15]; rfl
    obtain ⟨e16, q16, h16⟩ := spL_at r 16 (by decide)
    have g16 : (es.map V.ref)[16]? = some (V.ref e16) := by rw [List.getElem?_map, q16]; rfl

    -- the first eight
    refine ⟨_, rfl, _, rfl, L, _, rfl, SqL.of hL, fun q hq => ?_⟩
    have s1 : Same H (upd H q (.lst (cutV (es.map V.ref) none (some 8)))) := new_same hq
    have c8 : cutV (es.map V.ref) none (some 8) = (es.map V.ref).take 8 := by
      unfold cutV
      rw [List.length_map, len]
      rfl
    have l8 : (cutV (es.map V.ref) none (some 8)).length = 8 := by
      rw [c8, List.length_take, List.length_map, len]
      rfl
    refine ⟨q, rfl, ⟨_, SqL.of upd_same⟩, fun D hD => ?_⟩
    refine lc_map (fun _ => v) hD (SqL.of upd_same) (by rw [l8]; decide) (fun _ => rfl) ?_ ?_
    · intro i x H' hi s2 Q' k'
      have hi8 : i < 8 := by
        have := (List.getElem?_eq_some_iff.mp hi).1
        omega
      rw [c8, List.getElem?_take_of_lt hi8, List.getElem?_map] at hi
      obtain ⟨e, he, h⟩ := spL_at r i (by omega)
      rw [he] at hi
      cases hi
      have E := Z.at_ i (by omega)
      have hf : fl i = some "value" := by
        rcases i with _ | _ | _ | _ | _ | _ | _ | _ | i
        all_goals first | rfl | omega
      rw [hf] at h E
      obtain ⟨d, h1, h2⟩ := h.same (s1.trans s2)
      exact ⟨_, rfl, e, C i, d, v, rfl, h1, h2, E.xok, E.get, k' _ (Same.refl _)⟩
    · intro H2 s2 hD2
      rw [l8] at hD2
      have s3 := s1.trans s2
      refine lst_ps (H0 := H) (vs := List.replicate 4 v) (pv_cons (pv_fld rfl hL g8 h8 Z.e8.xok Z.e8.get fun _ _ => rfl) (pv_cons (pv_fld rfl hL g9 h9 Z.e9.xok Z.e9.get fun _ _ => rfl) (pv_cons (pv_fld rfl hL g10 h10 Z.e10.xok Z.e10.get fun _ _ => rfl) (pv_cons (pv_fld rfl hL g13 h13 Z.e13.xok Z.e13.get fun _ _ => rfl) pv_nil)))) s3 (by rw [List.length_replicate]; decide) fun p H3 s4 hp => ?_
      refine ⟨D, p, _, _, rfl, rfl, s4 _ _ hD2, hp, by rw [List.length_replicate, List.length_map, List.length_range]; decide, fun p2 hp2 => ?_⟩
      have s5 := (s3.trans s4).trans (new_same (o := .lst ((List.range 8).map (fun _ => v) ++ List.replicate 4 v)) hp2)
      refine cat_ps (H0 := H) (vs := List.replicate 3 v) rfl upd_same (by rw [List.length_append, List.length_replicate, List.length_map, List.length_range]; decide) (pv_cons (pv_fld rfl hL g14 h14 Z.e14.xok Z.e14.get fun _ _ => rfl) (pv_cons (pv_fld rfl hL g15 h15 Z.e15.xok Z.e15.get fun _ _ => rfl) (pv_cons (pv_fld rfl hL g16 h16 Z.e16.xok Z.e16.get fun _ _ => rfl) pv_nil))) s5 (by rw [List.length_replicate]; decide) fun p4 H4 s6 hp4 => ?_
      exact k p4 H4 (s5.trans s6) hp4

abbrev sWhich : Stmt := topS 28
/-- of which class the k-th is -/
def whV (k : Nat) : List V := (List.range 19).map fun j => V.bl (decide (j = k))
theorem wh_eq : ∀ k, k < 19 → [V.bl (decide (nm k = "InvalidTable")), V.bl (decide (nm k = "InvalidEcho")), V.bl (decide (nm k = "InvalidSong")), V.bl (decide (nm k = "InvalidRow")), V.bl (decide (nm k = "InvalidWishes")), V.bl (decide (nm k = "InvalidFixed")), V.bl (decide (nm k = "InvalidPlace")), V.bl (decide (nm k = "InvalidNumber")), V.bl (decide (nm k = "InvalidText")), V.bl (decide (nm k = "InvalidLine")), V.bl (decide (nm k = "InvalidDeed")), V.bl (decide (nm k = "OtherLetters")), V.bl (decide (nm k = "Barred")), V.bl (decide (nm k = "NoEcho")), V.bl (decide (nm k = "NoRow")), V.bl (decide (nm k = "TooLong")), V.bl (decide (nm k = "TooFar")), V.bl (decide (nm k = "NothingToUndo")), V.bl (decide (nm k = "NothingToRedo"))] = whV k := by decide +kernel
theorem scWhich : FnScope ["_law_error", "_law_found"] ["_law_error"] (defScope sWhich) := ⟨rfl, rfl, rfl, by decide +kernel, rfl, by decide +kernel, by decide +kernel⟩
def spWhich (C : Nat → Addr) : Sp := fun vs H Q _ => ∃ e k v, vs = [.ref e] ∧ k < 19 ∧ ErrAt H v e (C k) (fl k) ∧ ∀ F H', Same H H' → H' F = some (.lst (whV k)) → Q (.ref F) H'
theorem okWhich {f : Addr} {fd : FuncData} (F : Fun K "_law_which" "_law_which" sWhich f fd) (Z : Kl P K mg C) (T : Tx P mg) : FnOk P w K mg base CX0 2 f fd ["_law_error"] (spWhich C) := by
  refine F.ok scWhich (fun vs H Q E h => ?_) (fun cdv A outer s H vs Q E hr h => ?_)
  · obtain ⟨e, k, v, rfl, _⟩ := h
    rfl
  · obtain ⟨e, k, v, rfl, hk, h, q⟩ := h
    have E1 := Z.at_ k hk
    refine ⟨_, (pss_cons (ps_set (i := 1) scWhich.nd rfl (Or.inl rfl) (pe_lst (pa_cons (pe_callB call_isX (by rfl) T.n_isinstance (by decide +kernel) (pa_cons (pv 0) (pa_cons (pe_glob (v := .ref (C 0)) rfl Z.e0.g rfl) pa_nil))) (pa_cons (pe_callB call_isX (by rfl) T.n_isinstance (by decide +kernel) (pa_cons (pv 0) (pa_cons (pe_glob (v := .ref (C 1)) rfl Z.e1.g rfl) pa_nil))) (pa_cons (pe_callB call_isX (by rfl) T.n_isinstance (by decide +kernel) (pa_cons (pv 0) (pa_cons (pe_glob (v := .ref (C 2)) rfl Z.e2.g rfl) pa_nil))) pa_nil)))))
    (pss_cons (ps_set (i := 1) scWhich.nd rfl (Or.inl rfl) (pe_op op_cat (pv 1) (pe_lst (pa_cons (pe_callB call_isX (by rfl) T.n_isinstance (by decide +kernel) (pa_cons (pv 0) (pa_cons (pe_glob (v := .ref (C 3)) rfl Z.e3.g rfl) pa_nil))) (pa_cons (pe_callB call_isX (by rfl) T.n_isinstance (by decide +kernel) (pa_cons (pv 0) (pa_cons (pe_glob (v := .ref (C 4)) rfl Z.e4.g rfl) pa_nil))) (pa_cons (pe_callB call_isX (by rfl) T.n_isinstance (by decide +kernel) (pa_cons (pv 0) (pa_cons (pe_glob (v := .ref (C 5)) rfl Z.e5.g rfl) pa_nil))) pa_nil))))))
    (pss_cons (ps_set (i := 1) scWhich.nd rfl (Or.inl rfl) (pe_op op_cat (pv 1) (pe_lst (pa_cons (pe_callB call_isX (by rfl) T.n_isinstance (by decide +kernel) (pa_cons (pv 0) (pa_cons (pe_glob (v := .ref (C 6)) rfl Z.e6.g rfl) pa_nil))) (pa_cons (pe_callB call_isX (by rfl) T.n_isinstance (by decide +kernel) (pa_cons (pv 0) (pa_cons (pe_glob (v := .ref (C 7)) rfl Z.e7.g rfl) pa_nil))) (pa_cons (pe_callB call_isX (by rfl) T.n_isinstance (by decide +kernel) (pa_cons (pv 0) (pa_cons (pe_glob (v := .ref (C 8)) rfl Z.e8.g rfl) pa_nil))) pa_nil))))))
    (pss_cons (ps_set (i := 1) scWhich.nd rfl (Or.inl rfl) (pe_op op_cat (pv 1) (pe_lst (pa_cons (pe_callB call_isX (by rfl) T.n_isinstance (by decide +kernel) (pa_cons (pv 0) (pa_cons (pe_glob (v := .ref (C 9)) rfl Z.e9.g rfl) pa_nil))) (pa_cons (pe_callB call_isX (by rfl) T.n_isinstance (by decide +kernel) (pa_cons (pv 0) (pa_cons (pe_glob (v := .ref (C 10)) rfl Z.e10.g rfl) pa_nil))) (pa_cons (pe_callB call_isX (by rfl) T.n_isinstance (by decide +kernel) (pa_cons (pv 0) (pa_cons (pe_glob (v := .ref (C 11)) rfl Z.e11.g rfl) pa_nil))) pa_nil))))))
    (pss_cons (ps_set (i := 1) scWhich.nd rfl (Or.inl rfl) (pe_op op_cat (pv 1) (pe_lst (pa_cons (pe_callB call_isX (by rfl) T.n_isinstance (by decide +kernel) (pa_cons (pv 0) (pa_cons (pe_glob (v := .ref (C 12)) rfl Z.e12.g rfl) pa_nil))) (pa_cons (pe_callB call_isX (by rfl) T.n_isinstance (by decide +kernel) (pa_cons (pv 0) (pa_cons (pe_glob (v := .ref (C 13)) rfl Z.e13.g rfl) pa_nil))) (pa_cons (pe_callB call_isX (by rfl) T.n_isinstance (by decide +kernel) (pa_cons (pv 0) (pa_cons (pe_glob (v := .ref (C 14)) rfl Z.e14.g rfl) pa_nil))) pa_nil))))))
    (pss_cons (ps_set (i := 1) scWhich.nd rfl (Or.inl rfl) (pe_op op_cat (pv 1) (pe_lst (pa_cons (pe_callB call_isX (by rfl) T.n_isinstance (by decide +kernel) (pa_cons (pv 0) (pa_cons (pe_glob (v := .ref (C 15)) rfl Z.e15.g rfl) pa_nil))) (pa_cons (pe_callB call_isX (by rfl) T.n_isinstance (by decide +kernel) (pa_cons (pv 0) (pa_cons (pe_glob (v := .ref (C 16)) rfl Z.e16.g rfl) pa_nil))) (pa_cons (pe_callB call_isX (by rfl) T.n_isinstance (by decide +kernel) (pa_cons (pv 0) (pa_cons (pe_glob (v := .ref (C 17)) rfl Z.e17.g rfl) pa_nil))) pa_nil))))))
    (pss_one (ps_ret (pe_op op_cat (pv 1) (pe_lst (pa_cons (pe_callB call_isX (by rfl) T.n_isinstance (by decide +kernel) (pa_cons (pv 0) (pa_cons (pe_glob (v := .ref (C 18)) rfl Z.e18.g rfl) pa_nil))) pa_nil))))))))))), ?_⟩
    refine st_ps (H0 := H) (pv_cons (pv_is E1 h rfl (fun _ z => z) (E1.kit Z.e0)) (pv_cons (pv_is E1 h rfl (fun _ z => z) (E1.kit Z.e1)) (pv_cons (pv_is E1 h rfl (fun _ z => z) (E1.kit Z.e2)) pv_nil))) (Same.refl _) (Nat.le_of_ble_eq_true rfl) fun p0 H0 s0 hp0 => ?_
    refine st_catps (H0 := H) rfl hp0 (Nat.le_of_ble_eq_true rfl) (pv_cons (pv_is E1 h rfl (fun _ z => z) (E1.kit Z.e3)) (pv_cons (pv_is E1 h rfl (fun _ z => z) (E1.kit Z.e4)) (pv_cons (pv_is E1 h rfl (fun _ z => z) (E1.kit Z.e5)) pv_nil))) s0 (Nat.le_of_ble_eq_true rfl) fun p1 H1 s1 hp1 => ?_
    refine st_catps (H0 := H) rfl hp1 (Nat.le_of_ble_eq_true rfl) (pv_cons (pv_is E1 h rfl (fun _ z => z) (E1.kit Z.e6)) (pv_cons (pv_is E1 h rfl (fun _ z => z) (E1.kit Z.e7)) (pv_cons (pv_is E1 h rfl (fun _ z => z) (E1.kit Z.e8)) pv_nil))) (s0.trans s1) (Nat.le_of_ble_eq_true rfl) fun p2 H2 s2 hp2 => ?_
    refine st_catps (H0 := H) rfl hp2 (Nat.le_of_ble_eq_true rfl) (pv_cons (pv_is E1 h rfl (fun _ z => z) (E1.kit Z.e9)) (pv_cons (pv_is E1 h rfl (fun _ z => z) (E1.kit Z.e10)) (pv_cons (pv_is E1 h rfl (fun _ z => z) (E1.kit Z.e11)) pv_nil))) ((s0.trans s1).trans s2) (Nat.le_of_ble_eq_true rfl) fun p3 H3 s3 hp3 => ?_
    refine st_catps (H0 := H) rfl hp3 (Nat.le_of_ble_eq_true rfl) (pv_cons (pv_is E1 h rfl (fun _ z => z) (E1.kit Z.e12)) (pv_cons (pv_is E1 h rfl (fun _ z => z) (E1.kit Z.e13)) (pv_cons (pv_is E1 h rfl (fun _ z => z) (E1.kit Z.e14)) pv_nil))) (((s0.trans s1).trans s2).trans s3) (Nat.le_of_ble_eq_true rfl) fun p4 H4 s4 hp4 => ?_
    refine st_catps (H0 := H) rfl hp4 (Nat.le_of_ble_eq_true rfl) (pv_cons (pv_is E1 h rfl (fun _ z => z) (E1.kit Z.e15)) (pv_cons (pv_is E1 h rfl (fun _ z => z) (E1.kit Z.e16)) (pv_cons (pv_is E1 h rfl (fun _ z => z) (E1.kit Z.e17)) pv_nil))) ((((s0.trans s1).trans s2).trans s3).trans s4) (Nat.le_of_ble_eq_true rfl) fun p5 H5 s5 hp5 => ?_
    refine cat_ps (H0 := H) rfl hp5 (Nat.le_of_ble_eq_true rfl) (pv_cons (pv_is E1 h rfl (fun _ z => z) (E1.kit Z.e18)) pv_nil) (((((s0.trans s1).trans s2).trans s3).trans s4).trans s5) (Nat.le_of_ble_eq_true rfl) fun p6 H6 s6 hp6 => ?_
    refine q p6 H6 ((((((s0.trans s1).trans s2).trans s3).trans s4).trans s5).trans s6) ?_
    rw [← wh_eq k hk]
    exact hp6

abbrev sUnder : Stmt := topS 29
/-- under which of Python's errors the k-th is -/
def dueL : List Str := ["v", "v", "v", "v", "v", "v", "v", "v", "v", "v", "v", "v", "l", "li", "li", "o", "o", "r", "r"]
def unL (k : Nat) : List Str := [(if (bs k).bm.contains (.type "ValueError") then (Str.ofString "v") else Str.empty), (if (bs k).bm.contains (.type "LookupError") then (Str.ofString "l") else Str.empty), (if (bs k).bm.contains (.type "IndexError") then (Str.ofString "i") else Str.empty), (if (bs k).bm.contains (.type "KeyError") then (Str.ofString "k") else Str.empty), (if (bs k).bm.contains (.type "OverflowError") then (Str.ofString "o") else Str.empty), (if (bs k).bm.contains (.type "RuntimeError") then (Str.ofString "r") else Str.empty), (if (bs k).bm.contains (.type "TypeError") then (Str.ofString "t") else Str.empty)]
theorem un_eq : ∀ k, k < 19 → Txt.join (Str.ofString "") (unL k) = dueL.getD k (Str.ofString "") ∧ ((unL k).map (·.length)).sum + (unL k).length * (Str.ofString "").length ≤ 16777216 := by decide +kernel
theorem scUnder : FnScope ["_law_error", "_law_found"] ["_law_error"] (defScope sUnder) := ⟨rfl, rfl, rfl, by decide +kernel, rfl, by decide +kernel, by decide +kernel⟩
def spUnder (C : Nat → Addr) : Sp := fun vs H Q _ => ∃ e k v, vs = [.ref e] ∧ k < 19 ∧ ErrAt H v e (C k) (fl k) ∧ ∀ H', Same H H' → Q (.str (dueL.getD k (Str.ofString ""))) H'
theorem okUnder {f : Addr} {fd : FuncData} (F : Fun K "_law_under" "_law_under" sUnder f fd) (Z : Kl P K mg C) (T : Tx P mg) : FnOk P w K mg base CX0 2 f fd ["_law_error"] (spUnder C) := by
  refine F.ok scUnder (fun vs H Q E h => ?_) (fun cdv A outer s H vs Q E hr h => ?_)
  · obtain ⟨e, k, v, rfl, _⟩ := h
    rfl
  · obtain ⟨e, k, v, rfl, hk, h, q⟩ := h
    have E1 := Z.at_ k hk
    refine ⟨_, (pss_cons (ps_set (i := 1) scUnder.nd rfl (Or.inl rfl) (pe_lst (pa_cons (pe_op op_repS pe_str (pe_callTy call_int1 (by rfl) T.n_int (by decide +kernel) (pa_cons (pe_callB call_isX (by rfl) T.n_isinstance (by decide +kernel) (pa_cons (pv 0) (pa_cons (pe_bltn (v := .ty "ValueError") (by rfl) T.n_ValueError (by decide +kernel) rfl) pa_nil))) pa_nil))) (pa_cons (pe_op op_repS pe_str (pe_callTy call_int1 (by rfl) T.n_int (by decide +kernel) (pa_cons (pe_callB call_isX (by rfl) T.n_isinstance (by decide +kernel) (pa_cons (pv 0) (pa_cons (pe_bltn (v := .ty "LookupError") (by rfl) T.n_LookupError (by decide +kernel) rfl) pa_nil))) pa_nil))) pa_nil))))
    (pss_cons (ps_set (i := 1) scUnder.nd rfl (Or.inl rfl) (pe_op op_cat (pv 1) (pe_lst (pa_cons (pe_op op_repS pe_str (pe_callTy call_int1 (by rfl) T.n_int (by decide +kernel) (pa_cons (pe_callB call_isX (by rfl) T.n_isinstance (by decide +kernel) (pa_cons (pv 0) (pa_cons (pe_bltn (v := .ty "IndexError") (by rfl) T.n_IndexError (by decide +kernel) rfl) pa_nil))) pa_nil))) (pa_cons (pe_op op_repS pe_str (pe_callTy call_int1 (by rfl) T.n_int (by decide +kernel) (pa_cons (pe_callB call_isX (by rfl) T.n_isinstance (by decide +kernel) (pa_cons (pv 0) (pa_cons (pe_bltn (v := .ty "KeyError") (by rfl) T.n_KeyError (by decide +kernel) rfl) pa_nil))) pa_nil))) pa_nil)))))
    (pss_cons (ps_set (i := 1) scUnder.nd rfl (Or.inl rfl) (pe_op op_cat (pv 1) (pe_lst (pa_cons (pe_op op_repS pe_str (pe_callTy call_int1 (by rfl) T.n_int (by decide +kernel) (pa_cons (pe_callB call_isX (by rfl) T.n_isinstance (by decide +kernel) (pa_cons (pv 0) (pa_cons (pe_bltn (v := .ty "OverflowError") (by rfl) T.n_OverflowError (by decide +kernel) rfl) pa_nil))) pa_nil))) (pa_cons (pe_op op_repS pe_str (pe_callTy call_int1 (by rfl) T.n_int (by decide +kernel) (pa_cons (pe_callB call_isX (by rfl) T.n_isinstance (by decide +kernel) (pa_cons (pv 0) (pa_cons (pe_bltn (v := .ty "RuntimeError") (by rfl) T.n_RuntimeError (by decide +kernel) rfl) pa_nil))) pa_nil))) pa_nil)))))
    (pss_one (ps_ret (pe_join pe_str (pe_op op_cat (pv 1) (pe_lst (pa_cons (pe_op op_repS pe_str (pe_callTy call_int1 (by rfl) T.n_int (by decide +kernel) (pa_cons (pe_callB call_isX (by rfl) T.n_isinstance (by decide +kernel) (pa_cons (pv 0) (pa_cons (pe_bltn (v := .ty "TypeError") (by rfl) T.n_TypeError (by decide +kernel) rfl) pa_nil))) pa_nil))) pa_nil))))))))), ?_⟩
    refine st_ps (H0 := H) (pv_cons (pv_txt E1 h rfl (fun _ z => z) (E1.kitT (by decide +kernel)) (fun _ _ z => ⟨_, _, rfl, rfl, z⟩) (fun _ _ z => .inr ⟨_, rfl, z⟩)) (pv_cons (pv_txt E1 h rfl (fun _ z => z) (E1.kitT (by decide +kernel)) (fun _ _ z => ⟨_, _, rfl, rfl, z⟩) (fun _ _ z => .inr ⟨_, rfl, z⟩)) pv_nil)) (Same.refl _) (Nat.le_of_ble_eq_true rfl) fun p0 H0 s0 hp0 => ?_
    refine st_catps (H0 := H) rfl hp0 (Nat.le_of_ble_eq_true rfl) (pv_cons (pv_txt E1 h rfl (fun _ z => z) (E1.kitT (by decide +kernel)) (fun _ _ z => ⟨_, _, rfl, rfl, z⟩) (fun _ _ z => .inr ⟨_, rfl, z⟩)) (pv_cons (pv_txt E1 h rfl (fun _ z => z) (E1.kitT (by decide +kernel)) (fun _ _ z => ⟨_, _, rfl, rfl, z⟩) (fun _ _ z => .inr ⟨_, rfl, z⟩)) pv_nil)) s0 (Nat.le_of_ble_eq_true rfl) fun p1 H1 s1 hp1 => ?_
    refine st_catps (H0 := H) rfl hp1 (Nat.le_of_ble_eq_true rfl) (pv_cons (pv_txt E1 h rfl (fun _ z => z) (E1.kitT (by decide +kernel)) (fun _ _ z => ⟨_, _, rfl, rfl, z⟩) (fun _ _ z => .inr ⟨_, rfl, z⟩)) (pv_cons (pv_txt E1 h rfl (fun _ z => z) (E1.kitT (by decide +kernel)) (fun _ _ z => ⟨_, _, rfl, rfl, z⟩) (fun _ _ z => .inr ⟨_, rfl, z⟩)) pv_nil)) (s0.trans s1) (Nat.le_of_ble_eq_true rfl) fun p2 H2 s2 hp2 => ?_
    refine ⟨⟨_, rfl⟩, cat_ps (H0 := H) rfl hp2 (Nat.le_of_ble_eq_true rfl) (pv_cons (pv_txt E1 h rfl (fun _ z => z) (E1.kitT (by decide +kernel)) (fun _ _ z => ⟨_, _, rfl, rfl, z⟩) (fun _ _ z => .inr ⟨_, rfl, z⟩)) pv_nil) ((s0.trans s1).trans s2) (Nat.le_of_ble_eq_true rfl) fun p3 H3 s3 hp3 => ?_⟩
    refine ⟨_, p3, unL k, rfl, rfl, .inl (SqL.of hp3), (un_eq k hk).2, ?_⟩
    rw [(un_eq k hk).1]
    exact q H3 (((s0.trans s1).trans s2).trans s3)
end
end VK

namespace VK
open PySem PySem.VK PySem.Spec PyProof.Rows L2
/-! ## data is one; what doesn't lean on an address -/
theorem Fl.det {v : V} {d d' : PyData} (h : Fl v d) (h' : Fl v d') : d = d' := by cases h <;> cases h' <;> rfl
theorem fls_det : ∀ {kvs : List (Key × V)} {ds ds' : List (PyData × PyData)}, Paired (fun (p : Key × V) (q : PyData × PyData) => q.1 = keyD p.1 ∧ Fl p.2 q.2) kvs ds → Paired (fun (p : Key × V) (q : PyData × PyData) => q.1 = keyD p.1 ∧ Fl p.2 q.2) kvs ds' → ds = ds'
  | _, _, _, .nil, .nil => rfl
  | _, _, _, .cons a t, .cons b u => by
    have e1 := a.1.trans b.1.symm
    have e2 := a.2.det b.2
    rw [Prod.ext e1 e2, fls_det t u]
mutual
theorem Dt.det {H : Hp} : ∀ (d : PyData) (v : V) (d' : PyData), Dt H v d → Dt H v d' → d = d'
  | .none, _, _, h, h' => by cases h; cases h'; rfl
  | .bool _, _, _, h, h' => by cases h; cases h'; rfl
  | .int _, _, _, h, h' => by cases h; cases h'; rfl
  | .str _, _, _, h, h' => by cases h; cases h'; rfl
  | .list ds, _, d', h, h' => by
    cases h with
    | lst ha hs =>
      cases h' with
      | lst hb ht =>
        have e := ha.symm.trans hb
        cases e
        rw [DtAll.det ds _ _ hs ht]
      | tup hb ht => cases ha.symm.trans hb
      | dct hb ht => cases ha.symm.trans hb
  | .tuple ds, _, d', h, h' => by
    cases h with
    | tup ha hs =>
      cases h' with
      | tup hb ht =>
        have e := ha.symm.trans hb
        cases e
        rw [DtAll.det ds _ _ hs ht]
      | lst hb ht => cases ha.symm.trans hb
      | dct hb ht => cases ha.symm.trans hb
  | .dict ds, _, d', h, h' => by
    cases h with
    | dct ha hs =>
      cases h' with
      | dct hb ht =>
        have e := ha.symm.trans hb
        cases e
        rw [fls_det hs ht]
      | lst hb ht => cases ha.symm.trans hb
      | tup hb ht => cases ha.symm.trans hb
theorem DtAll.det {H : Hp} : ∀ (ds : List PyData) (vs : List V) (ds' : List PyData), DtAll H vs ds → DtAll H vs ds' → ds = ds'
  | [], _, _, h, h' => by cases h; cases h'; rfl
  | d :: ds, _, _, h, h' => by
    cases h with
    | cons h1 h2 =>
      cases h' with
      | cons g1 g2 => rw [Dt.det d _ _ h1 g1, DtAll.det ds _ _ h2 g2]
end
mutual
theorem Dt.cut {H H' : Hp} {a : Addr} {da : PyData} (ha : Dt H (.ref a) da) (k : ∀ b o, H b = some o → b ≠ a → H' b = some o) : ∀ (d : PyData) (v : V), Dt H v d → sizeOf d < sizeOf da → Dt H' v d
  | .none, _, h, _ => by cases h; exact .non
  | .bool b, _, h, _ => by cases h; exact .bl b
  | .int i, _, h, _ => by cases h; exact .int i
  | .str x, _, h, _ => by cases h; exact .str x
  | .list ds, _, h, z => by
    have h0 := h
    cases h with
    | @lst b _ _ hb hs =>
      refine .lst (k _ _ hb fun e => ?_) (DtAll.cut ha k ds _ hs (by simp only [PyData.list.sizeOf_spec] at z; omega))
      subst e
      rw [Dt.det _ _ _ h0 ha] at z
      exact Nat.lt_irrefl _ z
  | .tuple ds, _, h, z => by
    have h0 := h
    cases h with
    | @tup b _ _ hb hs =>
      refine .tup (k _ _ hb fun e => ?_) (DtAll.cut ha k ds _ hs (by simp only [PyData.tuple.sizeOf_spec] at z; omega))
      subst e
      rw [Dt.det _ _ _ h0 ha] at z
      exact Nat.lt_irrefl _ z
  | .dict ds, _, h, z => by
    have h0 := h
    cases h with
    | @dct b _ _ hb hs =>
      refine .dct (k _ _ hb fun e => ?_) hs
      subst e
      rw [Dt.det _ _ _ h0 ha] at z
      exact Nat.lt_irrefl _ z
theorem DtAll.cut {H H' : Hp} {a : Addr} {da : PyData} (ha : Dt H (.ref a) da) (k : ∀ b o, H b = some o → b ≠ a → H' b = some o) : ∀ (ds : List PyData) (vs : List V), DtAll H vs ds → sizeOf ds < sizeOf da → DtAll H' vs ds
  | [], _, h, _ => by cases h; exact .nil
  | d :: ds, _, h, z => by
    cases h with
    | cons h1 h2 =>
      simp only [List.cons.sizeOf_spec] at z
      exact .cons (Dt.cut ha k d _ h1 (by omega)) (DtAll.cut ha k ds _ h2 (by omega))
end
/-- xs.append(9) -/
theorem Dt.app9 {H : Hp} {a : Addr} {xs : List V} {ds : List PyData} (h : H a = some (.lst xs)) (hs : DtAll H xs ds) : Dt (upd H a (.lst (xs ++ [.int 9]))) (.ref a) (.list (ds ++ [.int 9])) := by
  refine .lst upd_same (DtAll.append (DtAll.cut (.lst h hs) (fun b o e hb => by rw [upd_ne hb]; exact e) ds xs hs (by simp only [PyData.list.sizeOf_spec]; omega)) (.cons (.int 9) .nil))
/-! ## lists that are made -/
def EvL (te : TE) (σ : L2.St) (H0 : Hp) (vs : List V) : Prop := ∀ H Q, Same H0 H → (∀ p H1, Same H H1 → H1 p = some (.lst vs) → Q (.ref p) H1) → te σ H Q
section
variable {K : PySem.W.Frag} {σ : L2.St} {H0 H : Hp} {te tf : TE} {ta : TA} {v : V} {vs ws : List V} {i : Nat} {Q : VK}
theorem ev_lst (h : EvP ta σ H0 vs) (hl : vs.length ≤ 10000) : EvL (tLst ta) σ H0 vs := fun H Q s k => lst_ps h s hl k
theorem ev_rep {k : Int} (h : EvL te σ H0 vs) (h0 : 0 ≤ k) (h1 : k < 1000) (hl : vs.length * k.toNat ≤ 10000) : EvL (tOp rRep te (tC (.int k))) σ H0 (List.replicate k.toNat vs).flatten := fun H Q s q =>
  h H _ s fun p H1 s1 hp => ⟨p, k, vs, rfl, rfl, hp, by omega, by omega, Nat.le_trans hl (by decide), fun p2 hp2 => q p2 _ (s1.trans (new_same hp2)) upd_same⟩
theorem ev_cat (h : EvL te σ H0 vs) (g : EvL tf σ H0 ws) (hl : vs.length ≤ 10000) (hm : ws.length ≤ 10000) : EvL (tOp rCat te tf) σ H0 (vs ++ ws) := fun H Q s q =>
  h H _ s fun p H1 s1 hp => g H1 _ (s.trans s1) fun p2 H2 s2 hp2 => ⟨p, p2, _, _, rfl, rfl, s2 _ _ hp, hp2, Nat.le_trans (Nat.add_le_add hl hm) (by decide), fun p3 hp3 => q p3 _ ((s1.trans s2).trans (new_same hp3)) upd_same⟩
theorem pv_str {x : Str} : EvP1 (tC (.str x)) σ H0 (.str x) := fun H Q s q => q
theorem pv_var (h : σ[i]? = some (some v)) : EvP1 (tVar i) σ H0 v := fun H Q s q => ⟨_, h, q⟩
end
/-! ## texts and bools in lists, as data -/
theorem dpAll_str {K : PySem.W.Frag} {H : Hp} : ∀ ss : List Str, DpAll K H (ss.map V.str) (ss.map PyData.str)
  | [] => .nil
  | s :: ss => .cons (.str s) (dpAll_str ss)
theorem dpAll_bl {K : PySem.W.Frag} {H : Hp} : ∀ ss : List Bool, DpAll K H (ss.map V.bl) (ss.map PyData.bool)
  | [] => .nil
  | s :: ss => .cons (.bl s) (dpAll_bl ss)
theorem strs_lay : ∀ ss : List Str, (∀ s ∈ ss, PyData.strOk s = true) → PyData.canLayAll0 (ss.map PyData.str) = true ∧ PyData.depthAll (ss.map PyData.str) = 0
  | [], _ => ⟨by simp only [List.map_nil, PyData.canLayAll0], by simp only [List.map_nil, PyData.depthAll]⟩
  | s :: ss, h => by
    have r := strs_lay ss fun x hx => h x (List.mem_cons_of_mem _ hx)
    have r0 := h s List.mem_cons_self
    exact ⟨by simp only [List.map_cons, PyData.canLayAll0, PyData.canLay0, r0, r.1]; rfl, by simp only [List.map_cons, PyData.depthAll, PyData.depth, r.2]; rfl⟩
theorem bls_lay : ∀ ss : List Bool, PyData.canLayAll0 (ss.map PyData.bool) = true ∧ PyData.depthAll (ss.map PyData.bool) = 0
  | [] => ⟨by simp only [List.map_nil, PyData.canLayAll0], by simp only [List.map_nil, PyData.depthAll]⟩
  | s :: ss => by
    have r := bls_lay ss
    exact ⟨by simp only [List.map_cons, PyData.canLayAll0, PyData.canLay0, r.1]; rfl, by simp only [List.map_cons, PyData.depthAll, PyData.depth, r.2]; rfl⟩
theorem shaped_strs {ss : List Str} (h : ∀ s ∈ ss, PyData.strOk s = true) : SeqAt.shaped (.list (ss.map PyData.str)) = true := by
  have r := strs_lay ss h
  unfold SeqAt.shaped
  simp only [PyData.canLay0, PyData.depth, r.1, r.2]
  decide
theorem shaped_bls (ss : List Bool) : SeqAt.shaped (.list (ss.map PyData.bool)) = true := by
  have r := bls_lay ss
  unfold SeqAt.shaped
  simp only [PyData.canLay0, PyData.depth, r.1, r.2]
  decide
/-- two lists of the same texts: != is False -/
theorem ne_strs {K : PySem.W.Frag} {H : Hp} {p q : Addr} {ss : List Str} {Q : VK} (h : ∀ s ∈ ss, PyData.strOk s = true) (hp : H p = some (.lst (ss.map V.str))) (hq : H q = some (.lst (ss.map V.str))) (k : Q (.bl false) H) : rNeD K (.ref p) (.ref q) H Q := by
  have sh := shaped_strs h
  refine ⟨_, _, .lst (SqL.of hp) (dpAll_str ss), .lst (SqL.of hq) (dpAll_str ss), sh, sh, ?_⟩
  rw [PySem.SeqAt.eqv_refl _ (SeqAt.canLay_of_shaped sh)]
  exact k
theorem ne_bls {K : PySem.W.Frag} {H : Hp} {p q : Addr} {ss : List Bool} {Q : VK} (hp : H p = some (.lst (ss.map V.bl))) (hq : H q = some (.lst (ss.map V.bl))) (k : Q (.bl false) H) : rNeD K (.ref p) (.ref q) H Q := by
  have sh := shaped_bls ss
  refine ⟨_, _, .lst (SqL.of hp) (dpAll_bl ss), .lst (SqL.of hq) (dpAll_bl ss), sh, sh, ?_⟩
  rw [PySem.SeqAt.eqv_refl _ (SeqAt.canLay_of_shaped sh)]
  exact k
/-- is it a list -/
def isL : PyData → Bool
  | .list _ => true
  | _ => false
theorem Dt.isL {K : PySem.W.Frag} {H : Hp} {v : V} {d : PyData} (h : Dt H v d) : ∃ t, TyX K H v t ∧ PySem.W.kitOne K t (.type "list") = some (isL d) := by
  cases h with
  | non => exact ⟨_, .base .non, kit_ty (r := false) (by decide +kernel)⟩
  | bl b => exact ⟨_, .base (.bl b), kit_ty (r := false) (by decide +kernel)⟩
  | int i => exact ⟨_, .base (.int i), kit_ty (r := false) (by decide +kernel)⟩
  | str x => exact ⟨_, .base (.str x), kit_ty (r := false) (by decide +kernel)⟩
  | lst h _ => exact ⟨_, .base (.lst h), kit_ty (r := true) (by decide +kernel)⟩
  | tup h _ => exact ⟨_, .base (.tup h), kit_ty (r := false) (by decide +kernel)⟩
  | dct h _ => exact ⟨_, .base (.dK h), kit_ty (r := false) (by decide +kernel)⟩
end VK

namespace VK
open PySem PySem.VK PySem.Spec PyProof.Rows L2
theorem FnG.by_bodyN {P : Program} {w : World} {K : PySem.W.Frag} {mg : Str → Option Value} {base : Heap} {k : Nat} {f : Addr} {fd : FuncData} {N ps : List Str} {sp : Sp} {nm qual : Str} {st : Stmt} (F : Fun K nm qual st f fd) (S : FnScope N ps (defScope st)) (len : ∀ vs H Q E, sp vs H Q E → vs.length = ps.length)
    (hbody : ∀ (cdv : Value) (A : Around) (outer : List Env) (s : Shared) (H : Hp) (vs : List V) (Q : VK) (E : XK),
      Room k (A.deeper (envOfC qual (defScope st) s.heap.objs.size f cdv)) → (A.deeper (envOfC qual (defScope st) s.heap.objs.size f cdv)).guards = some [] → sp vs H Q E →
      ∃ t, PSs (cxOf CX0 P w K mg base N qual (defScope st) f cdv A outer s H E).nox (defBody st) t ∧ t { nx := fun _ H' => Q .non H', rt := Q } (start N vs) H) :
    FnG P w K mg base CX0 (k + 1) f fd ps sp :=
  FnG.by_body F S len fun cdv A outer s H vs Q E hr gu hsp => by
    obtain ⟨t, h, q⟩ := hbody cdv A outer s H vs Q E hr gu hsp
    exact ⟨t, h.nox, q⟩
/-- a def at hand -/
structure Ld (P : Program) (w : World) (K : PySem.W.Frag) (mg : Str → Option Value) (base : Heap) (nm : Str) (k : Nat) (f : Addr) (fd : FuncData) (ps : List Str) (sp : Sp) : Prop where
  G : FnOk P w K mg base CX0 k f fd ps sp
  b : Binds K fd ps []
  g : mg nm = some (.ref f)
  k : PySem.W.keepIn K (.ref f) = true
theorem st_ev {σ : L2.St} {te : TE} {vs : List V} {i : Nat} {u : TS} {D : Ends} {H : Hp} (h : EvL te σ H vs) (k : ∀ p H1, Same H H1 → H1 p = some (.lst vs) → u D (σ.set i (some (.ref p))) H1) : tSeq (tAsg te (gName i)) u D σ H := by
  show te σ H (fun x H1 => u D (σ.set i (some x)) H1)
  exact h H _ (Same.refl _) k
/-- the menu, looked at once -/
theorem menu_ok : ∀ d ∈ menuA ++ menuB, topDict d = true ∧ d.showable = true ∧ d.shown.length ≤ 10000 ∧ d.depth ≤ 60 ∧ PyData.strOk d.shown = true := by decide +kernel
def menuL : List (List PyData) := (menuA ++ menuB).filterMap fun | .list ds => some ds | _ => none
theorem menu_lst : ∀ ds ∈ menuL, ds.length ≤ 2 ∧ topDict (.list (ds ++ [PyData.int 9])) = true ∧ (PyData.list (ds ++ [PyData.int 9])).showable = true ∧ (PyData.list (ds ++ [PyData.int 9])).shown.length ≤ 10000 ∧ (PyData.list (ds ++ [PyData.int 9])).depth ≤ 60 ∧ PyData.strOk (PyData.list (ds ++ [PyData.int 9])).shown = true := by decide +kernel
theorem menuL_mem {ds : List PyData} (h : PyData.list ds ∈ menuA ++ menuB) : ds ∈ menuL := List.mem_filterMap.mpr ⟨_, h, rfl⟩
abbrev sLaw : Stmt := topS 30
theorem scLaw : FnScope ["_law_script", "_law_pen_here", "_law_due", "_law_turn", "_law_thing", "_law_kept", "_law_some", "_law_at", "_law_told", "_law_part", "_law_one", "_law_k"] ["_law_script"] (defScope sLaw) := ⟨rfl, rfl, rfl, by decide +kernel, rfl, by decide +kernel, by decide +kernel⟩
def spLaw (K : PySem.W.Frag) : Sp := fun vs H Q _ => ∃ (a : Addr) (ns : List Int), vs = [.ref a] ∧ SqL K H a (ns.map V.int) ∧ ns.length ≤ 63 ∧ ∀ H', Q (.bl true) H'
section
variable {P : Program} {w : World} {K : PySem.W.Frag} {mg : Str → Option Value} {base : Heap} {C : Nat → Addr}
theorem ok_law {f f1 f2 f3 f4 f5 f6 f7 : Addr} {fd d1 d2 d3 d4 d5 d6 d7 : FuncData} (F : Fun K "law" "law" sLaw f fd) (T : Tx P mg)
    (F1 : Ld P w K mg base "_law_pen" 1 f1 d1 ["_law_script"] (spPen K)) (F2 : Ld P w K mg base "_law_any" 3 f2 d2 ["_law_pen_here"] spAny)
    (F3 : Ld P w K mg base "_law_made" 2 f3 d3 ["_law_aa"] (spMade C)) (F4 : Ld P w K mg base "_law_made_so" 2 f4 d4 ["_law_aa"] (spMade C)) (F5 : Ld P w K mg base "_law_fields" 2 f5 d5 ["_law_some"] (spFields C))
    (F6 : Ld P w K mg base "_law_which" 2 f6 d6 ["_law_error"] (spWhich C)) (F7 : Ld P w K mg base "_law_under" 2 f7 d7 ["_law_error"] (spUnder C)) : FnG P w K mg base CX0 4 f fd ["_law_script"] (spLaw K) := by
  refine FnG.by_bodyN F scLaw (fun vs H Q E h => ?_) (fun cdv A outer s H vs Q E hr gu h => ?_)
  · obtain ⟨a, ns, rfl, _⟩ := h
    rfl
  · obtain ⟨a, ns, rfl, hS, hlen, k⟩ := h
    have hr1 := hr.mono (j := 1) (by decide)
    have hr2 := hr.mono (j := 2) (by decide)
    have hr3 := hr.mono (j := 3) (by decide)
    refine ⟨_, (pss_cons (ps_set (i := 1) scLaw.nd rfl (Or.inl rfl) (pe_call F1.G hr1 rfl F1.g F1.k F1.b .nil pass0 (pa_cons (pv 0) pa_nil)))
    (pss_cons (ps_set (i := 2) scLaw.nd rfl (Or.inl rfl) (pe_op op_cat (pe_op op_cat (pe_op op_cat (pe_op op_cat (pe_op op_rep (pe_lst (pa_cons pe_str pa_nil)) pe_int) (pe_lst (pa_cons pe_str pa_nil))) (pe_op op_rep (pe_lst (pa_cons pe_str pa_nil)) pe_int)) (pe_op op_rep (pe_lst (pa_cons pe_str pa_nil)) pe_int)) (pe_op op_rep (pe_lst (pa_cons pe_str pa_nil)) pe_int)))
    (pss_cons (ps_for PassesOwn.never rfl (pi_range1 rfl T.n_range (pa_cons pe_int pa_nil)) (pg_name (i := 3) scLaw.nd rfl (Or.inl rfl)) (pss_cons (ps_set (i := 4) scLaw.nd rfl (Or.inl rfl) (pe_call F2.G hr3 rfl F2.g F2.k F2.b .nil pass0 (pa_cons (pv 1) pa_nil)))
    (pss_cons (ps_set (i := 5) scLaw.nd rfl (Or.inl rfl) (pe_callB (call_reprK (K := K) rfl gu hr.units) (by rfl) T.n_repr (by decide +kernel) (pa_cons (pv 4) pa_nil)))
    (pss_cons (ps_for PassesOwn.never rfl (pi_tup (pe_tup (pa_cons (pe_call F3.G hr2 rfl F3.g F3.k F3.b .nil pass0 (pa_cons (pv 4) pa_nil)) (pa_cons (pe_call F4.G hr2 rfl F4.g F4.k F4.b .nil pass0 (pa_cons (pv 4) pa_nil)) pa_nil)))) (pg_name (i := 6) scLaw.nd rfl (Or.inl rfl)) (pss_cons (ps_if (PW.pt (pw_or (pt_cmpR (op_neD hr.units) (pe_lc (own := [("_law_part", 9)]) (g := gName 9) (tt := tYes) (by rfl) scLaw.nd (pi_list (pe_call F5.G hr2 rfl F5.g F5.k F5.b .nil pass0 (pa_cons (pv 6) pa_nil))) (blkOk_by (own := [("_law_part", 9)]) (N := ["_law_script", "_law_pen_here", "_law_due", "_law_turn", "_law_thing", "_law_kept", "_law_some", "_law_at", "_law_told", "_law_part", "_law_one", "_law_k"]) (sc := defScope sLaw) (by decide +kernel)) (fun _ _ _ _ _ => pg_name (i := 9) scLaw.nd rfl (Or.inl rfl)) (fun _ _ _ _ _ => pts_nil) (fun _ _ _ _ _ => (pe_callB (call_reprK (K := K) rfl gu hr.units) (by rfl) T.n_repr (by decide +kernel) (pa_cons (pv 9) pa_nil)))) (pe_op op_rep (pe_lst (pa_cons (pv 5) pa_nil)) pe_int) (nomark _)) (pw_or1 (pt_cmpR (op_neD hr.units) (pe_lc (own := [("_law_one", 10)]) (g := gName 10) (tt := tYes) (by rfl) scLaw.nd (pi_list (pv 6)) (blkOk_by (own := [("_law_one", 10)]) (N := ["_law_script", "_law_pen_here", "_law_due", "_law_turn", "_law_thing", "_law_kept", "_law_some", "_law_at", "_law_told", "_law_part", "_law_one", "_law_k"]) (sc := defScope sLaw) (by decide +kernel)) (fun _ _ _ _ _ => pg_name (i := 10) scLaw.nd rfl (Or.inl rfl)) (fun _ _ _ _ _ => pts_nil) (fun _ _ _ _ _ => (pe_call F7.G hr2 rfl F7.g F7.k F7.b .nil pass0 (pa_cons (pv 10) pa_nil)))) (pv 2) (nomark _))))) (pss_one (ps_ret pe_bl)) pss_nil)
    (pss_one (ps_for PassesOwn.never rfl (pi_range1 rfl T.n_range (pa_cons (pe_callB call_len_seq (by rfl) T.n_len (by decide +kernel) (pa_cons (pv 6) pa_nil)) pa_nil)) (pg_name (i := 7) scLaw.nd rfl (Or.inr rfl)) (pss_one (ps_if (pt_cmpR (op_neD hr.units) (pe_call F6.G hr2 rfl F6.g F6.k F6.b .nil pass0 (pa_cons (pe_ix ix_list (pv 6) (pv 7) (fun _ _ => rfl)) pa_nil)) (pe_lc (own := [("_law_k", 11)]) (g := gName 11) (tt := tYes) (by rfl) scLaw.nd (pi_range1 rfl T.n_range (pa_cons (pe_callB call_len_seq (by rfl) T.n_len (by decide +kernel) (pa_cons (pv 6) pa_nil)) pa_nil)) (blkOk_by (own := [("_law_k", 11)]) (N := ["_law_script", "_law_pen_here", "_law_due", "_law_turn", "_law_thing", "_law_kept", "_law_some", "_law_at", "_law_told", "_law_part", "_law_one", "_law_k"]) (sc := defScope sLaw) (by decide +kernel)) (fun _ _ _ _ _ => pg_name (i := 11) scLaw.nd rfl (Or.inl rfl)) (fun _ _ _ _ _ => pts_nil) (fun _ _ _ _ _ => (pe_cmpR op_eq (pv 11) (pv 7) (nomark _)))) (nomark _)) (pss_one (ps_ret pe_bl)) pss_nil))))))
    (pss_one (ps_if (pt_val (pe_callB call_isi (by rfl) T.n_isinstance (by decide +kernel) (pa_cons (pv 4) (pa_cons (pe_bltn (v := .ty "list") (by rfl) T.n_list (by decide +kernel) rfl) pa_nil)))) (pss_cons (ps_set (i := 8) scLaw.nd rfl (Or.inl rfl) (pe_call F5.G hr2 rfl F5.g F5.k F5.b .nil pass0 (pa_cons (pe_call F3.G hr2 rfl F3.g F3.k F3.b .nil pass0 (pa_cons (pv 4) pa_nil)) pa_nil)))
    (pss_cons (ps_expr (pe_bm PySem.F.plainAttrs_list PySem.F.slot_list_append PySem.F.type_list_append mt_append (pv 4) (pa_cons pe_int pa_nil)))
    (pss_one (ps_if (pt_cmpR (op_neD hr.units) (pe_lc (own := [("_law_part", 9)]) (g := gName 9) (tt := tYes) (by rfl) scLaw.nd (pi_list (pv 8)) (blkOk_by (own := [("_law_part", 9)]) (N := ["_law_script", "_law_pen_here", "_law_due", "_law_turn", "_law_thing", "_law_kept", "_law_some", "_law_at", "_law_told", "_law_part", "_law_one", "_law_k"]) (sc := defScope sLaw) (by decide +kernel)) (fun _ _ _ _ _ => pg_name (i := 9) scLaw.nd rfl (Or.inl rfl)) (fun _ _ _ _ _ => pts_nil) (fun _ _ _ _ _ => (pe_callB (call_reprK (K := K) rfl gu hr.units) (by rfl) T.n_repr (by decide +kernel) (pa_cons (pv 9) pa_nil)))) (pe_op op_rep (pe_lst (pa_cons (pe_callB (call_reprK (K := K) rfl gu hr.units) (by rfl) T.n_repr (by decide +kernel) (pa_cons (pv 4) pa_nil)) pa_nil)) pe_int) (nomark _)) (pss_one (ps_ret pe_bl)) pss_nil)))) pss_nil))))))
    (pss_one (ps_ret pe_bl))))), ?_⟩
    -- pen, due
    refine ⟨_, rfl, a, ns, rfl, hS, hlen, fun p c H1 hp hc pen s1 => ?_⟩
    refine st_ev (ev_cat (ev_cat (ev_cat (ev_cat (ev_rep (k := 12) (ev_lst (pv_cons (pv_str (x := "v")) pv_nil) (by decide)) (by decide) (by decide) (by decide)) (ev_lst (pv_cons (pv_str (x := "l")) pv_nil) (by decide)) (by decide) (by decide)) (ev_rep (k := 2) (ev_lst (pv_cons (pv_str (x := "li")) pv_nil) (by decide)) (by decide) (by decide) (by decide)) (by decide) (by decide)) (ev_rep (k := 2) (ev_lst (pv_cons (pv_str (x := "o")) pv_nil) (by decide)) (by decide) (by decide) (by decide)) (by decide) (by decide)) (ev_rep (k := 2) (ev_lst (pv_cons (pv_str (x := "r")) pv_nil) (by decide)) (by decide) (by decide) (by decide)) (by decide) (by decide)) fun du H2 s2 hdu => ?_
    have hdu : H2 du = some (.lst (dueL.map V.str)) := hdu
    have pen2 : PenAt H2 p c ns 0 0 := ⟨s2 _ _ pen.d, s2 _ _ pen.l⟩
    -- for turn in range(8)
    refine ⟨8, rfl, by decide, by decide, for_range (lo := 0) (n := 8) (fun i σ H => ∃ (t r : Int) (x3 x4 x5 x6 x7 x8 : Option V), σ = [some (.ref a), some (.ref p), some (.ref du), x3, x4, x5, x6, x7, x8, none, none, none] ∧ PenAt H p c ns t r ∧ 0 ≤ t ∧ t ≤ i ∧ 0 ≤ r ∧ H du = some (.lst (dueL.map V.str)))
      ⟨0, 0, none, none, none, none, none, none, rfl, pen2, by omega, by omega, by omega, hdu⟩ ?_ fun σ H ⟨_, _, _, _, _, _, _, _, _⟩ => k H⟩
    rintro i σ H3 hi ⟨t, r, x3, x4, x5, x6, x7, x8, rfl, pen3, ht0, ht1, hr0, du3⟩
    -- thing
    refine ⟨_, rfl, p, c, ns, t, r, rfl, pen3, hlen, ht0, by omega, hr0, fun v d t' r' H4 hd dv fresh t0 t1 r0 pen4 kp => ?_⟩
    have hdup : du ≠ p := ne_of du3 pen3.d (by intro z; cases z)
    have du4 : H4 du = some (.lst (dueL.map V.str)) := kp du _ du3 hdup
    obtain ⟨m1, m2, m3, m4, m5⟩ := menu_ok d hd
    -- kept
    refine ⟨_, rfl, v, d, rfl, dv.dr m1, m2, Nat.le_trans m3 (by decide), m4, ?_⟩
    -- for some in (made(thing), made_so(thing))
    refine ⟨_, rfl, v, rfl, fun L1 es1 H5 s5 hL1 r1 => ⟨_, rfl, v, rfl, fun L2 es2 H6 s6 hL2 r2 => ⟨Nat.le_of_ble_eq_true rfl, fun tp htp => ?_⟩⟩⟩
    have s7 : Same H4 (upd H6 tp (.tup [.ref L1, .ref L2])) := (s5.trans s6).trans (new_same htp)
    have s67 : Same H6 (upd H6 tp (.tup [.ref L1, .ref L2])) := new_same htp
    refine ⟨tp, rfl, ⟨_, SqT.of upd_same⟩, for_tup (K := K) (a := tp) (xs := [.ref L1, .ref L2]) (fun _ σ H => ∃ x6 x7 : Option V, σ = [some (.ref a), some (.ref p), some (.ref du), some (.int (0 + (i : Int))), some v, some (.str d.shown), x6, x7, x8, none, none, none] ∧ Same (upd H6 tp (.tup [.ref L1, .ref L2])) H)
      ⟨_, _, rfl, Same.refl _⟩ (fun _ _ H _ ⟨_, _, _, s⟩ => SqT.of (s _ _ upd_same)) ?_ ?_⟩
    · -- one of both lists
      rintro j x σ H7 hj ⟨x6, x7, rfl, s8⟩
      have s68 : Same H6 H7 := s67.trans s8
      have s48 : Same H4 H7 := s7.trans s8
      obtain ⟨L, es, rfl, hL, r⟩ : ∃ L es, x = V.ref L ∧ H7 L = some (.lst (es.map V.ref)) ∧ Errs H7 v es (spL C) := by
        rcases j with _ | _ | j
        · cases hj
          exact ⟨L1, es1, rfl, s68 _ _ (s6 _ _ hL1), (r1.same s6).same s68⟩
        · cases hj
          exact ⟨L2, es2, rfl, s68 _ _ hL2, r2.same s68⟩
        · cases hj
      have len : (es.map V.ref).length = 19 := by rw [List.length_map]; exact r.len
      have dv7 : Dt H7 v d := dv.same s48
      -- the fields
      refine ⟨_, rfl, L, es, v, rfl, hL, r, fun F H8 s9 hF => ⟨F, rfl, ⟨_, SqL.of hF⟩, fun D hD => lc_map (fun _ => .str d.shown) hD (SqL.of hF) (Nat.le_of_ble_eq_true rfl) (fun _ => rfl) ?_ ?_⟩⟩
      · intro i2 x2 H' hi2 s' Q' k'
        have hx : x2 = v := List.eq_of_mem_replicate (List.mem_of_getElem? hi2)
        subst hx
        exact ⟨_, rfl, x2, d, rfl, ((dv7.same s9).same s').dr m1, m2, Nat.le_trans m3 (by decide), m4, k' _ (Same.refl _)⟩
      · intro H9 s10 hD9
        refine (ev_rep (k := 15) (ev_lst (pv_cons (pv_var rfl) pv_nil) (Nat.le_of_ble_eq_true rfl)) (by decide) (by decide) (Nat.le_of_ble_eq_true rfl) : EvL _ _ H9 _) H9 _ (Same.refl _) fun q H10 s11 hq => ?_
        refine ne_strs (ss := List.replicate 15 d.shown) (fun z hz => by rw [List.eq_of_mem_replicate hz]; exact m5) (s11 _ _ hD9) hq ?_
        refine ⟨false, rfl, iteF ?_⟩
        have s12 : Same H7 H10 := (s9.trans s10).trans s11
        have r10 := r.same s12
        -- under
        refine ⟨_, rfl, L, rfl, ⟨_, SqL.of (s12 _ _ hL)⟩, fun D2 hD2 => lc_map (fun j => .str (dueL.getD j (Str.ofString ""))) hD2 (SqL.of (s12 _ _ hL)) (by rw [len]; decide) (fun _ => rfl) ?_ ?_⟩
        · intro i2 x2 H' hi2 s' Q' k'
          have hlt : i2 < 19 := by
            have := (List.getElem?_eq_some_iff.mp hi2).1
            omega
          obtain ⟨e, he, hh⟩ := spL_at r10 i2 hlt
          rw [List.getElem?_map, he] at hi2
          cases hi2
          exact ⟨_, rfl, e, i2, v, rfl, hlt, hh.same s', fun H'' s'' => k' _ s''⟩
        · intro H11 s13 hD11
          rw [len] at hD11
          have s14 : Same H7 H11 := s12.trans s13
          refine ⟨_, rfl, ne_strs (ss := dueL) (by decide +kernel) hD11 (s14 _ _ (s48 _ _ du4)) ?_⟩
          refine ⟨false, rfl, iteF ?_⟩
          -- for at in range(19)
          refine ⟨_, rfl, L, _, rfl, .inl (SqL.of (s14 _ _ hL)), ?_⟩
          rw [len]
          refine ⟨19, rfl, by decide, by decide, for_range (lo := 0) (n := 19) (fun _ σ H => ∃ x7 : Option V, σ = [some (.ref a), some (.ref p), some (.ref du), some (.int (0 + (i : Int))), some v, some (.str d.shown), some (.ref L), x7, x8, none, none, none] ∧ Same H11 H)
            ⟨_, rfl, Same.refl _⟩ ?_ fun σ H ⟨x7, e, s⟩ => ⟨_, _, e, (s8.trans s14).trans s⟩⟩
          rintro i2 σ H12 hi2 ⟨x7', rfl, s15⟩
          rw [show (0 : Int) + (i2 : Int) = (i2 : Int) from Int.zero_add _]
          have s16 : Same H7 H12 := s14.trans s15
          obtain ⟨e, he, hh⟩ := spL_at (r.same s16) i2 hi2
          refine ⟨_, rfl, _, rfl, L, _, _, .ref e, rfl, rfl, SqL.of (s16 _ _ hL), atI_nat (by rw [List.getElem?_map, he]; rfl), e, i2, v, rfl, hi2, hh, fun F2 H13 s17 hF2 => ?_⟩
          refine ⟨_, rfl, L, _, rfl, .inl (SqL.of (s17 _ _ (s16 _ _ hL))), ?_⟩
          rw [len]
          refine ⟨19, rfl, by decide, by decide, fun D3 hD3 => lc_mapR (n := 19) (fun j => .bl (decide (j = i2))) hD3 (by decide) (fun _ => rfl) ?_ ?_⟩
          · intro j2 H' hj2 s' Q' k'
            refine ⟨_, rfl, _, rfl, rfl, ?_⟩
            have e2 : decide (V.int (0 + (j2 : Int)) = V.int (i2 : Int)) = decide (j2 = i2) := by
              rw [Bool.eq_iff_iff, decide_eq_true_iff, decide_eq_true_iff]
              constructor
              · intro z
                have z2 := V.int.inj z
                omega
              · intro z
                subst z
                rw [Int.zero_add]
            rw [e2]
            exact k' _ (Same.refl _)
          · intro H14 s18 hD14
            refine ne_bls (ss := (List.range 19).map fun j => decide (j = i2)) (by rw [List.map_map]; exact s18 _ _ hF2) (by rw [List.map_map]; exact hD14) ?_
            refine ⟨false, rfl, iteF ⟨_, rfl, (s15.trans s17).trans s18⟩⟩
    · -- behind both
      rintro σ H7 ⟨x6, x7, rfl, s8⟩
      have s48 : Same H4 H7 := s7.trans s8
      obtain ⟨ty, hty, hk⟩ := (dv.same s48).isL (K := K)
      refine ⟨_, rfl, v, .ty "list", ty, .type "list", VK.isL d, rfl, .ty "list", hty, hk, VK.isL d, rfl, ?_⟩
      refine ite2 (fun hyes => ?_) (fun _ => ⟨t', r', _, _, _, _, _, _, rfl, ⟨s48 _ _ pen4.d, s48 _ _ pen4.l⟩, by omega, by omega, r0, s48 _ _ du4⟩)
      obtain ⟨ds, rfl⟩ : ∃ ds, d = PyData.list ds := by
        cases d with
        | list ds => exact ⟨ds, rfl⟩
        | none => cases hyes
        | bool _ => cases hyes
        | int _ => cases hyes
        | str _ => cases hyes
        | tuple _ => cases hyes
        | dict _ => cases hyes
      obtain ⟨n0, n1, n2, n3, n4, n5⟩ := menu_lst ds (menuL_mem hd)
      cases dv.same s48 with
      | @lst b xs _ hb hxs =>
        have fb : H3 b = none := fresh b rfl
        refine ⟨_, rfl, _, rfl, fun L es H8 s9 hL r => ⟨L, es, _, rfl, hL, r, fun F H9 s10 hF => ?_⟩⟩
        have s79 : Same H7 H9 := s9.trans s10
        have hb9 : H9 b = some (.lst xs) := s79 _ _ hb
        have lx : xs.length ≤ 2 := by rw [hxs.length]; exact n0
        have hFb : F ≠ b := by
          intro z
          subst z
          rw [hb9] at hF
          have e := congrArg (fun o : Option HO => match o with | some (.lst l) => l.length | _ => 0) hF
          simp only [List.length_replicate] at e
          omega
        refine ⟨_, rfl, .inl ⟨rfl, _, SqL.of hb9⟩, b, xs, .int 9, rfl, rfl, hb9, Nat.lt_of_le_of_lt lx (by decide), ?_⟩
        have dvA : Dt (upd H9 b (.lst (xs ++ [.int 9]))) (.ref b) (.list (ds ++ [PyData.int 9])) := Dt.app9 hb9 (hxs.same s79)
        have hFA : upd H9 b (.lst (xs ++ [.int 9])) F = some (.lst (List.replicate 15 (.ref b))) := by rw [upd_ne hFb]; exact hF
        refine ⟨_, rfl, F, rfl, ⟨_, SqL.of hFA⟩, fun D hD => lc_map (fun _ => .str (PyData.list (ds ++ [PyData.int 9])).shown) hD (SqL.of hFA) (Nat.le_of_ble_eq_true rfl) (fun _ => rfl) ?_ ?_⟩
        · intro i2 x2 H' hi2 s' Q' k'
          have hx : x2 = .ref b := List.eq_of_mem_replicate (List.mem_of_getElem? hi2)
          subst hx
          exact ⟨_, rfl, .ref b, _, rfl, (dvA.same s').dr n1, n2, Nat.le_trans n3 (by decide), n4, k' _ (Same.refl _)⟩
        · intro H10 s11 hD10
          have ev1 : EvP1 (tCB (rRepr K) (tCons (tVar 4) tNil)) [some (.ref a), some (.ref p), some (.ref du), some (.int (0 + (i : Int))), some (.ref b), some (.str (PyData.list ds).shown), x6, x7, some (.ref F), none, none, none] H10 (.str (PyData.list (ds ++ [PyData.int 9])).shown) :=
            fun H' Q' s' q => ⟨_, rfl, .ref b, _, rfl, ((dvA.same s11).same s').dr n1, n2, Nat.le_trans n3 (by decide), n4, q⟩
          refine (ev_rep (k := 15) (ev_lst (pv_cons ev1 pv_nil) (Nat.le_of_ble_eq_true rfl)) (by decide) (by decide) (Nat.le_of_ble_eq_true rfl) : EvL _ _ H10 _) H10 _ (Same.refl _) fun q H11 s12 hq => ?_
          refine ne_strs (ss := List.replicate 15 (PyData.list (ds ++ [PyData.int 9])).shown) (fun z hz => by rw [List.eq_of_mem_replicate hz]; exact n5) (s12 _ _ hD10) hq ?_
          have s13 : Same (upd H9 b (.lst (xs ++ [.int 9]))) H11 := s11.trans s12
          have kept : ∀ e o, H4 e = some o → e ≠ b → H11 e = some o := fun e o h1 h2 => s13 _ _ (by rw [upd_ne h2]; exact s79 _ _ (s48 _ _ h1))
          exact ⟨false, rfl, iteF ⟨t', r', _, _, _, _, _, _, rfl, ⟨kept _ _ pen4.d (ne_of_none pen3.d fb), kept _ _ pen4.l (ne_of_none pen3.l fb)⟩, by omega, by omega, r0, kept _ _ du4 (ne_of_none du3 fb)⟩⟩

end
end VK

namespace VK
open PySem PySem.VK PySem.Spec PyProof.Rows L2
/-- a def of the top -/
def Fd (K : PySem.W.Frag) (mg : Str → Option Value) (nm : Str) (st : Stmt) (ps : List Str) : Prop := ∃ (f : Addr) (fd : FuncData), Fun K nm nm st f fd ∧ Binds K fd ps [] ∧ mg nm = some (.ref f) ∧ PySem.W.keepIn K (.ref f) = true
theorem fd_mk {K : PySem.W.Frag} {mg : Str → Option Value} {h : Heap} (X : K.In h) (G : h.Ns mainGlobals mg) {nm : Str} {st : Stmt} {ps : List Str} {f : Addr} {oc : Value} {od an : Option Addr} {osl : Array (Option Value)} {kV doc pm cdv ct : Value}
    (hb : ∀ (kV doc pm : Value) (an : Option Addr) (cdv ct : Value) (us : List Value), us.length = ps.length → bindArgs (PySem.W.fnOf nm nm (defArgs st) (defBody st) (defScope st) .none kV doc pm an cdv ct) ⟨us, []⟩ = pure (ps.zip us))
    (a : PySem.W.nsIn K mainGlobals nm = some (some (.ref f))) (l : K.lookup f = some ⟨oc, od, .func (PySem.W.fnOf nm nm (defArgs st) (defBody st) (defScope st) .none kV doc pm an cdv ct), osl⟩)
    (c : PySem.W.codeIn K cdv nm = true) (k : PySem.W.keepIn K (.ref f) = true) : Fd K mg nm st ps :=
  ⟨f, _, fun_mk l c k, (fun_mk l c k).binds hb, PySem.W.mg_of X G a, k⟩
structure Top (P : Program) (K : PySem.W.Frag) (mg : Str → Option Value) : Prop where
  d0 : Fd K mg "_law_pen" sPen ["_law_script"]
  d1 : Fd K mg "_law_draw" sDraw ["_law_pen_here", "_law_size"]
  d2 : Fd K mg "_law_pick" sPick ["_law_pen_here", "_law_options"]
  d3 : Fd K mg "_law_any" sAny ["_law_pen_here"]
  d4 : Fd K mg "_law_made" sMade ["_law_aa"]
  d5 : Fd K mg "_law_made_so" sMadeSo ["_law_aa"]
  d6 : Fd K mg "_law_fields" sFields ["_law_some"]
  d7 : Fd K mg "_law_which" sWhich ["_law_error"]
  d8 : Fd K mg "_law_under" sUnder ["_law_error"]
  d9 : Fd K mg "law" sLaw ["_law_script"]
  c0 : ∃ C, EC P K mg "InvalidTable" C xValueError (some "value")
  c1 : ∃ C, EC P K mg "InvalidEcho" C xValueError (some "value")
  c2 : ∃ C, EC P K mg "InvalidSong" C xValueError (some "value")
  c3 : ∃ C, EC P K mg "InvalidRow" C xValueError (some "value")
  c4 : ∃ C, EC P K mg "InvalidWishes" C xValueError (some "value")
  c5 : ∃ C, EC P K mg "InvalidFixed" C xValueError (some "value")
  c6 : ∃ C, EC P K mg "InvalidPlace" C xValueError (some "value")
  c7 : ∃ C, EC P K mg "InvalidNumber" C xValueError (some "value")
  c8 : ∃ C, EC P K mg "InvalidText" C xValueError (some "line")
  c9 : ∃ C, EC P K mg "InvalidLine" C xValueError (some "value")
  c10 : ∃ C, EC P K mg "InvalidDeed" C xValueError (some "index")
  c11 : ∃ C, EC P K mg "OtherLetters" C xValueError none
  c12 : ∃ C, EC P K mg "Barred" C xLookupError none
  c13 : ∃ C, EC P K mg "NoEcho" C xIndexError (some "index")
  c14 : ∃ C, EC P K mg "NoRow" C xIndexError (some "number")
  c15 : ∃ C, EC P K mg "TooLong" C xOverflowError (some "limit")
  c16 : ∃ C, EC P K mg "TooFar" C xOverflowError (some "limit")
  c17 : ∃ C, EC P K mg "NothingToUndo" C xRuntimeError none
  c18 : ∃ C, EC P K mg "NothingToRedo" C xRuntimeError none
  z_super : mg "super" = none
  z_isinstance : mg "isinstance" = none
  z_int : mg "int" = none
  z_len : mg "len" = none
  z_list : mg "list" = none
  z_range : mg "range" = none
  z_repr : mg "repr" = none
  z_abs : mg "abs" = none
  z_ValueError : mg "ValueError" = none
  z_LookupError : mg "LookupError" = none
  z_IndexError : mg "IndexError" = none
  z_KeyError : mg "KeyError" = none
  z_OverflowError : mg "OverflowError" = none
  z_RuntimeError : mg "RuntimeError" = none
  z_TypeError : mg "TypeError" = none
  top : (P.main.scope.names.lookup ("super" : Str)).isSome = false
theorem bind_sPen (kV doc pm : Value) (an : Option Addr) (cdv ct : Value) (us : List Value) (hl : us.length = (["_law_script"] : List Str).length) : bindArgs (PySem.W.fnOf "_law_pen" "_law_pen" (defArgs sPen) (defBody sPen) (defScope sPen) .none kV doc pm an cdv ct) ⟨us, []⟩ = pure ((["_law_script"] : List Str).zip us) := match us, hl with | [_], _ => rfl
theorem bind_sDraw (kV doc pm : Value) (an : Option Addr) (cdv ct : Value) (us : List Value) (hl : us.length = (["_law_pen_here", "_law_size"] : List Str).length) : bindArgs (PySem.W.fnOf "_law_draw" "_law_draw" (defArgs sDraw) (defBody sDraw) (defScope sDraw) .none kV doc pm an cdv ct) ⟨us, []⟩ = pure ((["_law_pen_here", "_law_size"] : List Str).zip us) := match us, hl with | [_, _], _ => rfl
theorem bind_sPick (kV doc pm : Value) (an : Option Addr) (cdv ct : Value) (us : List Value) (hl : us.length = (["_law_pen_here", "_law_options"] : List Str).length) : bindArgs (PySem.W.fnOf "_law_pick" "_law_pick" (defArgs sPick) (defBody sPick) (defScope sPick) .none kV doc pm an cdv ct) ⟨us, []⟩ = pure ((["_law_pen_here", "_law_options"] : List Str).zip us) := match us, hl with | [_, _], _ => rfl
theorem bind_sAny (kV doc pm : Value) (an : Option Addr) (cdv ct : Value) (us : List Value) (hl : us.length = (["_law_pen_here"] : List Str).length) : bindArgs (PySem.W.fnOf "_law_any" "_law_any" (defArgs sAny) (defBody sAny) (defScope sAny) .none kV doc pm an cdv ct) ⟨us, []⟩ = pure ((["_law_pen_here"] : List Str).zip us) := match us, hl with | [_], _ => rfl
theorem bind_sMade (kV doc pm : Value) (an : Option Addr) (cdv ct : Value) (us : List Value) (hl : us.length = (["_law_aa"] : List Str).length) : bindArgs (PySem.W.fnOf "_law_made" "_law_made" (defArgs sMade) (defBody sMade) (defScope sMade) .none kV doc pm an cdv ct) ⟨us, []⟩ = pure ((["_law_aa"] : List Str).zip us) := match us, hl with | [_], _ => rfl
theorem bind_sMadeSo (kV doc pm : Value) (an : Option Addr) (cdv ct : Value) (us : List Value) (hl : us.length = (["_law_aa"] : List Str).length) : bindArgs (PySem.W.fnOf "_law_made_so" "_law_made_so" (defArgs sMadeSo) (defBody sMadeSo) (defScope sMadeSo) .none kV doc pm an cdv ct) ⟨us, []⟩ = pure ((["_law_aa"] : List Str).zip us) := match us, hl with | [_], _ => rfl
theorem bind_sFields (kV doc pm : Value) (an : Option Addr) (cdv ct : Value) (us : List Value) (hl : us.length = (["_law_some"] : List Str).length) : bindArgs (PySem.W.fnOf "_law_fields" "_law_fields" (defArgs sFields) (defBody sFields) (defScope sFields) .none kV doc pm an cdv ct) ⟨us, []⟩ = pure ((["_law_some"] : List Str).zip us) := match us, hl with | [_], _ => rfl
theorem bind_sWhich (kV doc pm : Value) (an : Option Addr) (cdv ct : Value) (us : List Value) (hl : us.length = (["_law_error"] : List Str).length) : bindArgs (PySem.W.fnOf "_law_which" "_law_which" (defArgs sWhich) (defBody sWhich) (defScope sWhich) .none kV doc pm an cdv ct) ⟨us, []⟩ = pure ((["_law_error"] : List Str).zip us) := match us, hl with | [_], _ => rfl
theorem bind_sUnder (kV doc pm : Value) (an : Option Addr) (cdv ct : Value) (us : List Value) (hl : us.length = (["_law_error"] : List Str).length) : bindArgs (PySem.W.fnOf "_law_under" "_law_under" (defArgs sUnder) (defBody sUnder) (defScope sUnder) .none kV doc pm an cdv ct) ⟨us, []⟩ = pure ((["_law_error"] : List Str).zip us) := match us, hl with | [_], _ => rfl
theorem bind_sLaw (kV doc pm : Value) (an : Option Addr) (cdv ct : Value) (us : List Value) (hl : us.length = (["_law_script"] : List Str).length) : bindArgs (PySem.W.fnOf "law" "law" (defArgs sLaw) (defBody sLaw) (defScope sLaw) .none kV doc pm an cdv ct) ⟨us, []⟩ = pure ((["_law_script"] : List Str).zip us) := match us, hl with | [_], _ => rfl
theorem top_ok {l : PySem.W.OpenLaw} {w : World} {K : PySem.W.Frag} {h : Heap} {mg : Str → Option Value} {fa : Addr} (hfa : mg "law" = some (.ref fa)) (T : Top l.prog K mg) :
    ∃ fd : FuncData, (∀ (s : Shared) (v : Value), BindsTo s fd ⟨[v], []⟩ [("_law_script", v)]) ∧ ∀ base : Heap, K.In base → base.Ns mainGlobals mg → FnG l.prog w K mg base CX0 4 fa fd ["_law_script"] (spLaw K) := by
  obtain ⟨f0, e0, F0, b0, g0, k0⟩ := T.d0
  obtain ⟨f1, e1, F1, b1, g1, k1⟩ := T.d1
  obtain ⟨f2, e2, F2, b2, g2, k2⟩ := T.d2
  obtain ⟨f3, e3, F3, b3, g3, k3⟩ := T.d3
  obtain ⟨f4, e4, F4, b4, g4, k4⟩ := T.d4
  obtain ⟨f5, e5, F5, b5, g5, k5⟩ := T.d5
  obtain ⟨f6, e6, F6, b6, g6, k6⟩ := T.d6
  obtain ⟨f7, e7, F7, b7, g7, k7⟩ := T.d7
  obtain ⟨f8, e8, F8, b8, g8, k8⟩ := T.d8
  obtain ⟨f9, e9, F9, b9, g9, k9⟩ := T.d9
  obtain ⟨C0, E0⟩ := T.c0
  obtain ⟨C1, E1⟩ := T.c1
  obtain ⟨C2, E2⟩ := T.c2
  obtain ⟨C3, E3⟩ := T.c3
  obtain ⟨C4, E4⟩ := T.c4
  obtain ⟨C5, E5⟩ := T.c5
  obtain ⟨C6, E6⟩ := T.c6
  obtain ⟨C7, E7⟩ := T.c7
  obtain ⟨C8, E8⟩ := T.c8
  obtain ⟨C9, E9⟩ := T.c9
  obtain ⟨C10, E10⟩ := T.c10
  obtain ⟨C11, E11⟩ := T.c11
  obtain ⟨C12, E12⟩ := T.c12
  obtain ⟨C13, E13⟩ := T.c13
  obtain ⟨C14, E14⟩ := T.c14
  obtain ⟨C15, E15⟩ := T.c15
  obtain ⟨C16, E16⟩ := T.c16
  obtain ⟨C17, E17⟩ := T.c17
  obtain ⟨C18, E18⟩ := T.c18
  have e := hfa.symm.trans g9
  cases e
  have Z : Kl l.prog K mg (fun k => [C0, C1, C2, C3, C4, C5, C6, C7, C8, C9, C10, C11, C12, C13, C14, C15, C16, C17, C18].getD k 0) := ⟨E0, E1, E2, E3, E4, E5, E6, E7, E8, E9, E10, E11, E12, E13, E14, E15, E16, E17, E18⟩
  have X : Tx l.prog mg := { top := T.top, n_super := T.z_super, n_isinstance := T.z_isinstance, n_int := T.z_int, n_len := T.z_len, n_list := T.z_list, n_range := T.z_range, n_repr := T.z_repr, n_ValueError := T.z_ValueError, n_LookupError := T.z_LookupError, n_IndexError := T.z_IndexError, n_KeyError := T.z_KeyError, n_OverflowError := T.z_OverflowError, n_RuntimeError := T.z_RuntimeError, n_TypeError := T.z_TypeError }
  have N : PenT mg := { n_list := T.z_list, n_int := T.z_int, n_len := T.z_len, n_abs := T.z_abs }
  refine ⟨e9, fun s v => ?_, fun base _ _ => ?_⟩
  · obtain ⟨oc, od, kV, doc, pm, an, cdv, ct, osl, rfl, lk, hcd⟩ := F9.ex
    exact .of_eq rfl
  · have hPen : FnOk l.prog w K mg base CX0 1 f0 e0 ["_law_script"] (spPen K) := ok_pen F0 N
    have hPick : FnOk l.prog w K mg base CX0 2 f2 e2 ["_law_pen_here", "_law_options"] spPick := ok_pick F2 N F1 b1 g1 k1
    have hAny : FnOk l.prog w K mg base CX0 3 f3 e3 ["_law_pen_here"] spAny := ok_any F3 hPick b2 g2 k2
    exact ok_law F9 X ⟨hPen, b0, g0, k0⟩ ⟨hAny, b3, g3, k3⟩ ⟨okMade F4 Z X, b4, g4, k4⟩ ⟨okMadeSo F5 Z X, b5, g5, k5⟩ ⟨okFields F6 Z X, b6, g6, k6⟩ ⟨okWhich F7 Z X, b7, g7, k7⟩ ⟨okUnder F8 Z X, b8, g8, k8⟩
theorem walk {l : PySem.W.OpenLaw} {q : Program} {loose : List Str} {XP : (Str → Option Value) → Heap → Prop} {YP : World → Heap → Prop} {d : DefRec} {K : Params → PySem.W.Frag} (hn : l.most = some 63) (hdf : d.params.defaults = []) (hd : d.name = "law")
    (hY : ∀ (w : World) (h : Heap), YP w h → (K w.params).In h)
    (F : ∀ (w : World) (mg : Str → Option Value) (h : Heap), (K w.params).In h → h.Ns mainGlobals mg → Top l.prog (K w.params) mg) :
    PySem.W.WalkO q loose XP YP l.row.toRowW d [] (fun f vs => PySem.call f vs) :=
  walk_G (n := 63) (k := 4) (x := "_law_script") (sp := spLaw) hn (by decide) hdf ⟨rfl, by decide, by decide⟩ hY
    (fun w mg fa h KX G hm => top_ok (h := h) (by rw [hd] at hm; exact hm) (F w mg h KX G)) fun _ _ a ns hl _ hS => ⟨a, ns, rfl, hS, hl, fun _ => rfl⟩
end VK
open PySem PySem.W PyProof.Rows
set_option maxRecDepth 100000 in
set_option maxHeartbeats 0 in
theorem PySem.Challenge.cw_echofold_k93_errors_made_by_their_fields_holds : PySem.Challenge.rw_echofold_k93_errors_made_by_their_fields.Holds := by
  w_on; o_law; k_head; (case hw => w_witness2)
  k_fill
  refine VK.walk (l := PySem.Challenge.rw_echofold_k93_errors_made_by_their_fields) rfl rfl rfl (fun w h Y => PySem.W.kIn_of Y) ?F
  case F =>
    intro w mg h KX G
    refine' VK.Top.mk ?d0 ?d1 ?d2 ?d3 ?d4 ?d5 ?d6 ?d7 ?d8 ?d9 ?c0 ?c1 ?c2 ?c3 ?c4 ?c5 ?c6 ?c7 ?c8 ?c9 ?c10 ?c11 ?c12 ?c13 ?c14 ?c15 ?c16 ?c17 ?c18 ?z0 ?z1 ?z2 ?z3 ?z4 ?z5 ?z6 ?z7 ?z8 ?z9 ?z10 ?z11 ?z12 ?z13 ?z14 ?top
    case d0 =>
      refine' VK.fd_mk KX G VK.bind_sPen ?a ?l ?c ?k
      (case a => k_is); (case l => k_is); (case c => k_is); (case k => k_is)
    case d1 =>
      refine' VK.fd_mk KX G VK.bind_sDraw ?a ?l ?c ?k
      (case a => k_is); (case l => k_is); (case c => k_is); (case k => k_is)
    case d2 =>
      refine' VK.fd_mk KX G VK.bind_sPick ?a ?l ?c ?k
      (case a => k_is); (case l => k_is); (case c => k_is); (case k => k_is)
    case d3 =>
      refine' VK.fd_mk KX G VK.bind_sAny ?a ?l ?c ?k
      (case a => k_is); (case l => k_is); (case c => k_is); (case k => k_is)
    case d4 =>
      refine' VK.fd_mk KX G VK.bind_sMade ?a ?l ?c ?k
      (case a => k_is); (case l => k_is); (case c => k_is); (case k => k_is)
    case d5 =>
      refine' VK.fd_mk KX G VK.bind_sMadeSo ?a ?l ?c ?k
      (case a => k_is); (case l => k_is); (case c => k_is); (case k => k_is)
    case d6 =>
      refine' VK.fd_mk KX G VK.bind_sFields ?a ?l ?c ?k
      (case a => k_is); (case l => k_is); (case c => k_is); (case k => k_is)
    case d7 =>
      refine' VK.fd_mk KX G VK.bind_sWhich ?a ?l ?c ?k
      (case a => k_is); (case l => k_is); (case c => k_is); (case k => k_is)
    case d8 =>
      refine' VK.fd_mk KX G VK.bind_sUnder ?a ?l ?c ?k
      (case a => k_is); (case l => k_is); (case c => k_is); (case k => k_is)
    case d9 =>
      refine' VK.fd_mk KX G VK.bind_sLaw ?a ?l ?c ?k
      (case a => k_is); (case l => k_is); (case c => k_is); (case k => k_is)
    case c0 =>
      refine' ⟨?C0, ?E0⟩
      case E0 =>
        refine' VK.ec1_mk KX G (cn := "InvalidTable") (x := "value") VK.xb_ValueError ?aC ?lk ?hm ?hs ?hd ?hh ?hn ?n1 ?n2 ?n3 ?n4 ?kp ?thr ?spG ?spT ?hx ?n5 ?at_ ?fn ?lf ?ci ?lc ?hv ?hf ?ll ?hp
        (case aC => k_is); (case lk => k_is); (case hm => exact rfl); (case hs => exact rfl); (case hd => exact rfl); (case hh => exact rfl); (case hn => exact rfl); (case n1 => k_is); (case n2 => k_is); (case n3 => k_is); (case n4 => k_is); (case kp => k_is); (case thr => k_is); (case spG => k_is); (case spT => k_is); (case hx => exact by decide +kernel); (case n5 => k_is); (case at_ => k_is); (case fn => k_is); (case lf => k_is); (case ci => k_is); (case lc => k_is); (case hv => exact rfl); (case hf => exact by decide +kernel); (case ll => k_is); (case hp => exact rfl)
    case c1 =>
      refine' ⟨?C1, ?E1⟩
      case E1 =>
        refine' VK.ec1_mk KX G (cn := "InvalidEcho") (x := "value") VK.xb_ValueError ?aC ?lk ?hm ?hs ?hd ?hh ?hn ?n1 ?n2 ?n3 ?n4 ?kp ?thr ?spG ?spT ?hx ?n5 ?at_ ?fn ?lf ?ci ?lc ?hv ?hf ?ll ?hp
        (case aC => k_is); (case lk => k_is); (case hm => exact rfl); (case hs => exact rfl); (case hd => exact rfl); (case hh => exact rfl); (case hn => exact rfl); (case n1 => k_is); (case n2 => k_is); (case n3 => k_is); (case n4 => k_is); (case kp => k_is); (case thr => k_is); (case spG => k_is); (case spT => k_is); (case hx => exact by decide +kernel); (case n5 => k_is); (case at_ => k_is); (case fn => k_is); (case lf => k_is); (case ci => k_is); (case lc => k_is); (case hv => exact rfl); (case hf => exact by decide +kernel); (case ll => k_is); (case hp => exact rfl)
    case c2 =>
      refine' ⟨?C2, ?E2⟩
      case E2 =>
        refine' VK.ec1_mk KX G (cn := "InvalidSong") (x := "value") VK.xb_ValueError ?aC ?lk ?hm ?hs ?hd ?hh ?hn ?n1 ?n2 ?n3 ?n4 ?kp ?thr ?spG ?spT ?hx ?n5 ?at_ ?fn ?lf ?ci ?lc ?hv ?hf ?ll ?hp
        (case aC => k_is); (case lk => k_is); (case hm => exact rfl); (case hs => exact rfl); (case hd => exact rfl); (case hh => exact rfl); (case hn => exact rfl); (case n1 => k_is); (case n2 => k_is); (case n3 => k_is); (case n4 => k_is); (case kp => k_is); (case thr => k_is); (case spG => k_is); (case spT => k_is); (case hx => exact by decide +kernel); (case n5 => k_is); (case at_ => k_is); (case fn => k_is); (case lf => k_is); (case ci => k_is); (case lc => k_is); (case hv => exact rfl); (case hf => exact by decide +kernel); (case ll => k_is); (case hp => exact rfl)
    case c3 =>
      refine' ⟨?C3, ?E3⟩
      case E3 =>
        refine' VK.ec1_mk KX G (cn := "InvalidRow") (x := "value") VK.xb_ValueError ?aC ?lk ?hm ?hs ?hd ?hh ?hn ?n1 ?n2 ?n3 ?n4 ?kp ?thr ?spG ?spT ?hx ?n5 ?at_ ?fn ?lf ?ci ?lc ?hv ?hf ?ll ?hp
        (case aC => k_is); (case lk => k_is); (case hm => exact rfl); (case hs => exact rfl); (case hd => exact rfl); (case hh => exact rfl); (case hn => exact rfl); (case n1 => k_is); (case n2 => k_is); (case n3 => k_is); (case n4 => k_is); (case kp => k_is); (case thr => k_is); (case spG => k_is); (case spT => k_is); (case hx => exact by decide +kernel); (case n5 => k_is); (case at_ => k_is); (case fn => k_is); (case lf => k_is); (case ci => k_is); (case lc => k_is); (case hv => exact rfl); (case hf => exact by decide +kernel); (case ll => k_is); (case hp => exact rfl)
    case c4 =>
      refine' ⟨?C4, ?E4⟩
      case E4 =>
        refine' VK.ec1_mk KX G (cn := "InvalidWishes") (x := "value") VK.xb_ValueError ?aC ?lk ?hm ?hs ?hd ?hh ?hn ?n1 ?n2 ?n3 ?n4 ?kp ?thr ?spG ?spT ?hx ?n5 ?at_ ?fn ?lf ?ci ?lc ?hv ?hf ?ll ?hp
        (case aC => k_is); (case lk => k_is); (case hm => exact rfl); (case hs => exact rfl); (case hd => exact rfl); (case hh => exact rfl); (case hn => exact rfl); (case n1 => k_is); (case n2 => k_is); (case n3 => k_is); (case n4 => k_is); (case kp => k_is); (case thr => k_is); (case spG => k_is); (case spT => k_is); (case hx => exact by decide +kernel); (case n5 => k_is); (case at_ => k_is); (case fn => k_is); (case lf => k_is); (case ci => k_is); (case lc => k_is); (case hv => exact rfl); (case hf => exact by decide +kernel); (case ll => k_is); (case hp => exact rfl)
    case c5 =>
      refine' ⟨?C5, ?E5⟩
      case E5 =>
        refine' VK.ec1_mk KX G (cn := "InvalidFixed") (x := "value") VK.xb_ValueError ?aC ?lk ?hm ?hs ?hd ?hh ?hn ?n1 ?n2 ?n3 ?n4 ?kp ?thr ?spG ?spT ?hx ?n5 ?at_ ?fn ?lf ?ci ?lc ?hv ?hf ?ll ?hp
        (case aC => k_is); (case lk => k_is); (case hm => exact rfl); (case hs => exact rfl); (case hd => exact rfl); (case hh => exact rfl); (case hn => exact rfl); (case n1 => k_is); (case n2 => k_is); (case n3 => k_is); (case n4 => k_is); (case kp => k_is); (case thr => k_is); (case spG => k_is); (case spT => k_is); (case hx => exact by decide +kernel); (case n5 => k_is); (case at_ => k_is); (case fn => k_is); (case lf => k_is); (case ci => k_is); (case lc => k_is); (case hv => exact rfl); (case hf => exact by decide +kernel); (case ll => k_is); (case hp => exact rfl)
    case c6 =>
      refine' ⟨?C6, ?E6⟩
      case E6 =>
        refine' VK.ec1_mk KX G (cn := "InvalidPlace") (x := "value") VK.xb_ValueError ?aC ?lk ?hm ?hs ?hd ?hh ?hn ?n1 ?n2 ?n3 ?n4 ?kp ?thr ?spG ?spT ?hx ?n5 ?at_ ?fn ?lf ?ci ?lc ?hv ?hf ?ll ?hp
        (case aC => k_is); (case lk => k_is); (case hm => exact rfl); (case hs => exact rfl); (case hd => exact rfl); (case hh => exact rfl); (case hn => exact rfl); (case n1 => k_is); (case n2 => k_is); (case n3 => k_is); (case n4 => k_is); (case kp => k_is); (case thr => k_is); (case spG => k_is); (case spT => k_is); (case hx => exact by decide +kernel); (case n5 => k_is); (case at_ => k_is); (case fn => k_is); (case lf => k_is); (case ci => k_is); (case lc => k_is); (case hv => exact rfl); (case hf => exact by decide +kernel); (case ll => k_is); (case hp => exact rfl)
    case c7 =>
      refine' ⟨?C7, ?E7⟩
      case E7 =>
        refine' VK.ec1_mk KX G (cn := "InvalidNumber") (x := "value") VK.xb_ValueError ?aC ?lk ?hm ?hs ?hd ?hh ?hn ?n1 ?n2 ?n3 ?n4 ?kp ?thr ?spG ?spT ?hx ?n5 ?at_ ?fn ?lf ?ci ?lc ?hv ?hf ?ll ?hp
        (case aC => k_is); (case lk => k_is); (case hm => exact rfl); (case hs => exact rfl); (case hd => exact rfl); (case hh => exact rfl); (case hn => exact rfl); (case n1 => k_is); (case n2 => k_is); (case n3 => k_is); (case n4 => k_is); (case kp => k_is); (case thr => k_is); (case spG => k_is); (case spT => k_is); (case hx => exact by decide +kernel); (case n5 => k_is); (case at_ => k_is); (case fn => k_is); (case lf => k_is); (case ci => k_is); (case lc => k_is); (case hv => exact rfl); (case hf => exact by decide +kernel); (case ll => k_is); (case hp => exact rfl)
    case c8 =>
      refine' ⟨?C8, ?E8⟩
      case E8 =>
        refine' VK.ec1_mk KX G (cn := "InvalidText") (x := "line") VK.xb_ValueError ?aC ?lk ?hm ?hs ?hd ?hh ?hn ?n1 ?n2 ?n3 ?n4 ?kp ?thr ?spG ?spT ?hx ?n5 ?at_ ?fn ?lf ?ci ?lc ?hv ?hf ?ll ?hp
        (case aC => k_is); (case lk => k_is); (case hm => exact rfl); (case hs => exact rfl); (case hd => exact rfl); (case hh => exact rfl); (case hn => exact rfl); (case n1 => k_is); (case n2 => k_is); (case n3 => k_is); (case n4 => k_is); (case kp => k_is); (case thr => k_is); (case spG => k_is); (case spT => k_is); (case hx => exact by decide +kernel); (case n5 => k_is); (case at_ => k_is); (case fn => k_is); (case lf => k_is); (case ci => k_is); (case lc => k_is); (case hv => exact rfl); (case hf => exact by decide +kernel); (case ll => k_is); (case hp => exact rfl)
    case c9 =>
      refine' ⟨?C9, ?E9⟩
      case E9 =>
        refine' VK.ec1_mk KX G (cn := "InvalidLine") (x := "value") VK.xb_ValueError ?aC ?lk ?hm ?hs ?hd ?hh ?hn ?n1 ?n2 ?n3 ?n4 ?kp ?thr ?spG ?spT ?hx ?n5 ?at_ ?fn ?lf ?ci ?lc ?hv ?hf ?ll ?hp
        (case aC => k_is); (case lk => k_is); (case hm => exact rfl); (case hs => exact rfl); (case hd => exact rfl); (case hh => exact rfl); (case hn => exact rfl); (case n1 => k_is); (case n2 => k_is); (case n3 => k_is); (case n4 => k_is); (case kp => k_is); (case thr => k_is); (case spG => k_is); (case spT => k_is); (case hx => exact by decide +kernel); (case n5 => k_is); (case at_ => k_is); (case fn => k_is); (case lf => k_is); (case ci => k_is); (case lc => k_is); (case hv => exact rfl); (case hf => exact by decide +kernel); (case ll => k_is); (case hp => exact rfl)
    case c10 =>
      refine' ⟨?C10, ?E10⟩
      case E10 =>
        refine' VK.ec1_mk KX G (cn := "InvalidDeed") (x := "index") VK.xb_ValueError ?aC ?lk ?hm ?hs ?hd ?hh ?hn ?n1 ?n2 ?n3 ?n4 ?kp ?thr ?spG ?spT ?hx ?n5 ?at_ ?fn ?lf ?ci ?lc ?hv ?hf ?ll ?hp
        (case aC => k_is); (case lk => k_is); (case hm => exact rfl); (case hs => exact rfl); (case hd => exact rfl); (case hh => exact rfl); (case hn => exact rfl); (case n1 => k_is); (case n2 => k_is); (case n3 => k_is); (case n4 => k_is); (case kp => k_is); (case thr => k_is); (case spG => k_is); (case spT => k_is); (case hx => exact by decide +kernel); (case n5 => k_is); (case at_ => k_is); (case fn => k_is); (case lf => k_is); (case ci => k_is); (case lc => k_is); (case hv => exact rfl); (case hf => exact by decide +kernel); (case ll => k_is); (case hp => exact rfl)
    case c11 =>
      refine' ⟨?C11, ?E11⟩
      case E11 =>
        refine' VK.ec0_mk KX G (cn := "OtherLetters") VK.xb_ValueError ?aC ?lk ?hm ?hs ?hd ?hh ?hn ?n1 ?n2 ?n3 ?n4 ?kp ?thr ?spG ?spT ?at_ ?fn ?lf ?ci ?lc ?hv ?hf ?ll ?hp
        (case aC => k_is); (case lk => k_is); (case hm => exact rfl); (case hs => exact rfl); (case hd => exact rfl); (case hh => exact rfl); (case hn => exact rfl); (case n1 => k_is); (case n2 => k_is); (case n3 => k_is); (case n4 => k_is); (case kp => k_is); (case thr => k_is); (case spG => k_is); (case spT => k_is); (case at_ => k_is); (case fn => k_is); (case lf => k_is); (case ci => k_is); (case lc => k_is); (case hv => exact rfl); (case hf => exact by decide +kernel); (case ll => k_is); (case hp => exact rfl)
    case c12 =>
      refine' ⟨?C12, ?E12⟩
      case E12 =>
        refine' VK.ec0_mk KX G (cn := "Barred") VK.xb_LookupError ?aC ?lk ?hm ?hs ?hd ?hh ?hn ?n1 ?n2 ?n3 ?n4 ?kp ?thr ?spG ?spT ?at_ ?fn ?lf ?ci ?lc ?hv ?hf ?ll ?hp
        (case aC => k_is); (case lk => k_is); (case hm => exact rfl); (case hs => exact rfl); (case hd => exact rfl); (case hh => exact rfl); (case hn => exact rfl); (case n1 => k_is); (case n2 => k_is); (case n3 => k_is); (case n4 => k_is); (case kp => k_is); (case thr => k_is); (case spG => k_is); (case spT => k_is); (case at_ => k_is); (case fn => k_is); (case lf => k_is); (case ci => k_is); (case lc => k_is); (case hv => exact rfl); (case hf => exact by decide +kernel); (case ll => k_is); (case hp => exact rfl)
    case c13 =>
      refine' ⟨?C13, ?E13⟩
      case E13 =>
        refine' VK.ec1_mk KX G (cn := "NoEcho") (x := "index") VK.xb_IndexError ?aC ?lk ?hm ?hs ?hd ?hh ?hn ?n1 ?n2 ?n3 ?n4 ?kp ?thr ?spG ?spT ?hx ?n5 ?at_ ?fn ?lf ?ci ?lc ?hv ?hf ?ll ?hp
        (case aC => k_is); (case lk => k_is); (case hm => exact rfl); (case hs => exact rfl); (case hd => exact rfl); (case hh => exact rfl); (case hn => exact rfl); (case n1 => k_is); (case n2 => k_is); (case n3 => k_is); (case n4 => k_is); (case kp => k_is); (case thr => k_is); (case spG => k_is); (case spT => k_is); (case hx => exact by decide +kernel); (case n5 => k_is); (case at_ => k_is); (case fn => k_is); (case lf => k_is); (case ci => k_is); (case lc => k_is); (case hv => exact rfl); (case hf => exact by decide +kernel); (case ll => k_is); (case hp => exact rfl)
    case c14 =>
      refine' ⟨?C14, ?E14⟩
      case E14 =>
        refine' VK.ec1_mk KX G (cn := "NoRow") (x := "number") VK.xb_IndexError ?aC ?lk ?hm ?hs ?hd ?hh ?hn ?n1 ?n2 ?n3 ?n4 ?kp ?thr ?spG ?spT ?hx ?n5 ?at_ ?fn ?lf ?ci ?lc ?hv ?hf ?ll ?hp
        (case aC => k_is); (case lk => k_is); (case hm => exact rfl); (case hs => exact rfl); (case hd => exact rfl); (case hh => exact rfl); (case hn => exact rfl); (case n1 => k_is); (case n2 => k_is); (case n3 => k_is); (case n4 => k_is); (case kp => k_is); (case thr => k_is); (case spG => k_is); (case spT => k_is); (case hx => exact by decide +kernel); (case n5 => k_is); (case at_ => k_is); (case fn => k_is); (case lf => k_is); (case ci => k_is); (case lc => k_is); (case hv => exact rfl); (case hf => exact by decide +kernel); (case ll => k_is); (case hp => exact rfl)
    case c15 =>
      refine' ⟨?C15, ?E15⟩
      case E15 =>
        refine' VK.ec1_mk KX G (cn := "TooLong") (x := "limit") VK.xb_OverflowError ?aC ?lk ?hm ?hs ?hd ?hh ?hn ?n1 ?n2 ?n3 ?n4 ?kp ?thr ?spG ?spT ?hx ?n5 ?at_ ?fn ?lf ?ci ?lc ?hv ?hf ?ll ?hp
        (case aC => k_is); (case lk => k_is); (case hm => exact rfl); (case hs => exact rfl); (case hd => exact rfl); (case hh => exact rfl); (case hn => exact rfl); (case n1 => k_is); (case n2 => k_is); (case n3 => k_is); (case n4 => k_is); (case kp => k_is); (case thr => k_is); (case spG => k_is); (case spT => k_is); (case hx => exact by decide +kernel); (case n5 => k_is); (case at_ => k_is); (case fn => k_is); (case lf => k_is); (case ci => k_is); (case lc => k_is); (case hv => exact rfl); (case hf => exact by decide +kernel); (case ll => k_is); (case hp => exact rfl)
    case c16 =>
      refine' ⟨?C16, ?E16⟩
      case E16 =>
        refine' VK.ec1_mk KX G (cn := "TooFar") (x := "limit") VK.xb_OverflowError ?aC ?lk ?hm ?hs ?hd ?hh ?hn ?n1 ?n2 ?n3 ?n4 ?kp ?thr ?spG ?spT ?hx ?n5 ?at_ ?fn ?lf ?ci ?lc ?hv ?hf ?ll ?hp
        (case aC => k_is); (case lk => k_is); (case hm => exact rfl); (case hs => exact rfl); (case hd => exact rfl); (case hh => exact rfl); (case hn => exact rfl); (case n1 => k_is); (case n2 => k_is); (case n3 => k_is); (case n4 => k_is); (case kp => k_is); (case thr => k_is); (case spG => k_is); (case spT => k_is); (case hx => exact by decide +kernel); (case n5 => k_is); (case at_ => k_is); (case fn => k_is); (case lf => k_is); (case ci => k_is); (case lc => k_is); (case hv => exact rfl); (case hf => exact by decide +kernel); (case ll => k_is); (case hp => exact rfl)
    case c17 =>
      refine' ⟨?C17, ?E17⟩
      case E17 =>
        refine' VK.ec0_mk KX G (cn := "NothingToUndo") VK.xb_RuntimeError ?aC ?lk ?hm ?hs ?hd ?hh ?hn ?n1 ?n2 ?n3 ?n4 ?kp ?thr ?spG ?spT ?at_ ?fn ?lf ?ci ?lc ?hv ?hf ?ll ?hp
        (case aC => k_is); (case lk => k_is); (case hm => exact rfl); (case hs => exact rfl); (case hd => exact rfl); (case hh => exact rfl); (case hn => exact rfl); (case n1 => k_is); (case n2 => k_is); (case n3 => k_is); (case n4 => k_is); (case kp => k_is); (case thr => k_is); (case spG => k_is); (case spT => k_is); (case at_ => k_is); (case fn => k_is); (case lf => k_is); (case ci => k_is); (case lc => k_is); (case hv => exact rfl); (case hf => exact by decide +kernel); (case ll => k_is); (case hp => exact rfl)
    case c18 =>
      refine' ⟨?C18, ?E18⟩
      case E18 =>
        refine' VK.ec0_mk KX G (cn := "NothingToRedo") VK.xb_RuntimeError ?aC ?lk ?hm ?hs ?hd ?hh ?hn ?n1 ?n2 ?n3 ?n4 ?kp ?thr ?spG ?spT ?at_ ?fn ?lf ?ci ?lc ?hv ?hf ?ll ?hp
        (case aC => k_is); (case lk => k_is); (case hm => exact rfl); (case hs => exact rfl); (case hd => exact rfl); (case hh => exact rfl); (case hn => exact rfl); (case n1 => k_is); (case n2 => k_is); (case n3 => k_is); (case n4 => k_is); (case kp => k_is); (case thr => k_is); (case spG => k_is); (case spT => k_is); (case at_ => k_is); (case fn => k_is); (case lf => k_is); (case ci => k_is); (case lc => k_is); (case hv => exact rfl); (case hf => exact by decide +kernel); (case ll => k_is); (case hp => exact rfl)
    case z0 =>
      refine' PySem.W.mg_none_of KX G ?z
      (case z => k_is)
    case z1 =>
      refine' PySem.W.mg_none_of KX G ?z
      (case z => k_is)
    case z2 =>
      refine' PySem.W.mg_none_of KX G ?z
      (case z => k_is)
    case z3 =>
      refine' PySem.W.mg_none_of KX G ?z
      (case z => k_is)
    case z4 =>
      refine' PySem.W.mg_none_of KX G ?z
      (case z => k_is)
    case z5 =>
      refine' PySem.W.mg_none_of KX G ?z
      (case z => k_is)
    case z6 =>
      refine' PySem.W.mg_none_of KX G ?z
      (case z => k_is)
    case z7 =>
      refine' PySem.W.mg_none_of KX G ?z
      (case z => k_is)
    case z8 =>
      refine' PySem.W.mg_none_of KX G ?z
      (case z => k_is)
    case z9 =>
      refine' PySem.W.mg_none_of KX G ?z
      (case z => k_is)
    case z10 =>
      refine' PySem.W.mg_none_of KX G ?z
      (case z => k_is)
    case z11 =>
      refine' PySem.W.mg_none_of KX G ?z
      (case z => k_is)
    case z12 =>
      refine' PySem.W.mg_none_of KX G ?z
      (case z => k_is)
    case z13 =>
      refine' PySem.W.mg_none_of KX G ?z
      (case z => k_is)
    case z14 =>
      refine' PySem.W.mg_none_of KX G ?z
      (case z => k_is)
    case top => decide +kernel

