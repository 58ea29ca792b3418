import PyProof.Rows.All
import Wide.All
import OpenK.AllK
import Wide.FinOn
import HandS.ForMost
import HandS.Exc
import HandS.ExcOwn
import HandS.ExcValue
import KE.KExcSuper
import KE.KExcIs
import HandS.Wide
import HandS.Evl
import HandS.IsInst
import HandS.Lambda
import HandS.EndTab
import HandS.Property
import HandS.ClsMeth
import HandS.WordsExc
import HandS.ExcIs
import PySem.Challenge.RW_echofold_k04_prices_of_pairs
set_option Elab.async false
set_option linter.all false
set_option maxRecDepth 100000
set_option maxHeartbeats 4000000
namespace PySem
namespace VK
open PySem.W PySem.Calls PyProof.Rows
/-! ## an own error whose __init__ says super().__init__('..') and stores one field -/
def iA (x : Str) (p1 p2 : Pos) : Arguments := { posonlyargs := [], args := [{ arg := "self", annotation := none, pos := p1 }, { arg := x, annotation := none, pos := p2 }], vararg := none, kwonlyargs := [], kw_defaults := [], kwarg := none, defaults := [] }
def iSup (msg : Str) (j : Nat) (a1 a2 a3 a4 a5 a6 : Pos) : Stmt := .Expr (.Call (.Attribute (.Call (.Name "super" a1) [] [] a2) "__init__" a3) [.Constant (.str msg) 0 a4] [] a5) a6
def iB (msg x : Str) (a1 a2 a3 a4 a5 a6 b1 b2 b3 b4 : Pos) : List Stmt := [.Expr (.Call (.Attribute (.Call (.Name "super" a1) [] [] a2) "__init__" a3) [.Constant (.str msg) 0 a4] [] a5) a6, .Assign [.Attribute (.Name "self" b1) x b2] (.Name x b3) b4]
def iS (x : Str) : Scope := { kind := .function, names := [(PySem.Str.ofString "self", .local), (x, .local), (PySem.Str.ofString "__class__", .free), (PySem.Str.ofString "super", .globalImplicit)], isGenerator := false, isCoroutine := false, more := [] }
/-- no field -/
def iA0 (p1 : Pos) : Arguments := { posonlyargs := [], args := [{ arg := "self", annotation := none, pos := p1 }], vararg := none, kwonlyargs := [], kw_defaults := [], kwarg := none, defaults := [] }
def iB0 (msg : Str) (a1 a2 a3 a4 a5 a6 : Pos) : List Stmt := [.Expr (.Call (.Attribute (.Call (.Name "super" a1) [] [] a2) "__init__" a3) [.Constant (.str msg) 0 a4] [] a5) a6]
def iS0 : Scope := { kind := .function, names := [(PySem.Str.ofString "self", .local), (PySem.Str.ofString "__class__", .free), (PySem.Str.ofString "super", .globalImplicit)], isGenerator := false, isCoroutine := false, more := [] }

/-- what the written part says of the class at C over the built-in B -/
structure XCls (P : Program) (K : Frag) (B i newId : String) (bmB : List Value) (C : Addr) : Prop where
  ini : excInitIn K C bmB newId = true
  ovr : excOver K C bmB = true
  hsd : hasDictIn K C = true
  sat : findIn K (.ref C) "__setattr__" = some (some (.builtin "object.__setattr__"))
  gat : findIn K (.ref C) "__getattribute__" = some (some (.builtin "BaseException.__getattribute__"))
  gga : findIn K (.ref C) "__getattr__" = some none
  cla : findIn K (.ref C) "__class__" = some (some (.builtin "object.__class__"))
  sBE : subIn K (.ref C) (.type "BaseException") = some true
  sBB : subIn K (.ref C) (.type B) = some true
  tyC : typeIn K (.ref C) = some (.type "type")
  mOb : mroIn K C (.type "object") = some true
  mC : mroIn K C (.ref C) = some true
  kpC : keepIn K (.ref C) = true
  thr : nsIn K cStatics "thirdparty.any" = some none
  sup : ks_superIn K C C "__init__" = some (some (.builtin i))
  spG : specialIn K (.builtin "object.__class__") "__get__" = some (some (.builtin "getset_descriptor.__get__"))
  spT : takesIn K (.builtin "object.__class__") = some true
/-- of its __init__ at fI -/
structure XIni (P : Program) (K : Frag) (C fI : Addr) (qual : Str) (args : Arguments) (body : List Stmt) (sc : Scope) : Prop where
  at_ : findIn K (.ref C) "__init__" = some (some (.ref fI))
  fn : isFn K (.ref fI) = true
  lk : ∃ (oc : Value) (od : Option Addr) (kV doc pm : Value) (an : Option Addr) (cda cc : Addr) (ct : Value) (osl : Array (Option Value)),
    K.lookup fI = some ⟨oc, od, .func (ksFn "__init__" qual args body sc .none kV doc pm an (.ref cda) ct cc), osl⟩ ∧ codeIn K (.ref cda) qual = true ∧
    (∃ ccl cdd vs ccs file tf, K.lookup cda = some ⟨ccl, cdd, .fields vs, ccs⟩ ∧ vs[2]? = some (.str file tf) ∧ ((P.main.file : Str) == file) = true) ∧
    ∃ cl cld csl, K.lookup cc = some ⟨cl, cld, .cell (some (.ref C)), csl⟩

section
variable {prog : Program} {w : World} {A : Around} {R : Result → Shared → Prop} {s : Shared} {K : Frag} {B i newId : String} {bmB : List Value} {C fI : Addr} {qual msg x : Str}
open Builtin Builtin.ObjectAttr
/-- the first field stored into an error of any of these classes -/
theorem set_first {E : Value → Shared → Prop} {e t : Addr} {v : Value} {Q : Unit → Shared → Prop} (SF : StoreFacts B bmB "object.__setattr__" "object") (T : XCls prog K B i newId bmB C) (X : K.In s.heap) (hno : takerIn K C x = some none)
    (he : s.heap.get? e = some (excObj C t none .none))
    (hq : ∀ h' tk' dx, (∀ b o, b ≠ e → s.heap.get? b = some o → h'.get? b = some o) → s.heap.objs.size ≤ dx → dx ≠ e → h'.get? e = some (excObj C t (some dx) .none) →
      h'.Ns1 dx (fun y => if y = x then some v else none) → Q () { s with heap := h', toks := tk' }) : wpAny (model prog w) A (setAttr (.ref e) x v) Q E s := by
  obtain ⟨hp, g, d, tk, os⟩ := s
  have hes : e ≠ hp.objs.size := Nat.ne_of_lt (Heap.lt_size he)
  refine set_plain (od := none) X ⟨he, rfl, rfl, trivial⟩ T.sat ?_
  refine osa_openX (od := none) (ox := excObj C t none .none) SF X ⟨he, rfl, rfl, trivial⟩ T.ovr hno fun b => ?_
  show wpAny _ _ (storeInOwnDict (.ref e) (.ref C) (.str x tk) x v b) _ _ _
  obtain ⟨cd, hc, hd'⟩ := any_some T.hsd
  have hcls : Looks (model prog w) hp (classData C) cd := looks_clsIn X hc
  obtain ⟨nm, bs, mro, ns, qn, hd, sn, sb, ab, col, del⟩ := cd
  dsimp only at hd'
  subst hd'
  unfold storeInOwnDict ownDictForStores
  repeat (first | with_reducible refine PySem.PX.store_in_new ?_ ?_ | with_reducible refine wpAny_loadPart_at he ?_ | with_reducible refine hcls.at ?_ | wp_step)
  · exact ⟨_, #[], _, (Heap.get?_update_ne _ _ _ _ hes.symm).trans (Heap.get?_push_at rfl rfl), rfl, fun e he => absurd he (by simp), fun _ => rfl⟩
  · intro h' tk' hn' hs
    have he1 : (hp.push { cls := .type "dict", data := .dict #[] }).get? e = some (excObj C t none .none) := Heap.get?_push_of_some _ he
    refine hq h' tk' hp.objs.size (fun b o hb ho => ?_) (Nat.le_refl _) hes.symm ?_ hn'
    · exact (hs.2 b (Nat.ne_of_lt (Heap.lt_size ho))).trans ((Heap.get?_update_ne _ _ _ _ hb).trans (Heap.get?_push_of_some _ ho))
    · exact (hs.2 e hes).trans (Heap.get?_update_self _ he1 rfl)
end
end VK
end PySem

namespace PySem
namespace VK
open PySem.W PySem.Calls PyProof.Rows
def supPl (env : Env) (a1 a2 : Pos) : Sem Bool := (do return (← importBound (.Call (.Name "super" a1) [] [] a2) env).getD true)
theorem sup_ev (env : Env) (msg : Str) (a1 a2 a3 a4 a5 : Pos) (hp : (a3.endLine == a5.line) = true) : eval (.Call (.Attribute (.Call (.Name "super" a1) [] [] a2) "__init__" a3) [.Constant (.str msg) 0 a4] [] a5) env = (do
      let ov ← attributeBase (.Call (.Name "super" a1) [] [] a2) "__init__" env (eval (.Call (.Name "super" a1) [] [] a2) env)
      standAt a3.atName
      let (f, first) ← holding [ov] (getMethod ov "__init__" (supPl env a1 a2))
      callWith a5 f first (backTo a5 (starEach [.Constant (.str msg) 0 a4] env)) []) := by
  have h : methodCallPos true (.Call (.Name "super" a1) [] [] a2) env a3 a5 = pure a5 := by
    unfold methodCallPos
    rw [hp]
    rfl
  show (do
      let ov ← attributeBase (.Call (.Name "super" a1) [] [] a2) "__init__" env (eval (.Call (.Name "super" a1) [] [] a2) env)
      standAt a3.atName
      methodCall (.Call (.Name "super" a1) [] [] a2) "__init__" a3 a5 env ov 1 (backTo a5 (starEach [.Constant (.str msg) 0 a4] env)) []) = _
  unfold methodCall
  show (do
      let ov ← attributeBase (.Call (.Name "super" a1) [] [] a2) "__init__" env (eval (.Call (.Name "super" a1) [] [] a2) env)
      standAt a3.atName
      let (f, first) ← holding [ov] (getMethod ov "__init__" (supPl env a1 a2))
      let callPos ← methodCallPos true (.Call (.Name "super" a1) [] [] a2) env a3 a5
      callWith callPos f first (backTo a5 (starEach [.Constant (.str msg) 0 a4] env)) []) = _
  rw [h]
  rfl
section
variable {prog : Program} {w : World} {A : Around} {R : Result → Shared → Prop} {s : Shared} {K : Frag} {B i newId : String} {bmB : List Value} {C fI : Addr} {qual msg x : Str} {p1 p2 a1 a2 a3 a4 a5 a6 b1 b2 b3 b4 : Pos}
/-- what __init__ leaves: all that stood but e stands, e has its dict with the field -/
structure IniEnd (h h' : Heap) (e C : Addr) (x : Str) (v : Value) : Prop where
  keep : ∀ b o, b ≠ e → h.get? b = some o → h'.get? b = some o
  obj : ∃ t dx, h'.get? e = some (excObj C t (some dx) .none) ∧ h.objs.size ≤ dx ∧ dx ≠ e ∧ h'.Ns1 dx (fun y => if y = x then some v else none)
/-- what lies around a call: the written part, the module's names -/
structure Arnd (prog : Program) (K : Frag) (h : Heap) : Prop where
  kin : K.In h
  glo : ∃ mg, h.Ns mainGlobals mg ∧ mg "super" = none
  blt : ∃ mb, h.Ns builtinsNs mb ∧ mb "super" = some (.type "super")
  lim : h.NoLimit
  nosup : (prog.main.scope.names.lookup ("super" : Str)).isSome = false
theorem Arnd.keeps {h h' : Heap} (a : Arnd prog K h) (k : ∀ b o, h.get? b = some o → h'.get? b = some o) : Arnd prog K h' :=
  ⟨a.kin.keeps k, let ⟨m, h1, h2⟩ := a.glo; ⟨m, h1.keeps k, h2⟩, let ⟨m, h1, h2⟩ := a.blt; ⟨m, h1.keeps k, h2⟩, a.lim.keeps k, a.nosup⟩

/-- the super call: super().__init__('..') within the frame at L -/
theorem super_stmt {body : List Stmt} {qn : Str} {sc : Scope} {L cda cc : Addr} {m : Str → Option Value} {g : Heap} {e t : Addr} {env : Env} {P : Flow → Shared → Prop} {E : Value → Shared → Prop}
    (KF : KxsFacts B i) (FB : ExcBaseFacts B newId i bmB) (T : XCls prog K B i newId bmB C) (a : Arnd prog K g) (F : Fr g L s.heap m) (he : s.heap.get? e = some (excObj C t none .none)) (hge : g.objs.size ≤ e) (hne : e ≠ L)
    (henv : env = ksEnv qn sc L fI (.ref cda) cc) (hm : m "self" = some (.ref e))
    (hks : sc.names.lookup ("super" : Str) = some .globalImplicit) (hkc : sc.names.lookup ("__class__" : Str) = some .free) (hka : sc.names.lookup ("self" : Str) = some .local) (hk : sc.kind = .function) (hi : interactive env = false)
    {pl : Sem Bool} (hev : eval (.Call (.Attribute (.Call (.Name "super" a1) [] [] a2) "__init__" a3) [.Constant (.str msg) 0 a4] [] a5) env = (do
      let ov ← attributeBase (.Call (.Name "super" a1) [] [] a2) "__init__" env (eval (.Call (.Name "super" a1) [] [] a2) env)
      standAt a3.atName
      let (f, first) ← holding [ov] (getMethod ov "__init__" pl)
      callWith a5 f first (backTo a5 (starEach [.Constant (.str msg) 0 a4] env)) []))
    {oc : Value} {od : Option Addr} {fd : FuncData} {osl : Array (Option Value)} {ar : Arg} (hf : K.lookup fI = some ⟨oc, od, .func fd, osl⟩) (hp : (fd.params.posonlyargs ++ fd.params.args).head? = some ar) (har : ar.arg = "self")
    (hcode : ∃ ccl cdd vs ccs file tf, K.lookup cda = some ⟨ccl, cdd, .fields vs, ccs⟩ ∧ vs[2]? = some (.str file tf) ∧ ((prog.main.file : Str) == file) = true) (hcell : ∃ cl cld csl, K.lookup cc = some ⟨cl, cld, .cell (some (.ref C)), csl⟩)
    (hq : ∀ t' h' tk', Fr g L h' m → h'.get? e = some (excObj C t' none .none) → P .next { s with heap := h', toks := tk' }) :
    _root_.PySem.wpAt (model prog w) A (.func body env) (exec (.Expr (.Call (.Attribute (.Call (.Name "super" a1) [] [] a2) "__init__" a3) [.Constant (.str msg) 0 a4] [] a5) a6) env) P E s := by
  subst henv
  obtain ⟨ccl, cdd, vs, ccs, file, tf, hcd, hvs, hfile⟩ := hcode
  obtain ⟨cl, cld, csl, hcc⟩ := hcell
  have X : K.In s.heap := a.kin.keeps F.keep
  obtain ⟨mg, hg, hgs⟩ := a.glo
  obtain ⟨mb, hb, hbs⟩ := a.blt
  have gE : g.get? e = none := Heap.get?_none_of_le hge
  obtain ⟨cdC, hC⟩ := (by obtain ⟨c, h1, _⟩ := any_some T.hsd; exact ⟨c, h1⟩ : ∃ c, clsIn K C = some c)
  obtain ⟨oD, hD1, hD2⟩ : ∃ oD, K.lookup C = some oD ∧ oD.data = .cls cdC := by
    unfold clsIn at hC
    split at hC
    · rename_i c d cd' sl ho
      cases hC
      exact ⟨_, ho, rfl⟩
    · cases hC
  have N0 : News g L s.heap [(e, excObj C t none .none)] := fun p hp => by
    rcases List.mem_cons.mp hp with rfl | hp
    · exact ⟨he, hne, gE⟩
    · cases hp
  refine ks_wpAt_Expr_any (ks_wpAt_MethodCall (pl := pl) ?_ hev) hi
  refine ks_wpAt_super_base (env := ksEnv qn sc L fI (.ref cda) cc) hks hkc rfl rfl (X _ _ hf) rfl hp rfl (X _ _ hcd) rfl hvs hfile a.nosup ?_
  obtain ⟨hh, gg, d, tk, os⟩ := s
  refine ks_loadName_global hk hks (loadGlobal_builtin (env := ksEnv qn sc L fI (.ref cda) cc) (hg.keeps F.keep) hgs (hb.keeps F.keep) hbs ⟨rfl, ?_⟩)
  refine wpAny_loadName_free hk hkc rfl ⟨_, X _ _ hcc, rfl⟩ ?_
  rw [har]
  refine wpAny_loadName_local hk hka F.ns hm ?_
  refine ks_wpAny_isType_cls (X _ _ hD1) hD2 ⟨rfl, ?_⟩
  refine ks_wpAny_call_super (X _ _ hD1) hD2 he rfl (fun c e => nomatch e) (looks_mroIn X T.mC) (fun h1 e1 k1 => ?_)
  obtain ⟨F1, N1, _⟩ := ks_newsPush (s := ⟨hh, gg, d, tk, os⟩) F N0 rfl e1 k1
  refine kxs_method KF F1 a.kin N1 (.head _) (I := ⟨(N1 _ (.tail _ (.head _))).1, rfl, rfl, trivial⟩) (odx := none) T.thr T.sup T.sBB rfl fun q h2 F2 N2 lt2 => ?_
  show wpAny _ _ (callWith _ (.ref q) [] _ []) _ _ _
  refine kxs_callWith1 (i := i) (x := e) N2 (.head _) ?_
  show wpAny _ _ (spliced _) _ _ _
  refine Calls.spliced_cons ?_
  show wpAny _ _ (eval (.Constant (.str msg) 0 a4) _) _ _ _
  refine wpAny_Constant_str ?_
  refine Calls.spliced_nil ⟨kxs_at N2 (.head _), ?_⟩
  have heq : e < q := lt2 _ (.tail _ (.head _))
  have hes : e < hh.objs.size := Heap.lt_size he
  have U : UpdF e (excObj C t none .none) [(q, kxs_mw i e), (hh.objs.size, ks_superObj C e C), (e, excObj C t none .none)] (fun o' => (q, kxs_mw i e) :: (hh.objs.size, ks_superObj C e C) :: (e, o') :: []) :=
    .tail (Nat.ne_of_gt heq) (.tail (Nat.ne_of_gt hes) (.head fun _ z => nomatch z))
  refine kxs_call F2 a.kin N2 FB T.ini (.head _) U (by show 1 ≤ sizeLine; rw [sizeLine_eq]; omega) fun t' h3 F3 N3 _ => ?_
  exact hq t' h3 _ F3 (N3 _ (.tail _ (.tail _ (.tail _ (.head _))))).1

/-- what __init__ of one field leaves -/
structure Ini1 (g h' : Heap) (e C : Addr) (x : Str) (v : Value) : Prop where
  keep : ∀ b o, g.get? b = some o → h'.get? b = some o
  obj : ∃ t dx, h'.get? e = some (excObj C t (some dx) .none) ∧ g.objs.size ≤ dx ∧ dx ≠ e ∧ h'.Ns1 dx (fun y => if y = x then some v else none)
theorem init1 {g : Heap} {e t : Addr} {v : Value} (KF : KxsFacts B i) (FB : ExcBaseFacts B newId i bmB) (SF : StoreFacts B bmB "object.__setattr__" "object") (T : XCls prog K B i newId bmB C)
    (TI : XIni prog K C fI qual (iA x p1 p2) (iB msg x a1 a2 a3 a4 a5 a6 b1 b2 b3 b4) (iS x)) (hno : takerIn K C x = some none) (hx1 : (x == ("self" : Str)) = false) (hx2 : (("__class__" : Str) == x) = false) (hx3 : (("super" : Str) == x) = false) (hx4 : (x == ("__debug__" : Str)) = false) (hpos : (a3.endLine == a5.line) = true)
    (a : Arnd prog K g) (kg : ∀ b o, g.get? b = some o → s.heap.get? b = some o) (hL1 : g.objs.size ≤ s.heap.objs.size) (hge : g.objs.size ≤ e) (he : s.heap.get? e = some (excObj C t none .none)) (hroom : A.depth < recursionLimit)
    {args : Args} (hb : ∀ (kV doc pm : Value) (an : Option Addr) (cda cc : Addr) (ct : Value), bindArgs (ksFn "__init__" qual (iA x p1 p2) (iB msg x a1 a2 a3 a4 a5 a6 b1 b2 b3 b4) (iS x) .none kV doc pm an (.ref cda) ct cc) args = pure [(("self" : Str), .ref e), (x, v)])
    (hq : ∀ h' tk', Ini1 g h' e C x v → R (.ok (.ret .none)) { s with heap := h', toks := tk' }) :
    codeAny (model prog w) A (.call (.ref fI) args) R s := by
  obtain ⟨oc, od, kV, doc, pm, an, cda, cc, ct, osl, hf, hcd, hcode, hcell⟩ := TI.lk
  have X : K.In s.heap := a.kin.keeps kg
  have l1 : (iS x).names.lookup ("self" : Str) = some .local := rfl
  have l2 : (iS x).names.lookup x = some .local := by
    show List.lookup x [(PySem.Str.ofString "self", NameKind.local), (x, .local), (PySem.Str.ofString "__class__", .free), (PySem.Str.ofString "super", .globalImplicit)] = _
    rw [List.lookup_cons, hx1, List.lookup_cons, beq_self_eq_true]
  have l3 : (iS x).names.lookup ("__class__" : Str) = some .free := by
    show List.lookup (PySem.Str.ofString "__class__") [(PySem.Str.ofString "self", NameKind.local), (x, .local), (PySem.Str.ofString "__class__", .free), (PySem.Str.ofString "super", .globalImplicit)] = _
    rw [List.lookup_cons, show (PySem.Str.ofString "__class__" == PySem.Str.ofString "self") = false by decide, List.lookup_cons, hx2, List.lookup_cons, beq_self_eq_true]
  have l4 : (iS x).names.lookup ("super" : Str) = some .globalImplicit := by
    show List.lookup (PySem.Str.ofString "super") [(PySem.Str.ofString "self", NameKind.local), (x, .local), (PySem.Str.ofString "__class__", .free), (PySem.Str.ofString "super", .globalImplicit)] = _
    rw [List.lookup_cons, show (PySem.Str.ofString "super" == PySem.Str.ofString "self") = false by decide, List.lookup_cons, hx3, List.lookup_cons, show (PySem.Str.ofString "super" == PySem.Str.ofString "__class__") = false by decide, List.lookup_cons, beq_self_eq_true]
  refine ks_codeAny_call_defAt (fd := ksFn "__init__" qual (iA x p1 p2) (iB msg x a1 a2 a3 a4 a5 a6 b1 b2 b3 b4) (iS x) .none kV doc pm an (.ref cda) ct cc) (body := iB msg x a1 a2 a3 a4 a5 a6 b1 b2 b3 b4) (binds := [(("self" : Str), .ref e), (x, v)]) hroom (X _ _ hf) rfl (a.lim.keeps kg) (codeRec_of X hcd) rfl ?hb ?hc ?hl (fun h1 hn1 k1 => ?_) rfl rfl rfl
  case hb => exact BindsTo.of_eq (hb _ _ _ _ _ _ _)
  case hc =>
    intro y hy
    rcases List.mem_cons.mp hy with rfl | hy
    · exact nofun
    rcases List.mem_cons.mp hy with rfl | hy
    · exact nofun
    rcases List.mem_cons.mp hy with rfl | hy
    · exact nofun
    rcases List.mem_cons.mp hy with rfl | hy
    · exact nofun
    cases hy
  case hl =>
    intro y hy
    rcases List.mem_cons.mp hy with rfl | hy
    · exact l1
    rcases List.mem_cons.mp hy with rfl | hy
    · exact l2
    cases hy
  have F : Fr g s.heap.objs.size h1 (fun y => ([(("self" : Str), .ref e), (x, v)] : List (Str × Value)).reverse.lookup y) := ⟨hn1, fun b o z => k1 b o (kg b o z), hL1⟩
  have hm1 : ([(("self" : Str), .ref e), (x, v)] : List (Str × Value)).reverse.lookup ("self" : Str) = some (.ref e) := by
    show List.lookup (PySem.Str.ofString "self") [(x, v), (PySem.Str.ofString "self", .ref e)] = _
    rw [List.lookup_cons, show (PySem.Str.ofString "self" == x) = false from by rw [BEq.comm]; exact hx1, List.lookup_cons, beq_self_eq_true]
  have hm2 : ([(("self" : Str), .ref e), (x, v)] : List (Str × Value)).reverse.lookup x = some v := by
    show List.lookup x [(x, v), (PySem.Str.ofString "self", .ref e)] = _
    rw [List.lookup_cons, beq_self_eq_true]
  have hne : e ≠ s.heap.objs.size := Nat.ne_of_lt (Heap.lt_size he)
  refine ks_wpAt_execs_cons ?_
  refine super_stmt (s := { s with heap := h1, toks := s.toks + 2 }) (qn := qual) (sc := iS x) (L := s.heap.objs.size) (cda := cda) (cc := cc) KF FB T a F (k1 _ _ he) hge hne rfl hm1 l4 l3 l1 rfl rfl (sup_ev _ _ _ _ _ _ _ hpos) hf rfl rfl hcode hcell fun t' h2 tk2 F2 E2 => ?_
  show _root_.PySem.wpAt _ _ _ (execs [.Assign [.Attribute (.Name "self" b1) x b2] (.Name x b3) b4] _) _ _ _
  refine wpAt_of_wpAny (wpAny_execs_cons (plainObj_wpAny_Assign_Attribute ?_))
  refine wpAny_Name (wpAny_loadName_local (env := ksEnv qual (iS x) s.heap.objs.size fI (.ref cda) cc) rfl l2 F2.ns hm2 ?_) hx4
  refine wpAny_Name (wpAny_loadName_local (env := ksEnv qual (iS x) s.heap.objs.size fI (.ref cda) cc) rfl l1 F2.ns hm1 ?_)
  refine set_first SF T (a.kin.keeps F2.keep) hno E2 fun h3 tk3 dx k3 dn dne E3 N3 => ?_
  show wpAny _ _ (execs [] _) _ _ _
  have gE : ∀ {b : Addr} {o : Obj}, g.get? b = some o → b ≠ e := fun {b o} z => Nat.ne_of_lt (Nat.lt_of_lt_of_le (Heap.lt_size z) hge)
  have hz : g.objs.size ≤ h2.objs.size := Nat.le_trans F2.above (Nat.le_of_lt F2.ns.lt)
  exact wpAny_execs_nil (hq h3 tk3 ⟨fun b o z => k3 b o (gE z) (F2.keep b o z), ⟨t', dx, E3, Nat.le_trans hz dn, dne, N3⟩⟩)

/-- no field: what stood stands, e has no dict -/
theorem init0 {g : Heap} {e t : Addr} (KF : KxsFacts B i) (FB : ExcBaseFacts B newId i bmB) (T : XCls prog K B i newId bmB C)
    (TI : XIni prog K C fI qual (iA0 p1) (iB0 msg a1 a2 a3 a4 a5 a6) iS0) (hpos : (a3.endLine == a5.line) = true)
    (a : Arnd prog K g) (kg : ∀ b o, g.get? b = some o → s.heap.get? b = some o) (hL1 : g.objs.size ≤ s.heap.objs.size) (hge : g.objs.size ≤ e) (he : s.heap.get? e = some (excObj C t none .none)) (hroom : A.depth < recursionLimit)
    (hq : ∀ h' tk' t', (∀ b o, g.get? b = some o → h'.get? b = some o) → h'.get? e = some (excObj C t' none .none) → R (.ok (.ret .none)) { s with heap := h', toks := tk' }) :
    codeAny (model prog w) A (.call (.ref fI) ⟨[.ref e], []⟩) R s := by
  obtain ⟨oc, od, kV, doc, pm, an, cda, cc, ct, osl, hf, hcd, hcode, hcell⟩ := TI.lk
  have X : K.In s.heap := a.kin.keeps kg
  refine ks_codeAny_call_defAt (fd := ksFn "__init__" qual (iA0 p1) (iB0 msg a1 a2 a3 a4 a5 a6) iS0 .none kV doc pm an (.ref cda) ct cc) (body := iB0 msg a1 a2 a3 a4 a5 a6) (binds := [(("self" : Str), .ref e)]) hroom (X _ _ hf) rfl (a.lim.keeps kg) (codeRec_of X hcd) rfl ?hb ?hc ?hl (fun h1 hn1 k1 => ?_) rfl rfl rfl
  case hb => exact BindsTo.of_eq rfl
  case hc => show ∀ x ∈ iS0.names, x.2 ≠ .cell; decide
  case hl =>
    intro y hy
    rcases List.mem_cons.mp hy with rfl | hy
    · rfl
    cases hy
  have F : Fr g s.heap.objs.size h1 (fun y => ([(("self" : Str), .ref e)] : List (Str × Value)).reverse.lookup y) := ⟨hn1, fun b o z => k1 b o (kg b o z), hL1⟩
  have hm1 : ([(("self" : Str), .ref e)] : List (Str × Value)).reverse.lookup ("self" : Str) = some (.ref e) := by
    show List.lookup (PySem.Str.ofString "self") [(PySem.Str.ofString "self", Value.ref e)] = _
    rw [List.lookup_cons, beq_self_eq_true]
  have hne : e ≠ s.heap.objs.size := Nat.ne_of_lt (Heap.lt_size he)
  refine ks_wpAt_execs_cons ?_
  refine super_stmt (s := { s with heap := h1, toks := s.toks + 1 }) (qn := qual) (sc := iS0) (L := s.heap.objs.size) (cda := cda) (cc := cc) KF FB T a F (k1 _ _ he) hge hne rfl hm1 rfl rfl rfl rfl rfl (sup_ev _ _ _ _ _ _ _ hpos) hf rfl rfl hcode hcell fun t' h2 tk2 F2 E2 => ?_
  show _root_.PySem.wpAt _ _ _ (execs [] _) _ _ _
  exact wpAt_of_wpAny (wpAny_execs_nil (hq h2 tk2 t' F2.keep E2))

/-- a made error of one field: all that stood stands -/
structure Made1 (g h' : Heap) (e C : Addr) (x : Str) (v : Value) : Prop where
  keep : ∀ b o, g.get? b = some o → h'.get? b = some o
  new : g.objs.size ≤ e
  obj : ∃ t dx, h'.get? e = some (excObj C t (some dx) .none) ∧ g.objs.size ≤ dx ∧ dx ≠ e ∧ h'.Ns1 dx (fun y => if y = x then some v else none)
theorem made1 {E : Value → Shared → Prop} {Q : Value → Shared → Prop} {v : Value} (KF : KxsFacts B i) (FB : ExcBaseFacts B newId i bmB) (SF : StoreFacts B bmB "object.__setattr__" "object") (T : XCls prog K B i newId bmB C)
    (TI : XIni prog K C fI qual (iA x p1 p2) (iB msg x a1 a2 a3 a4 a5 a6 b1 b2 b3 b4) (iS x)) (hno : takerIn K C x = some none) (hx1 : (x == ("self" : Str)) = false) (hx2 : (("__class__" : Str) == x) = false) (hx3 : (("super" : Str) == x) = false) (hx4 : (x == ("__debug__" : Str)) = false)
    (hpos : (a3.endLine == a5.line) = true) (a : Arnd prog K s.heap) (hroom : A.depth + 1 < recursionLimit)
    (hb : ∀ (u1 u2 kV doc pm : Value) (an : Option Addr) (cda cc : Addr) (ct : Value), bindArgs (ksFn "__init__" qual (iA x p1 p2) (iB msg x a1 a2 a3 a4 a5 a6 b1 b2 b3 b4) (iS x) .none kV doc pm an (.ref cda) ct cc) ⟨[u1, u2], []⟩ = pure [(("self" : Str), u1), (x, u2)])
    (hq : ∀ h' tk' e, Made1 s.heap h' e C x v → Q (.ref e) { s with heap := h', toks := tk' }) :
    wpAny (model prog w) A (call (.ref C) [v]) Q E s := by
  obtain ⟨nm, N', qn, bs, bm, hdct, sn, sub, ab, col, dd, k0, k1, k2, k3, k5, hC, hT⟩ := excInit_of a.kin T.ini
  obtain ⟨oI, hoI, hcI⟩ : ∃ oI, s.heap.get? fI = some oI ∧ oI.cls = .type "function" := by
    obtain ⟨o, ho, hc⟩ := Option.map_eq_some_iff.mp (show (K.lookup fI).map (·.cls) = some (.type "function") from beq_iff_eq.mp TI.fn)
    exact ⟨o, a.kin _ _ ho, hc⟩
  have hi' : Looks (model prog w) s.heap (typeLookup (.ref C) "__init__") (some (.ref fI)) := looks_findIn a.kin TI.at_
  obtain ⟨hp, gg, d, tk, os⟩ := s
  have kk : ∀ b o, hp.get? b = some o → ((hp.push (kdv_tup [v])).push (PySem.PX.excO C hp.objs.size)).get? b = some o := fun b o e => Heap.get?_push_of_some _ (Heap.get?_push_of_some _ e)
  have hget : ((hp.push (kdv_tup [v])).push (PySem.PX.excO C hp.objs.size)).get? (hp.objs.size + 1) = some (PySem.PX.excO C hp.objs.size) := by heap_get
  refine wpAny_call (PySem.PX.call_own FB hT hC hi' (fun self => exc_bind hoI hcI self) (by show 1 ≤ sizeLine; rw [sizeLine_eq]; omega) ?_)
  refine init1 (s := ⟨(hp.push (kdv_tup [v])).push (PySem.PX.excO C hp.objs.size), gg, d, tk, os⟩) (v := v) (t := hp.objs.size) KF FB SF T TI hno hx1 hx2 hx3 hx4 hpos a kk (show hp.objs.size ≤ _ by rw [Heap.size_push, Heap.size_push]; omega) (Nat.le_succ _) hget hroom (hb _ _) fun h' tk' M => ?_
  exact ⟨rfl, hq h' tk' _ ⟨M.keep, Nat.le_succ _, M.obj⟩⟩
theorem made0 {E : Value → Shared → Prop} {Q : Value → Shared → Prop} (KF : KxsFacts B i) (FB : ExcBaseFacts B newId i bmB) (T : XCls prog K B i newId bmB C)
    (TI : XIni prog K C fI qual (iA0 p1) (iB0 msg a1 a2 a3 a4 a5 a6) iS0) (hpos : (a3.endLine == a5.line) = true) (a : Arnd prog K s.heap) (hroom : A.depth + 1 < recursionLimit)
    (hq : ∀ h' tk' e t', (∀ b o, s.heap.get? b = some o → h'.get? b = some o) → s.heap.objs.size ≤ e → h'.get? e = some (excObj C t' none .none) → Q (.ref e) { s with heap := h', toks := tk' }) :
    wpAny (model prog w) A (call (.ref C) []) Q E s := by
  obtain ⟨nm, N', qn, bs, bm, hdct, sn, sub, ab, col, dd, k0, k1, k2, k3, k5, hC, hT⟩ := excInit_of a.kin T.ini
  obtain ⟨oI, hoI, hcI⟩ : ∃ oI, s.heap.get? fI = some oI ∧ oI.cls = .type "function" := by
    obtain ⟨o, ho, hc⟩ := Option.map_eq_some_iff.mp (show (K.lookup fI).map (·.cls) = some (.type "function") from beq_iff_eq.mp TI.fn)
    exact ⟨o, a.kin _ _ ho, hc⟩
  have hi' : Looks (model prog w) s.heap (typeLookup (.ref C) "__init__") (some (.ref fI)) := looks_findIn a.kin TI.at_
  obtain ⟨hp, gg, d, tk, os⟩ := s
  have kk : ∀ b o, hp.get? b = some o → ((hp.push (kdv_tup [])).push (PySem.PX.excO C hp.objs.size)).get? b = some o := fun b o e => Heap.get?_push_of_some _ (Heap.get?_push_of_some _ e)
  have hget : ((hp.push (kdv_tup [])).push (PySem.PX.excO C hp.objs.size)).get? (hp.objs.size + 1) = some (PySem.PX.excO C hp.objs.size) := by heap_get
  refine wpAny_call (PySem.PX.call_own FB hT hC hi' (fun self => exc_bind hoI hcI self) (by show 0 ≤ sizeLine; omega) ?_)
  refine init0 (s := ⟨(hp.push (kdv_tup [])).push (PySem.PX.excO C hp.objs.size), gg, d, tk, os⟩) (t := hp.objs.size) KF FB T TI hpos a kk (show hp.objs.size ≤ _ by rw [Heap.size_push, Heap.size_push]; omega) (Nat.le_succ _) hget hroom fun h' tk' t' k' E' => ?_
  exact ⟨rfl, hq h' tk' _ t' k' (Nat.le_succ _) E'⟩
end
end VK
end PySem

namespace VK
open PySem PySem.VK L2
/-! ## errors as values over the abstract heap -/
/-- at e: an error of the class at C, its dict (none | at dx) -/
def exS (e C : Addr) (d : Option Addr) : HO := .ext fun h => ∃ t : Addr, h.get? e = some (PySem.W.excObj C t d .none)
theorem exS_ok {P : Program} {w : World} {H : Hp} {h : Heap} {e C t : Addr} {d : Option Addr} (he : h.get? e = some (PySem.W.excObj C t d .none)) : ObjOk P w H h e (exS e C d) :=
  ⟨⟨t, he⟩, ⟨_, he⟩, fun _ _ ⟨t, q⟩ k => ⟨t, k _ q⟩⟩
theorem exS_at {P : Program} {w : World} {H : Hp} {h : Heap} {e C : Addr} {d : Option Addr} (hok : HOk P w H h) (he : H e = some (exS e C d)) : ∃ t : Addr, h.get? e = some (PySem.W.excObj C t d .none) := by
  have x : ObjOk P w H h e (.ext fun h => ∃ t : Addr, h.get? e = some (PySem.W.excObj C t d .none)) := hok e _ he
  exact x.1
theorem relO_one {x : Str} {v : V} {u : Value} (r : RelV v u) (g : Str) : RelO (([(x, v)] : List (Str × V)).lookup g) (if g = x then some u else none) := by
  by_cases hw : g = x
  · subst hw
    rw [if_pos rfl, List.lookup_cons, beq_self_eq_true]
    exact r
  · have q : (g == x) = false := by simpa using hw
    rw [if_neg hw, List.lookup_cons, q]
    trivial
/-- the call of a class of one field, of none -/
def tMk1 (C : Addr) (x : Str) (ta : TE) : TE := fun σ H Q => ta σ H fun v H1 => ∀ a d, H1 a = none → H1 d = none → d ≠ a → Q (.ref a) (upd (upd H1 d (.xd [(x, v)])) a (exS a C (some d)))
def tMk0 (C : Addr) : TE := fun _ H Q => ∀ a, H a = none → Q (.ref a) (upd H a (exS a C none))
section
variable {X : Cx} {pins : List (Addr × Obj)} {σ : L2.St} {H : Hp} {s : Shared} {B i newId : String} {bmB : List Value} {C fI : Addr} {qual msg x cn : Str} {p1 p2 a1 a2 a3 a4 a5 a6 b1 b2 b3 b4 p pos : Pos}
/-- what a body of a def knows around a call -/
theorem arnd_of (I : Inv X pins σ H s) (hs : X.mg "super" = none) (hn : (X.prog.main.scope.names.lookup ("super" : Str)).isSome = false) : Arnd X.prog X.K s.heap := by
  obtain ⟨mb, hb, hbb⟩ := I.mod.blt
  exact ⟨I.kIn, ⟨X.mg, I.mod.glob.keeps I.bk, hs⟩, ⟨mb, hb.keeps I.bk, (hbb _ (by decide)).trans (by decide +kernel)⟩, I.nolimit, hn⟩
/-- one object laid, tracked -/
theorem inv_two {h' : Heap} {a d : Addr} {oa od : HO} {t' : Nat} (I : Inv X pins σ H s) (k : ∀ b u, s.heap.get? b = some u → h'.get? b = some u) (ha : s.heap.objs.size ≤ a) (hd : s.heap.objs.size ≤ d) (hne : d ≠ a)
    (na : ∀ H', ObjOk X.prog X.w H' h' a oa) (nd : ∀ H', ObjOk X.prog X.w H' h' d od) : Inv X pins σ (upd (upd H d od) a oa) { s with heap := h', toks := t' } := by
  have hna : H a = none := I.hok.fresh ha
  have hnd : H d = none := I.hok.fresh hd
  have neA : ∀ {b : Addr} {o : Obj}, s.heap.get? b = some o → b ≠ a := fun {b o} q => Nat.ne_of_lt (Nat.lt_of_lt_of_le (Heap.lt_size q) ha)
  have neD : ∀ {b : Addr} {o : Obj}, s.heap.get? b = some o → b ≠ d := fun {b o} q => Nat.ne_of_lt (Nat.lt_of_lt_of_le (Heap.lt_size q) hd)
  have hna' : upd H d od a = none := by rw [upd_ne hne.symm]; exact hna
  refine I.un (t' := t') { keep := fun b o q n _ _ => k b o q, slot := fun b o q n _ _ => ⟨o.slots, k b o q⟩, free := fun b o q n _ => ?_, there := fun b o q _ => ⟨o, k b o q⟩, tups := fun b xs q => ?_, frzs := fun b o u q => ?_, tbls := fun b ps q => ⟨#[], ?_⟩ } ?_
  · rw [upd_ne (neA q), upd_ne (neD q)]; exact n
  · rw [upd_ne (ne_of_none q hna), upd_ne (ne_of_none q hnd)]; exact q
  · rw [upd_ne (ne_of_none q hna), upd_ne (ne_of_none q hnd)]; exact q
  · rw [upd_ne (ne_of_none q hna), upd_ne (ne_of_none q hnd), q]; simp
  · exact ((I.hok.kept k).laidN (fun _ _ q => q) hnd (nd _)).laidN (fun _ _ q => q) hna' (na _)
/-- C(e), C an own error of one field -/
theorem pe_mk1 {e : Expr} {ta : TE} (KF : PySem.W.KxsFacts B i) (FB : ExcBaseFacts B newId i bmB) (SF : StoreFacts B bmB "object.__setattr__" "object") (T : XCls X.prog X.K B i newId bmB C)
    (TI : XIni X.prog X.K C fI qual (iA x p1 p2) (iB msg x a1 a2 a3 a4 a5 a6 b1 b2 b3 b4) (iS x)) (hno : PySem.W.takerIn X.K C x = some none) (hgC : X.mg cn = some (.ref C)) (hsu : X.mg "super" = none) (hns : (X.prog.main.scope.names.lookup ("super" : Str)).isSome = false)
    (hdp : X.A.depth + 1 < recursionLimit) (hg : Gl X cn) (he : PE X e ta)
    (hb : ∀ (u1 u2 kV doc pm : Value) (an : Option Addr) (cda cc : Addr) (ct : Value), bindArgs (PySem.W.ksFn "__init__" qual (iA x p1 p2) (iB msg x a1 a2 a3 a4 a5 a6 b1 b2 b3 b4) (iS x) .none kV doc pm an (.ref cda) ct cc) ⟨[u1, u2], []⟩ = pure [(("self" : Str), u1), (x, u2)])
    (hpos : (a3.endLine == a5.line) = true) (hx1 : (x == ("self" : Str)) = false := by decide) (hx2 : (("__class__" : Str) == x) = false := by decide) (hx3 : (("super" : Str) == x) = false := by decide) (hx4 : (x == ("__debug__" : Str)) = false := by decide)
    (hs : starEach [e] X.env = (false, eval e X.env) :: starEach [] X.env := by rfl) (hdb : (cn == ("__debug__" : Str)) = false := by decide) :
    PE X (.Call (.Name cn p) [e] [] pos) (tMk1 C x ta) := by
  refine ⟨fun pins s σ H Q I h => ?_⟩
  refine wpAny_Call_Name_kw (ld_glob I hg hgC ?_ hdb)
  refine PySem.W.callWith_K (h₀ := X.base) I.ok.mod.kin T.kpC ?_ hs (by rfl)
  rw [hs]
  show wpAny _ _ (spliced ((false, eval e X.env) :: backTo pos (starEach [] X.env))) _ _ s
  refine Calls.spliced_cons (thn (he.run pins s σ H _ I h) fun u s1 ⟨v, H1, I1, r1, q1⟩ => ?_)
  refine Calls.spliced_nil ⟨I1.kIn, ?_⟩
  show wpAny _ _ (call (.ref C) [u]) _ _ _
  refine made1 KF FB SF T TI hno hx1 hx2 hx3 hx4 hpos (arnd_of I1 hsu hns) hdp hb fun h' tk' a M => ?_
  obtain ⟨t, d, ho, hd, hne, hn⟩ := M.obj
  have J : Inv X pins σ (upd (upd H1 d (.xd [(x, v)])) a (exS a C (some d))) { s1 with heap := h', toks := tk' } :=
    inv_two I1 M.keep M.new hd hne (fun _ => exS_ok ho) fun _ => ⟨_, hn, relO_one r1⟩
  exact ⟨.ref a, _, J, rfl, q1 a d (I1.hok.fresh M.new) (I1.hok.fresh hd) hne⟩
theorem pe_mk0 (KF : PySem.W.KxsFacts B i) (FB : ExcBaseFacts B newId i bmB) (T : XCls X.prog X.K B i newId bmB C)
    (TI : XIni X.prog X.K C fI qual (iA0 p1) (iB0 msg a1 a2 a3 a4 a5 a6) iS0) (hgC : X.mg cn = some (.ref C)) (hsu : X.mg "super" = none) (hns : (X.prog.main.scope.names.lookup ("super" : Str)).isSome = false)
    (hdp : X.A.depth + 1 < recursionLimit) (hg : Gl X cn) (hpos : (a3.endLine == a5.line) = true) (hdb : (cn == ("__debug__" : Str)) = false := by decide) :
    PE X (.Call (.Name cn p) [] [] pos) (tMk0 C) := by
  refine ⟨fun pins s σ H Q I h => ?_⟩
  refine wpAny_Call_Name_kw (ld_glob I hg hgC ?_ hdb)
  refine PySem.W.callWith_K0 I.kIn T.kpC ?_
  refine made0 KF FB T TI hpos (arnd_of I hsu hns) hdp fun h' tk' a t k hge ho => ?_
  exact ⟨.ref a, _, I.laid (t' := tk') k hge (exS_ok ho), rfl, h a (I.hok.fresh hge)⟩

/-- e.x of such an error -/
def tXat (K : PySem.W.Frag) (C : Addr) (x : Str) (te : TE) : TE := fun σ H Q => te σ H fun z H1 => ∃ a d v, z = .ref a ∧ H1 a = some (exS a C (some d)) ∧ H1 d = some (.xd [(x, v)]) ∧ Q v H1
theorem pe_xat {e : Expr} {te : TE} (T : XCls X.prog X.K B i newId bmB C) (hno : PySem.W.findIn X.K (.ref C) x = some none) (he : PE X e te)
    (hb : attributeBase e x X.env (eval e X.env) = eval e X.env := by rfl) : PE X (.Attribute e x pos) (tXat X.K C x te) := by
  refine ⟨fun pins s σ H Q I h => ?_⟩
  refine attr_of hb (thn (he.run pins s σ H _ I h) fun u s1 hh => ?_)
  obtain ⟨z, H1, I1, rx, a, d, v, rfl, ea, ed, q⟩ := hh
  obtain rfl : u = Value.ref a := rx
  obtain ⟨t, ho⟩ := exS_at I1.hok ea
  have hx : ObjOk X.prog X.w H1 s1.heap d (.xd [(x, v)]) := I1.hok d _ ed
  obtain ⟨mA, hns, hr⟩ := hx
  obtain ⟨od, hod, hl⟩ := lookIn_ns hns
  have l : List.lookup x [(x, v)] = some v := by rw [List.lookup_cons, beq_self_eq_true]
  obtain ⟨u, hu, ru⟩ := RelO.some_of (v := v) (o := mA x) (by rw [← l]; exact hr x)
  have J : PySem.W.InstAt s1.heap a (PySem.W.excObj C t (some d) .none) C (some od) := ⟨ho, rfl, rfl, hod⟩
  exact PySem.PX.exc_get I1.kIn J T.gat T.gga T.sBE (PySem.W.findObj_own T.hsd hno rfl (by rw [hl, hu])) (handed_of ru) ⟨v, H1, I1.tok _, ru, q⟩
/-- isinstance(e, c) of such an error -/
def rIsX (K : PySem.W.Frag) : List V → Hp → VK → Prop := fun xs H Q => ∃ (a C : Addr) (d : Option Addr) (c : V) (cv : Value) (b : Bool), xs = [.ref a, c] ∧ H a = some (exS a C d) ∧ (∀ dd, d = some dd → ∃ fs, H dd = some (.xd fs)) ∧ (∃ (P : Program) (B i newId : String) (bmB : List Value), XCls P K B i newId bmB C) ∧ (∀ u, RelV c u → u = cv) ∧ PySem.W.kitOne K (.ref C) cv = some b ∧ Q (.bl b) H
theorem call_isX : CallR X (.builtin "isinstance") (rIsX X.K) := by
  intro pins s σ H xs us Q I r h
  obtain ⟨a, C, d, c, cv, b, rfl, ha, hd, ⟨P, B, i, newId, bmB, T⟩, hcv, e, q⟩ := h
  cases r with
  | cons rx rr =>
    cases rr with
    | cons rt rr =>
      cases rr
      cases rx
      have ec := hcv _ rt
      subst ec
      obtain ⟨t, ho⟩ := exS_at I.hok ha
      have hcl : (PySem.W.clsIn X.K C).isSome = true := by obtain ⟨cd, hc, _⟩ := PySem.W.any_some T.hsd; rw [hc]; rfl
      obtain ⟨od, J⟩ : ∃ od, PySem.W.InstAt s.heap a (PySem.W.excObj C t d .none) C od := by
        cases d with
        | none => exact ⟨none, ho, rfl, rfl, trivial⟩
        | some dd =>
          obtain ⟨fs, hf⟩ := hd dd rfl
          have hx : ObjOk X.prog X.w H s.heap dd (.xd fs) := I.hok dd _ hf
          obtain ⟨mA, hns, _⟩ := hx
          obtain ⟨od, hod, _⟩ := lookIn_ns hns
          exact ⟨some od, ho, rfl, rfl, hod⟩
      exact PySem.W.kia_one (PySem.W.kitx_exc hcl T.gat T.gga T.sBE T.cla T.spG T.spT T.mOb) I.kIn J e (fun z => nomatch z) fun tk => ⟨.bl b, H, I.kept (t' := tk) fun _ _ z => z, rfl, q⟩
end
end VK

namespace PySem
namespace VK
open PySem.W PySem.Calls PyProof.Rows
/-! ## the same with the field by keyword -/
section
variable {prog : Program} {w : World} {M : Model} {A : Around} {E : Value → Shared → Prop} {R : Result → Shared → Prop} {h : Heap} {g : Array GenState} {d : Drawn} {t : Nat} {os : OsState}
variable {nm q : Str} {C N : Addr} {bs bm bmB : List Value} {hdct : Bool} {sn : List Str} {sub : List Value} {ab : Bool} {col : Option Bool} {dd : Option Addr} {k0 k1 k2 k3 k5 : Option Value} {B newId initId : String} {kw : List (Str × Value)}
theorem new_checkK (FB : ExcBaseFacts B newId initId bmB) (same : ∀ X : String, bm.contains (.type X) = bmB.contains (.type X)) {Q : Unit → Shared → Prop}
    (at_ : h.get? C = some (excClassObj nm q C N bs bm hdct sn sub ab col dd k0 k1 k2 k3 k5 newId)) (fin : Q () ⟨h, g, d, t, os⟩) : wpAny M A (checkBuiltinCall newId ⟨[.ref C], kw⟩) Q E ⟨h, g, d, t, os⟩ := by
  have isB : (Value.ref C :: bm).contains (.type B) = true := by
    rw [List.contains_cons, same, FB.hasB, Bool.or_true]
  have st := FB.noStar
  simp only [checkBuiltinCall, FB.newKind, FB.newSplit, FB.newRow]
  repeat first
    | refine wpAny_loadPart_at at_ ?_
    | (refine wpAny_isSubtype_exc at_ ?_; rw [isB])
    | refine wpAny_staticBase_exc at_ ?_
    | refine wpAny_madeBy_exc at_ ?_
    | simp only [bne_self_eq_false, Bool.false_eq_true, if_false]
    | wp_step
  exact fin
theorem newK (FB : ExcBaseFacts B newId initId bmB) (same : ∀ X : String, bm.contains (.type X) = bmB.contains (.type X))
    (at_ : h.get? C = some (excClassObj nm q C N bs bm hdct sn sub ab col dd k0 k1 k2 k3 k5 newId))
    (fin : R (.ok (.ret (.ref (h.objs.size + 1)))) ⟨(h.push (kdv_tup [])).push (PySem.PX.excO C h.objs.size), g, d, t, os⟩) :
    codeAny (model prog w) A (.builtin newId ⟨[.ref C], kw⟩) R ⟨h, g, d, t, os⟩ := by
  have ends := FB.ends
  have isB : (Value.ref C :: bm).contains (.type B) = true := by
    rw [List.contains_cons, same, FB.hasB, Bool.or_true]
  have noA : (Value.ref C :: bm).contains (.type "AttributeError") = false := by
    rw [List.contains_cons, same, FB.noAttr]; rfl
  have noN : (Value.ref C :: bm).contains (.type "NameError") = false := by
    rw [List.contains_cons, same, FB.noName]; rfl
  refine codeAny_builtinAt FB.entry ?_
  unfold Builtin.«BaseException.__new__»
  refine wpAt_bind ?_
  show _root_.PySem.wpAt _ _ _ (stack >>= _) _ _ _
  refine wpAt_bind (wpAt_stack fun p below => wpAt_of_wpAny ?_)
  wp_walk
  refine wpAt_of_wpAny ?_
  rw [FB.owner]
  repeat first
    | with_reducible refine wpAny_madeHere_exc FB.canon at_ ?_
    | with_reducible refine wpAny_loadPart_at at_ ?_
    | (with_reducible refine wpAny_isSubtype_exc at_ ?_; first | rw [isB] | rw [noA] | rw [noN])
    | wp_step
  show R _ _
  rw [Heap.size_push]
  exact fin
theorem type_callK (FB : ExcBaseFacts B newId initId bmB) (same : ∀ X : String, bm.contains (.type X) = bmB.contains (.type X)) {fI : Addr} {Q : Fin → Shared → Prop}
    (at_ : h.get? C = some (excClassObj nm q C N bs bm hdct sn sub ab col dd k0 k1 k2 k3 k5 newId))
    (hi : Looks (model prog w) h (typeLookup (.ref C) "__init__") (some (.ref fI))) (hb : ∀ self, Looks (model prog w) h (bindSpecial (.ref fI) self) (.ref fI, [self]))
    (fin : codeAny (model prog w) A (.call (.ref fI) ⟨[.ref (h.objs.size + 1)], kw⟩)
      (fun r s' => match r with | .ok (.ret v) => v = .none ∧ Q (.done (.ret (.ref (h.objs.size + 1)))) s' | .ok _ => False | .error e => E e s')
      ⟨(h.push (kdv_tup [])).push (PySem.PX.excO C h.objs.size), g, d, t, os⟩) :
    wpAny (model prog w) A (Builtin.«type.__call__» ⟨[.ref C], kw⟩) Q E ⟨h, g, d, t, os⟩ := by
  repeat first
    | with_reducible refine wpAny_loadPart_at at_ ?_
    | with_reducible refine wpAny_madeBy_exc at_ ?_
    | wp_step
  refine codeAny_call_builtin_code (Code.quiet_builtin _ FB.quiet) (new_checkK FB same at_ ?_)
  refine newK FB same at_ ?_
  show wpAny _ _ _ _ _ _
  have up : ∀ b o, h.get? b = some o → ((h.push (kdv_tup [])).push (PySem.PX.excO C h.objs.size)).get? b = some o :=
    fun b o e => Heap.get?_push_of_some _ (Heap.get?_push_of_some _ e)
  have at1 := up _ _ at_
  have here : ((h.push (kdv_tup [])).push (PySem.PX.excO C h.objs.size)).get? (h.objs.size + 1) = some (PySem.PX.excO C h.objs.size) := by heap_get
  have own : (Value.ref C :: bm).contains (.ref C) = true := by simp
  have i1 := hi.keeps up
  have b1 := (hb (.ref (h.objs.size + 1))).keeps up
  unfold isInstance
  repeat first
    | with_reducible refine wpAny_loadPart_at here ?_
    | (with_reducible refine wpAny_isSubtype_exc at1 ?_; rw [own])
    | wp_step
  show wpAny _ _ (typeLookup (.ref C) _) _ _ _
  refine i1.at ?_
  refine wpAny_holding (wpAny_bind (b1.at ?_))
  refine wpAny_bind (wpAny_call (codeAny_mono fin fun r s' z => ?_))
  rcases r with e | (v | _ | _ | _) <;> first | exact z | exact z.elim | skip
  obtain ⟨rfl, z⟩ := z
  first
    | exact wpAny_pure (wpAny_pure z)
    | (wp_walk; exact z)
theorem call_ownK (FB : ExcBaseFacts B newId initId bmB) (same : ∀ X : String, bm.contains (.type X) = bmB.contains (.type X)) {fI : Addr}
    (at_ : h.get? C = some (excClassObj nm q C N bs bm hdct sn sub ab col dd k0 k1 k2 k3 k5 newId))
    (hi : Looks (model prog w) h (typeLookup (.ref C) "__init__") (some (.ref fI))) (hb : ∀ self, Looks (model prog w) h (bindSpecial (.ref fI) self) (.ref fI, [self]))
    (fin : codeAny (model prog w) (A.under (.builtin "type.__call__" ⟨[.ref C], kw⟩)) (.call (.ref fI) ⟨[.ref (h.objs.size + 1)], kw⟩) (InitBack (h.objs.size + 1) R)
      ⟨(h.push (kdv_tup [])).push (PySem.PX.excO C h.objs.size), g, d, t, os⟩) :
    codeAny (model prog w) A (.call (.ref C) ⟨[], kw⟩) R ⟨h, g, d, t, os⟩ := by
  have f1 := tc_lookup
  have f2 := tc_bind (.ref C)
  have ty : (⟨h, g, d, t, os⟩ : Shared).TypeIs (.ref C) "type" := ⟨_, at_, rfl⟩
  refine codeAny_of_tree ?_
  show wpAny _ _ (callAny (.ref C) _) _ _ _
  repeat (any_goals first | assumption | with_reducible refine wpAny_loadPart_at at_ ?_ | wp_step)
  refine ⟨rfl, ?_⟩
  refine codeAny_call_builtin_at (Code.quiet_builtin _ (by decide +kernel)) entry_typeCall (wpAny_check_type_call_sub at_ (type_callK FB same at_ hi hb ?_))
  refine codeAny_mono fin fun r s' z => ?_
  rcases r with e | (v | _ | _ | _) <;> exact z
end
section
variable {prog : Program} {w : World} {A : Around} {R : Result → Shared → Prop} {s : Shared} {K : Frag} {B i newId : String} {bmB : List Value} {C fI : Addr} {qual msg x : Str} {p1 p2 a1 a2 a3 a4 a5 a6 b1 b2 b3 b4 : Pos}
theorem made1K {E : Value → Shared → Prop} {Q : Value → Shared → Prop} {v : Value} (KF : KxsFacts B i) (FB : ExcBaseFacts B newId i bmB) (SF : StoreFacts B bmB "object.__setattr__" "object") (T : XCls prog K B i newId bmB C)
    (TI : XIni prog K C fI qual (iA x p1 p2) (iB msg x a1 a2 a3 a4 a5 a6 b1 b2 b3 b4) (iS x)) (hno : takerIn K C x = some none) (hx1 : (x == ("self" : Str)) = false) (hx2 : (("__class__" : Str) == x) = false) (hx3 : (("super" : Str) == x) = false) (hx4 : (x == ("__debug__" : Str)) = false)
    (hpos : (a3.endLine == a5.line) = true) (a : Arnd prog K s.heap) (hroom : A.depth + 1 < recursionLimit)
    (hb : ∀ (u1 u2 kV doc pm : Value) (an : Option Addr) (cda cc : Addr) (ct : Value), bindArgs (ksFn "__init__" qual (iA x p1 p2) (iB msg x a1 a2 a3 a4 a5 a6 b1 b2 b3 b4) (iS x) .none kV doc pm an (.ref cda) ct cc) ⟨[u1], [(x, u2)]⟩ = pure [(("self" : Str), u1), (x, u2)])
    (hq : ∀ h' tk' e, Made1 s.heap h' e C x v → Q (.ref e) { s with heap := h', toks := tk' }) :
    wpAny (model prog w) A (call (.ref C) [] [(x, v)]) Q E s := by
  obtain ⟨nm, N', qn, bs, bm, hdct, sn, sub, ab, col, dd, k0, k1, k2, k3, k5, hC, hT⟩ := excInit_of a.kin T.ini
  obtain ⟨oI, hoI, hcI⟩ : ∃ oI, s.heap.get? fI = some oI ∧ oI.cls = .type "function" := by
    obtain ⟨o, ho, hc⟩ := Option.map_eq_some_iff.mp (show (K.lookup fI).map (·.cls) = some (.type "function") from beq_iff_eq.mp TI.fn)
    exact ⟨o, a.kin _ _ ho, hc⟩
  have hi' : Looks (model prog w) s.heap (typeLookup (.ref C) "__init__") (some (.ref fI)) := looks_findIn a.kin TI.at_
  obtain ⟨hp, gg, d, tk, os⟩ := s
  have kk : ∀ b o, hp.get? b = some o → ((hp.push (kdv_tup [])).push (PySem.PX.excO C hp.objs.size)).get? b = some o := fun b o e => Heap.get?_push_of_some _ (Heap.get?_push_of_some _ e)
  have hget : ((hp.push (kdv_tup [])).push (PySem.PX.excO C hp.objs.size)).get? (hp.objs.size + 1) = some (PySem.PX.excO C hp.objs.size) := by heap_get
  refine wpAny_call (call_ownK FB hT hC hi' (fun self => exc_bind hoI hcI self) ?_)
  refine init1 (s := ⟨(hp.push (kdv_tup [])).push (PySem.PX.excO C hp.objs.size), gg, d, tk, os⟩) (v := v) (t := hp.objs.size) KF FB SF T TI hno hx1 hx2 hx3 hx4 hpos a kk (show hp.objs.size ≤ _ by rw [Heap.size_push, Heap.size_push]; omega) (Nat.le_succ _) hget hroom (hb _ _) fun h' tk' M => ?_
  exact ⟨rfl, hq h' tk' _ ⟨M.keep, Nat.le_succ _, M.obj⟩⟩
end
end VK
end PySem
namespace VK
open PySem PySem.VK L2
section
variable {X : Cx} {B i newId : String} {bmB : List Value} {C fI : Addr} {qual msg x cn : Str} {p1 p2 a1 a2 a3 a4 a5 a6 b1 b2 b3 b4 p pos kp : Pos}
/-- C(x = e) -/
theorem pe_mk1K {e : Expr} {te : TE} (KF : PySem.W.KxsFacts B i) (FB : ExcBaseFacts B newId i bmB) (SF : StoreFacts B bmB "object.__setattr__" "object") (T : XCls X.prog X.K B i newId bmB C)
    (TI : XIni X.prog X.K C fI qual (iA x p1 p2) (iB msg x a1 a2 a3 a4 a5 a6 b1 b2 b3 b4) (iS x)) (hno : PySem.W.takerIn X.K C x = some none) (hgC : X.mg cn = some (.ref C)) (hsu : X.mg "super" = none) (hns : (X.prog.main.scope.names.lookup ("super" : Str)).isSome = false)
    (hdp : X.A.depth + 1 < recursionLimit) (hg : Gl X cn) (he : PE X e te)
    (hb : ∀ (u1 u2 kV doc pm : Value) (an : Option Addr) (cda cc : Addr) (ct : Value), bindArgs (PySem.W.ksFn "__init__" qual (iA x p1 p2) (iB msg x a1 a2 a3 a4 a5 a6 b1 b2 b3 b4) (iS x) .none kV doc pm an (.ref cda) ct cc) ⟨[u1], [(x, u2)]⟩ = pure [(("self" : Str), u1), (x, u2)])
    (hpos : (a3.endLine == a5.line) = true) (hx1 : (x == ("self" : Str)) = false := by decide) (hx2 : (("__class__" : Str) == x) = false := by decide) (hx3 : (("super" : Str) == x) = false := by decide) (hx4 : (x == ("__debug__" : Str)) = false := by decide)
    (hall : (backToKw pos (keywordEach [⟨some x, e, kp⟩] X.env)).all (·.1.isSome) = true := by rfl) (hks : (backToKw pos (keywordEach [⟨some x, e, kp⟩] X.env)).filterMap (·.1) = [x] := by rfl)
    (hpl : ((backTo pos (starEach [] X.env)).any (·.1) || (backToKw pos (keywordEach [⟨some x, e, kp⟩] X.env)).any (·.1.isNone)) = false := by rfl) (hdb : (cn == ("__debug__" : Str)) = false := by decide) :
    PE X (.Call (.Name cn p) [] [⟨some x, e, kp⟩] pos) (tMk1 C x te) := by
  refine ⟨fun pins s σ H Q I h => ?_⟩
  refine wpAny_Call_Name_kw (ld_glob I hg hgC ?_ hdb)
  refine PySem.W.callWith_KW0 (h₀ := X.base) I.ok.mod.kin T.kpC hall ?_ hpl
  refine thn ((pk_cons he pk_nil).run pos pins s σ H (fun zs H1 => match zs with | [v] => ∀ a d, H1 a = none → H1 d = none → d ≠ a → Q (.ref a) (upd (upd H1 d (.xd [(x, v)])) a (exS a C (some d))) | _ => False) I h) fun ws s1 hz => ?_
  obtain ⟨zs, H1, I1, r1, q1⟩ := hz
  cases r1 with
  | nil => exact False.elim q1
  | cons r1 rr =>
  cases rr with
  | cons _ _ => exact False.elim q1
  | nil =>
    refine ⟨I1.kIn, ?_⟩
    rw [hks]
    refine made1K KF FB SF T TI hno hx1 hx2 hx3 hx4 hpos (arnd_of I1 hsu hns) hdp hb fun h' tk' a M => ?_
    obtain ⟨t, d, ho, hd, hne, hn⟩ := M.obj
    have J := inv_two (t' := tk') I1 M.keep M.new hd hne (oa := exS a C (some d)) (od := .xd [(x, _)]) (fun _ => exS_ok ho) fun _ => ⟨_, hn, relO_one r1⟩
    exact ⟨.ref a, _, J, rfl, q1 a d (I1.hok.fresh M.new) (I1.hok.fresh hd) hne⟩
end
end VK

namespace VK
open PySem PySem.Spec PyProof.Rows L2
/-! ## repr of data -/
mutual
theorem dp_noDict {K : PySem.W.Frag} {H : Hp} : ∀ (d : PyData) (v : V), Dp K H v d → d.hasDict = false
  | .none, _, _ => by simp [PyData.hasDict]
  | .bool _, _, _ => by simp [PyData.hasDict]
  | .int _, _, _ => by simp [PyData.hasDict]
  | .str _, _, _ => by simp [PyData.hasDict]
  | .list ds, _, h => by
    cases h with
    | lst hs ha =>
      simp only [PyData.hasDict]
      exact dpAll_noDict ds _ ha
  | .tuple ds, _, h => by
    cases h with
    | tup hs ha =>
      simp only [PyData.hasDict]
      exact dpAll_noDict ds _ ha
  | .dict _, _, h => by cases h
theorem dpAll_noDict {K : PySem.W.Frag} {H : Hp} : ∀ (ds : List PyData) (vs : List V), DpAll K H vs ds → PyData.hasDictAll ds = false
  | [], _, _ => by simp [PyData.hasDictAll]
  | d :: ds, _, h => by
    cases h with
    | cons h1 h2 =>
      simp only [PyData.hasDictAll, dp_noDict d _ h1, dpAll_noDict ds _ h2]
      rfl
end
/-- a flat value as data -/
inductive Fl : V → PyData → Prop
  | non : Fl .non .none
  | bl (b : Bool) : Fl (.bl b) (.bool b)
  | int (i : Int) : Fl (.int i) (.int i)
  | str (x : Str) : Fl (.str x) (.str x)
def keyD : Key → PyData
  | .inl i => .int i
  | .inr x => .str x
/-- data: as Dp, or a dict of flat values -/
inductive Dr (K : PySem.W.Frag) (H : Hp) : V → PyData → Prop
  | of {v : V} {d : PyData} : Dp K H v d → Dr K H v d
  | dct {a : Addr} {kvs : List (Key × V)} {ds : List (PyData × PyData)} : H a = some (.dK kvs) → Paired (fun (p : Key × V) (q : PyData × PyData) => q.1 = keyD p.1 ∧ Fl p.2 q.2) kvs ds → Dr K H (.ref a) (.dict ds)
theorem reads_key {h : Heap} {k : Key} {v : Value} (e : keyIs k v = true) : Reads h v (keyD k) [] := by
  rcases keyIs_shape e with ⟨i, t, rfl, rfl⟩ | ⟨x, t, rfl, rfl⟩
  · exact .int i t
  · exact .str x t
theorem reads_fl {h : Heap} {v : V} {d : PyData} {u : Value} (f : Fl v d) (r : RelV v u) : Reads h u d [] := by
  cases f with
  | non => cases r; exact .none
  | bl b => cases r; exact .bool b
  | int i => obtain ⟨t, rfl⟩ := r; exact .int i t
  | str x => obtain ⟨t, rfl⟩ := r; exact .str x t
section
variable {X : Cx} {pins : List (Addr × Obj)} {σ : L2.St} {H : Hp} {s : Shared}
theorem reads_pairs {P : Program} {w : World} {h : Heap} : ∀ {es : List DictEntry} {vs : List (Key × Value)} {kvs : List (Key × V)} {ds : List (PyData × PyData)}, Pairs (mixKind P w) es vs → KV kvs vs →
    Paired (fun (p : Key × V) (q : PyData × PyData) => q.1 = keyD p.1 ∧ Fl p.2 q.2) kvs ds → ReadsAll h (es.map (·.key)) (ds.map (·.1)) [] ∧ ReadsAll h (es.map (·.val)) (ds.map (·.2)) []
  | _, _, _, _, .nil, .nil, .nil => ⟨.nil, .nil⟩
  | _, _, _, _, .cons hk hv hp, .cons r hr, .cons q hq => by
    obtain ⟨i1, i2⟩ := reads_pairs (h := h) hp hr hq
    obtain ⟨e1, e2⟩ := r
    obtain ⟨q1, q2⟩ := q
    refine ⟨?_, ?_⟩
    · rw [List.map_cons, List.map_cons, q1, e1]
      exact .cons (as := []) (reads_key hk) i1
    · rw [List.map_cons, List.map_cons, hv]
      exact .cons (as := []) (reads_fl q2 e2) i2
theorem Dr.reads (I : Inv X pins σ H s) {v : V} {d : PyData} {u : Value} (h : Dr X.K H v d) (r : RelV v u) : ∃ as, Reads s.heap u d as ∧ (d.hasDict = true → sysModules ∉ as) := by
  cases h with
  | of h =>
    obtain ⟨as, q⟩ := Dp.reads I d v u h r
    exact ⟨as, q, PyData.noDict_hsm (dp_noDict d v h)⟩
  | dct ha hp =>
    cases r
    have hx := I.hok _ _ ha
    obtain ⟨_, hne, vs, hkv, o, es, ep, ho, hex, hd, _, hps, _⟩ := hx
    obtain ⟨r1, r2⟩ := reads_pairs (h := s.heap) hps hkv hp
    refine ⟨_, Reads.dict ho hex.1 hd r1 r2, fun _ hm => ?_⟩
    rcases List.mem_append.mp hm with z | z
    · have e := List.mem_singleton.mp z
      rw [← e, beq_self_eq_true] at hne
      cases hne
    · cases z
theorem call_repr (hg : X.A.guards = some []) (hu : X.A.units + 64 < cLine) : CallR X (.builtin "repr") (fun xs H Q => ∃ v d, xs = [v] ∧ Dr X.K H v d ∧ d.showable = true ∧ d.shown.length ≤ sizeLine ∧ d.depth ≤ 60 ∧ Q (.str d.shown) H) := by
  intro pins s σ H xs us Q I r h
  obtain ⟨v, d, rfl, hd, hs, hz, hdep, q⟩ := h
  cases r with
  | cons rv rr =>
    cases rr
    obtain ⟨as, hr, hsm⟩ := hd.reads I rv
    cases hr with
    | none => exact PySem.P.repr_of_none ⟨.str _, H, I.tok _, ⟨_, rfl⟩, by simpa only [PyData.shown] using q⟩
    | bool b => exact PySem.P.repr_of_bool ⟨.str _, H, I.tok _, ⟨_, rfl⟩, by simpa only [PyData.shown] using q⟩
    | int i t => exact PySem.P.repr_of_int (by simpa [PyData.showable] using hs) ⟨.str _, H, I.tok _, ⟨_, rfl⟩, by simpa only [PyData.shown] using q⟩
    | str x t => exact PySem.P.repr_of_str ⟨.str _, H, I.tok _, ⟨_, rfl⟩, by simpa only [PyData.shown] using q⟩ (by simpa only [PyData.shown] using hz)
    | list h1 h2 h3 h4 => exact repr_of_reads' (.list h1 h2 h3 h4) hs hsm hg (by omega) (fun _ _ e => e) (fun h' u tk k => ⟨.str _, H, I.kept (t' := tk) k, ⟨_, rfl⟩, q⟩) hz
    | tuple h1 h2 h3 h4 => exact repr_of_reads' (.tuple h1 h2 h3 h4) hs hsm hg (by omega) (fun _ _ e => e) (fun h' u tk k => ⟨.str _, H, I.kept (t' := tk) k, ⟨_, rfl⟩, q⟩) hz
    | dict h1 h2 h3 h4 h5 => exact repr_of_reads' (.dict h1 h2 h3 h4 h5) hs hsm hg (by omega) (fun _ _ e => e) (fun h' u tk k => ⟨.str _, H, I.kept (t' := tk) k, ⟨_, rfl⟩, q⟩) hz
end
end VK

namespace VK
open PySem PySem.Spec PyProof.Rows L2
/-! ## a def that runs where no repr is under way -/
structure FnG (P : Program) (w : World) (K : PySem.W.Frag) (mg : Str → Option Value) (base : Heap) (CX : CXT) (k : Nat) (f : Addr) (fd : FuncData) (ps : List Str) (sp : Sp) : Prop where
  len : ∀ vs H Q E, sp vs H Q E → vs.length = ps.length
  run : ∀ (A : Around) (outer : List Env) (s : Shared) (H : Hp) (args : Args) (us : List Value) (vs : List V) (Q : VK) (E : XK), Room k A → A.guards = some [] →
    Env0 P w K mg base A outer s H → BindsTo s fd args (ps.zip us) → Vals vs us → sp vs H Q E → codeAny (model P w) A (.call (.ref f) args) (CR CX outer P w H s Q E) s
section
variable {P : Program} {w : World} {K : PySem.W.Frag} {mg : Str → Option Value} {base : Heap} {CXa : CXT} {k : Nat} {f : Addr} {fd : FuncData} {N ps : List Str} {sp : Sp} {nm qual : Str} {st : Stmt}
/-- by its body -/
theorem FnG.by_body (F : Fun K nm qual st f fd) (S : FnScope N ps (defScope st)) (len : ∀ vs H Q E, sp vs H Q E → vs.length = ps.length)
    (hbody : ∀ (cdv : Value) (A : Around) (outer : List Env) (s : Shared) (H : Hp) (vs : List V) (Q : VK) (E : XK),
      Room k (A.deeper (envOfC qual (defScope st) s.heap.objs.size f cdv)) → (A.deeper (envOfC qual (defScope st) s.heap.objs.size f cdv)).guards = some [] → sp vs H Q E →
      ∃ t, PSs (cxOf CXa P w K mg base N qual (defScope st) f cdv A outer s H E) (defBody st) t ∧ t { nx := fun _ H' => Q .non H', rt := Q } (start N vs) H) :
    FnG P w K mg base CXa (k + 1) f fd ps sp := by
  obtain ⟨oc, od, kV, doc, pm, an, cdv, ct, osl, rfl, lk, hcd⟩ := F.ex
  refine ⟨len, ?_⟩
  intro A outer s H args us vs Q E room gu e0 hb vals hsp
  have kin : K.In s.heap := e0.mod.kin.keeps fun b o z => (e0.bs b o z).1
  have nolim : s.heap.NoLimit := e0.mod.nolimit.keeps fun b o z => (e0.bs b o z).1
  have kinds : ∀ y ∈ ps.zip us, (defScope st).names.lookup y.1 = some .local ∨ ((defScope st).names.lookup y.1 = some .cell ∧ ((cellsFrom (s.heap.objs.size + 1) (defScope st).names []).lookup y.1).isSome = true) := by
    rintro ⟨n, v⟩ hy
    rcases S.par n (List.of_mem_zip hy).1 with z | z
    · exact Or.inl z
    · exact Or.inr ⟨z, PySem.W.cellsFrom_some _ _ _ (Or.inl z)⟩
  refine codeAny_call_function room.depth (kin _ _ lk) rfl S.co S.gen rfl (PySem.W.codeRec_of kin hcd) (hb _ _ _ _ ?_)
  refine wpAny_newFunctionEnv_cells S.kind kinds fun env henv s1 inn => ?_
  subst henv
  refine ⟨nolim.keeps inn.toInCall.keep, codeAny_func ?_⟩
  obtain ⟨t, ht, hq⟩ := hbody cdv A outer s H vs Q E (room.deeper _) gu hsp
  have J : Inv (cxOf CXa P w K mg base N qual (defScope st) f cdv A outer s H E) [] (start N vs) H s1 := inv_start S room.hd e0 (len _ _ _ _ hsp) vals inn
  refine wpAny_mono (ht.run [] s1 (start N vs) H _ J hq) ?_ fun e s' z => z
  intro fl s' z
  cases fl with
  | ret u =>
    obtain ⟨v, σ', H', J', rv, q⟩ := z
    exact ⟨v, H', J'.os, J'.bare, J'.base, J'.hok, rv, q⟩
  | next =>
    obtain ⟨σ', H', J', q⟩ := z
    exact ⟨V.non, H', J'.os, J'.bare, J'.base, J'.hok, rfl, q⟩
  | brk =>
    obtain ⟨_, _, _, q⟩ := z
    exact False.elim q
  | cont =>
    obtain ⟨_, _, _, q⟩ := z
    exact False.elim q
theorem FnG.of_ok (F : FnOk P w K mg base CXa k f fd ps sp) : FnG P w K mg base CXa k f fd ps sp :=
  ⟨F.len, fun A outer s H args us vs Q E hr _ => F.run A outer s H args us vs Q E hr⟩
theorem FnG.mono {j : Nat} (F : FnG P w K mg base CXa j f fd ps sp) (h : j ≤ k) : FnG P w K mg base CXa k f fd ps sp :=
  ⟨F.len, fun A outer s H args us vs Q E hr => F.run A outer s H args us vs Q E (hr.mono h)⟩
end
section
variable {X : Cx} {CXa : CXT} {k : Nat} {f : Addr} {fd : FuncData} {ps : List Str} {sp : Sp} {dvs : List V} {ds : List Value} {E : XK} {x : Str} {p pos : Pos} {e : Expr} {es : List Expr} {t : TA}
theorem run_fnG {pins : List (Addr × Obj)} {σ : L2.St} {H : Hp} {s : Shared} {Q : VK} {us : List Value} {vs : List V} (F : FnG X.prog X.w X.K X.mg X.base CXa k f fd ps sp) (hr : Room k X.A) (gu : X.A.guards = some [])
    (hb : Binds X.K fd ps ds) (hd : Vals dvs ds) (hx : Passes CXa X E) (I : Inv X pins σ H s) (r : Vals vs us) (h : sp (vs ++ dvs) H Q E) : wpAny (model X.prog X.w) X.A (call (.ref f) us) (EP X pins σ Q) X.xe s := by
  have vv : Vals (vs ++ dvs) (us ++ ds) := r.append hd
  have ll : (us ++ ds).length = ps.length := vv.length.symm.trans (F.len _ _ _ _ h)
  refine wpAny_call (codeAny_mono (F.run X.A X.stack s H ⟨us, []⟩ (us ++ ds) (vs ++ dvs) Q E hr gu I.env0 (hb s us I.kIn ll) vv h) ?_)
  intro res s' z
  cases res with
  | error er => exact hx pins σ H s er s' I z
  | ok fl =>
    cases fl with
    | ret u => exact I.after z
    | next => exact False.elim z
    | brk => exact False.elim z
    | cont => exact False.elim z
/-- f(..) by such a promise -/
theorem pe_callG (F : FnG X.prog X.w X.K X.mg X.base CXa k f fd ps sp) (hr : Room k X.A) (gu : X.A.guards = some []) (hg : Gl X x) (hm : X.mg x = some (.ref f)) (hk : PySem.W.keepIn X.K (.ref f) = true) (hb : Binds X.K fd ps ds) (hd : Vals dvs ds) (hx : Passes CXa X E)
    (ha : PA X (e :: es) t) (hdb : (x == ("__debug__" : Str)) = false := by decide) (he : starEach (e :: es) X.env = (false, eval e X.env) :: starEach es X.env := by rfl) (hpl : (backTo pos (starEach es X.env)).any (·.1) = false := by rfl) :
    PE X (.Call (.Name x p) (e :: es) [] pos) (tCall sp dvs E t) := ⟨fun pins s σ H Q I h => wpAny_Call_Name_kw (ld_glob I hg hm (PySem.W.callWith_K (h₀ := X.base) I.ok.mod.kin hk
      (thn (ha.run pos pins s σ H _ I h) fun us s1 ⟨vs, H1, I1, r, q⟩ => ⟨I1.kIn, run_fnG F hr gu hb hd hx I1 r q⟩) he hpl) hdb)⟩
end
/-- the law's call -/
theorem law_callG {P : Program} {w : World} {K : PySem.W.Frag} {mg mb : Str → Option Value} {k : Nat} {fa a : Addr} {fd : FuncData} {x : Str} {sp : Sp} {s₁ : Shared} {vs : List Value} {ns : List Int}
    (KX : K.In s₁.heap) (hns : s₁.heap.Ns mainGlobals mg) (hb : s₁.heap.Ns builtinsNs mb) (hbb : ∀ x : Str, x ≠ "__name__" → mb x = bootBuiltins x) (hlim : s₁.heap.NoLimit) (hg : s₁.gens = #[])
    (ha : s₁.heap.get? a = some { cls := .type "list", data := .seq vs.toArray }) (hi : IntsAre vs ns) (hl : ns.length ≤ sizeLine) (hr : Room k callerA)
    (F : ∀ base : Heap, K.In base → base.Ns mainGlobals mg → FnG P w K mg base CX0 k fa fd [x] sp) (hbind : ∀ (s : Shared) (u : Value), BindsTo s fd ⟨[u], []⟩ [(x, u)])
    (hsp : ∀ H : Hp, Only H → SqL K H a (ns.map V.int) → sp [.ref a] H (fun v _ => v = .bl true) fun _ _ _ => False) :
    codeAny (model P w) callerA (.call (.ref fa) ⟨[.ref a], []⟩) (fun r s' => r = .ok (.ret (.bool true)) ∧ OldK s₁.heap s'.heap ∧ s'.os = s₁.os ∧ AllBare s'.gens) s₁ := by
  have rv := vals_ints hi
  have go : ∀ H : Hp, Only H → SqL K H a (ns.map V.int) → HOk P w H s₁.heap → (∀ b, H b ≠ none → b = a) → (H a ≠ none → K.lookup a = none) →
      codeAny (model P w) callerA (.call (.ref fa) ⟨[.ref a], []⟩) (fun r s' => r = .ok (.ret (.bool true)) ∧ OldK s₁.heap s'.heap ∧ s'.os = s₁.os ∧ AllBare s'.gens) s₁ := by
    intro H only sq hok onlyA notK
    have isA : ∀ {b : Addr} {u : HO}, H b = some u → b = a := fun {b u} z => onlyA b (by rw [z]; exact nofun)
    have free : ∀ {b : Addr} {o : Obj} {es : Array DictEntry} {ep : Nat}, s₁.heap.get? b = some o → o.data = .dict es ep → H b = none := by
      intro b o es ep e d
      cases q : H b with
      | none => rfl
      | some u =>
        rw [isA q, ha] at e
        cases e
        cases d
    have ns' : ∀ {b : Addr} {m : Str → Option Value}, s₁.heap.Ns b m → (hidT s₁.heap H).Ns b m := by
      rintro b m ⟨o, es, ep, e, d, r⟩
      exact ⟨o, es, ep, hidT_get e (free e d), d, r⟩
    have kin' : K.In (hidT s₁.heap H) := by
      intro b o e
      refine hidT_get (KX b o e) ?_
      cases q : H b with
      | none => rfl
      | some u =>
        have hz := isA q
        subst hz
        rw [notK (by rw [q]; exact nofun)] at e
        cases e
    obtain ⟨mc, l1, l2⟩ := hlim
    have e0 : Env0 P w K mg (hidT s₁.heap H) callerA [] s₁ H := by
      refine ⟨rfl, ⟨kin', ns' hns, ⟨mb, ns' hb, hbb⟩, ⟨mc, ns' l1, l2⟩⟩, fun b o e => of_hidT e, Nat.le_of_eq (hidT_size _ _), trivial, (fun b z => nomatch z), hok, .of_eq hg⟩
    refine codeAny_mono ((F _ kin' (ns' hns)).run callerA [] s₁ H ⟨[.ref a], []⟩ [.ref a] [.ref a] _ _ hr rfl e0 (hbind s₁ (.ref a)) (.cons rfl .nil) (hsp H only sq)) ?_
    intro res s' z
    cases res with
    | error er => exact False.elim z
    | ok fl =>
      cases fl with
      | next => exact False.elim z
      | brk => exact False.elim z
      | cont => exact False.elim z
      | ret u =>
        obtain ⟨v, H', os, bare, un, hok', rr, q⟩ := z
        have qv : v = .bl true := q
        subst qv
        cases rr
        refine ⟨rfl, OldK.of_keep fun b o e => ?_, os, bare⟩
        cases q : H b with
        | none => exact un.keep b o e q (fun z => nomatch z) (fun z => nomatch z)
        | some u =>
          rcases only b with n | ⟨ob, xs, n⟩
          · rw [q] at n
            cases n
          · obtain ⟨e1, _⟩ := hok b _ n
            obtain ⟨e2, _⟩ := hok' b _ (un.frzs b ob _ n)
            rw [e] at e1
            cases e1
            exact e2
  cases hk : K.lookup a with
  | some o =>
    have e := KX a o hk
    rw [ha] at e
    cases e
    refine go (fun _ => none) (fun _ => .inl rfl) (.inr ⟨_, vs.toArray, _, hk, rfl, rfl, rfl, ?_, ?_⟩) (fun b u z => nomatch z) (fun b z => absurd rfl z) (fun z => absurd rfl z)
    · rw [List.size_toArray, hi.length]
      exact hl
    · simpa using rv
  | none =>
    refine go (fun b => if b = a then some (.frz { cls := .type "list", data := .seq vs.toArray } (.lst (ns.map V.int))) else none) ?_ (.inl (.inr ⟨_, if_pos rfl⟩)) ?_ ?_ (fun _ => hk)
    · intro b
      by_cases hb : b = a
      · exact .inr ⟨_, _, if_pos hb⟩
      · exact .inl (if_neg hb)
    · intro b u z
      by_cases hb : b = a
      · subst hb
        have z' := (if_pos rfl).symm.trans z
        cases z'
        exact ⟨ha, by rw [List.length_map]; exact hl, vs, _, rv, ha⟩
      · have z' := (if_neg hb).symm.trans z
        cases z'
    · intro b z
      by_cases hb : b = a
      · exact hb
      · exact absurd (if_neg hb) z
/-- the walk that k_head asks for -/
theorem walk_G {l : PySem.W.OpenLaw} {n k : Nat} {q : Program} {loose : List Str} {XP : (Str → Option Value) → Heap → Prop} {YP : World → Heap → Prop} {d : DefRec} {K : Params → PySem.W.Frag} {sp : PySem.W.Frag → Sp} {x : Str}
    (hn : l.most = some n) (hn2 : n ≤ sizeLine) (hdf : d.params.defaults = []) (hr : Room k callerA) (hY : ∀ (w : World) (h : Heap), YP w h → (K w.params).In h)
    (F : ∀ (w : World) (mg : Str → Option Value) (fa : Addr) (h : Heap), (K w.params).In h → h.Ns mainGlobals mg → mg d.name = some (.ref fa) →
      ∃ fd : FuncData, (∀ (s : Shared) (u : Value), BindsTo s fd ⟨[u], []⟩ [(x, u)]) ∧ ∀ base : Heap, (K w.params).In base → base.Ns mainGlobals mg → FnG l.prog w (K w.params) mg base CX0 k fa fd [x] (sp (K w.params)))
    (hsp : ∀ (K : PySem.W.Frag) (H : Hp) (a : Addr) (ns : List Int), ns.length ≤ n → Only H → SqL K H a (ns.map V.int) → sp K [.ref a] H (fun v _ => v = .bl true) fun _ _ _ => False) :
    PySem.W.WalkO q loose XP YP l.row.toRowW d [] (fun f vs => PySem.call f vs) := by
  refine Att.attach_call hn hdf ?_
  intro w s₀ s₁ mg mb fa o pm cd doc a vs ns G Y ho hd hcd hmg hobj hints hlen hgen
  have KX := hY w _ Y
  obtain ⟨fd, hb, hF⟩ := F w mg fa _ KX G.T.g hmg
  exact law_callG KX G.T.g G.T.b G.T.builtins G.T.nolimit hgen hobj hints (Nat.le_trans hlen hn2) hr hF hb fun H hO hS => hsp (K w.params) H a ns hlen hO hS
end VK

namespace VK
open PySem PySem.Spec PyProof.Rows L2
/-! ## data that is tracked, and expressions that lay it -/
mutual
inductive Dt (H : Hp) : V → PyData → Prop
  | non : Dt H .non .none
  | bl (b : Bool) : Dt H (.bl b) (.bool b)
  | int (i : Int) : Dt H (.int i) (.int i)
  | str (x : Str) : Dt H (.str x) (.str x)
  | lst {a : Addr} {xs : List V} {ds : List PyData} : H a = some (.lst xs) → DtAll H xs ds → Dt H (.ref a) (.list ds)
  | tup {a : Addr} {xs : List V} {ds : List PyData} : H a = some (.tup xs) → DtAll H xs ds → Dt H (.ref a) (.tuple ds)
  | dct {a : Addr} {kvs : List (Key × V)} {ds : List (PyData × PyData)} : H a = some (.dK kvs) → Paired (fun (p : Key × V) (q : PyData × PyData) => q.1 = keyD p.1 ∧ Fl p.2 q.2) kvs ds → Dt H (.ref a) (.dict ds)
inductive DtAll (H : Hp) : List V → List PyData → Prop
  | nil : DtAll H [] []
  | cons {v : V} {vs : List V} {d : PyData} {ds : List PyData} : Dt H v d → DtAll H vs ds → DtAll H (v :: vs) (d :: ds)
end
/-- what data leans on: lists, tuples, dicts of flat values -/
def Leans : HO → Prop
  | .lst _ => True
  | .tup _ => True
  | .dK kvs => ∀ p ∈ kvs, ∀ a, p.2 ≠ .ref a
  | _ => False
theorem flat_of : ∀ {kvs : List (Key × V)} {ds : List (PyData × PyData)}, Paired (fun (p : Key × V) (q : PyData × PyData) => q.1 = keyD p.1 ∧ Fl p.2 q.2) kvs ds → ∀ p ∈ kvs, ∀ a, p.2 ≠ .ref a
  | _, _, .nil, _, h, _ => nomatch h
  | _, _, .cons r t, p, h, a => by
    rcases List.mem_cons.mp h with rfl | h
    · intro z
      have f := r.2
      rw [z] at f
      cases f
    · exact flat_of t p h a
mutual
theorem Dt.keep {H H' : Hp} (k : ∀ b o, H b = some o → Leans o → H' b = some o) : ∀ (d : PyData) (v : V), Dt H v d → Dt H' v d
  | .none, _, h => by cases h; exact .non
  | .bool b, _, h => by cases h; exact .bl b
  | .int i, _, h => by cases h; exact .int i
  | .str x, _, h => by cases h; exact .str x
  | .list ds, _, h => by
    cases h with
    | lst ha hs => exact .lst (k _ _ ha trivial) (DtAll.keep k ds _ hs)
  | .tuple ds, _, h => by
    cases h with
    | tup ha hs => exact .tup (k _ _ ha trivial) (DtAll.keep k ds _ hs)
  | .dict ds, _, h => by
    cases h with
    | dct ha hp => exact .dct (k _ _ ha (flat_of hp)) hp
theorem DtAll.keep {H H' : Hp} (k : ∀ b o, H b = some o → Leans o → H' b = some o) : ∀ (ds : List PyData) (vs : List V), DtAll H vs ds → DtAll H' vs ds
  | [], _, h => by cases h; exact .nil
  | d :: ds, _, h => by
    cases h with
    | cons h1 h2 => exact .cons (Dt.keep k d _ h1) (DtAll.keep k ds _ h2)
end
theorem Dt.same {H H' : Hp} (s : Same H H') {d : PyData} {v : V} (h : Dt H v d) : Dt H' v d := Dt.keep (fun b o e _ => s b o e) d v h
theorem DtAll.same {H H' : Hp} (s : Same H H') {ds : List PyData} {vs : List V} (h : DtAll H vs ds) : DtAll H' vs ds := DtAll.keep (fun b o e _ => s b o e) ds vs h
mutual
theorem Dt.dp {K : PySem.W.Frag} {H : Hp} : ∀ (d : PyData) (v : V), Dt H v d → d.hasDict = false → Dp K H v d
  | .none, _, h, _ => by cases h; exact .non
  | .bool b, _, h, _ => by cases h; exact .bl b
  | .int i, _, h, _ => by cases h; exact .int i
  | .str x, _, h, _ => by cases h; exact .str x
  | .list ds, _, h, z => by
    cases h with
    | lst ha hs => exact .lst (SqL.of ha) (DtAll.dp ds _ hs (by simpa only [PyData.hasDict] using z))
  | .tuple ds, _, h, z => by
    cases h with
    | tup ha hs => exact .tup (SqT.of ha) (DtAll.dp ds _ hs (by simpa only [PyData.hasDict] using z))
  | .dict ds, _, _, z => by simp only [PyData.hasDict] at z; cases z
theorem DtAll.dp {K : PySem.W.Frag} {H : Hp} : ∀ (ds : List PyData) (vs : List V), DtAll H vs ds → PyData.hasDictAll ds = false → DpAll K H vs ds
  | [], _, h, _ => by cases h; exact .nil
  | d :: ds, _, h, z => by
    cases h with
    | cons h1 h2 =>
      simp only [PyData.hasDictAll, Bool.or_eq_false_iff] at z
      exact .cons (Dt.dp d _ h1 z.1) (DtAll.dp ds _ h2 z.2)
end
/-- no dict within: repr may be asked -/
def topDict : PyData → Bool
  | .dict _ => true
  | d => !d.hasDict
theorem Dt.dr {K : PySem.W.Frag} {H : Hp} {d : PyData} {v : V} (h : Dt H v d) (z : topDict d = true) : Dr K H v d := by
  cases d with
  | dict ds => cases h with | dct ha hp => exact .dct ha hp
  | none => exact .of (Dt.dp _ _ h (by simpa [topDict] using z))
  | bool b => exact .of (Dt.dp _ _ h (by simpa [topDict] using z))
  | int b => exact .of (Dt.dp _ _ h (by simpa [topDict] using z))
  | str b => exact .of (Dt.dp _ _ h (by simpa [topDict] using z))
  | list b => exact .of (Dt.dp _ _ h (by simpa [topDict] using z))
  | tuple b => exact .of (Dt.dp _ _ h (by simpa [topDict] using z))
theorem DtAll.length {H : Hp} : ∀ {vs : List V} {ds : List PyData}, DtAll H vs ds → vs.length = ds.length
  | _, _, .nil => rfl
  | _, _, .cons _ t => congrArg (· + 1) t.length
theorem DtAll.append {H : Hp} : ∀ {vs ws : List V} {ds es : List PyData}, DtAll H vs ds → DtAll H ws es → DtAll H (vs ++ ws) (ds ++ es)
  | _, _, _, _, .nil, h => h
  | _, _, _, _, .cons a t, h => .cons a (t.append h)
theorem DtAll.mem {H : Hp} : ∀ {vs : List V} {ds : List PyData}, DtAll H vs ds → ∀ v ∈ vs, ∃ d ∈ ds, Dt H v d
  | _, _, .nil, _, h => nomatch h
  | _, _, .cons a t, v, h => by
    rcases List.mem_cons.mp h with rfl | h
    · exact ⟨_, List.mem_cons_self, a⟩
    · obtain ⟨d, hd, q⟩ := t.mem v h
      exact ⟨d, List.mem_cons_of_mem _ hd, q⟩
/-- an expression that lays data, new where it is an object -/
def EvD (te : TE) (σ : L2.St) (d : PyData) : Prop := ∀ H Q, (∀ v H1, Same H H1 → Dt H1 v d → (∀ a, v = .ref a → H a = none) → Q v H1) → te σ H Q
def EvDs (ta : TA) (σ : L2.St) (ds : List PyData) : Prop := ∀ H Q, (∀ vs H1, Same H H1 → DtAll H1 vs ds → (∀ v ∈ vs, ∀ a, v = .ref a → H a = none) → Q vs H1) → ta σ H Q
section
variable {σ : L2.St} {te : TE} {ta : TA} {d : PyData} {ds : List PyData}
theorem ed_non : EvD (tC .non) σ .none := fun H _ k => k _ H (Same.refl H) .non (fun _ z => nomatch z)
theorem ed_bl (b : Bool) : EvD (tC (.bl b)) σ (.bool b) := fun H _ k => k _ H (Same.refl H) (.bl b) (fun _ z => nomatch z)
theorem ed_int (i : Int) : EvD (tC (.int i)) σ (.int i) := fun H _ k => k _ H (Same.refl H) (.int i) (fun _ z => nomatch z)
theorem ed_str (x : Str) : EvD (tC (.str x)) σ (.str x) := fun H _ k => k _ H (Same.refl H) (.str x) (fun _ z => nomatch z)
theorem ed_neg (i : Int) : EvD (tUn (rU fun i => .int (-i)) (tC (.int i))) σ (.int (-i)) := fun H _ k => ⟨i, rfl, k _ H (Same.refl H) (.int (-i)) (fun _ z => nomatch z)⟩
theorem ed_pow (i j : Int) (h : CPow i j) : EvD (tOp (rI CPow fun i j => .int (i ^ j.toNat)) (tC (.int i)) (tC (.int j))) σ (.int (i ^ j.toNat)) := fun H _ k => ⟨i, j, rfl, rfl, h, k _ H (Same.refl H) (.int _) (fun _ z => nomatch z)⟩
theorem eds_nil : EvDs tNil σ [] := fun H _ k => k _ H (Same.refl H) .nil (fun _ z => nomatch z)
theorem eds_cons (h : EvD te σ d) (hr : EvDs ta σ ds) : EvDs (tCons te ta) σ (d :: ds) := fun H Q k => h H _ fun v H1 s1 d1 n1 => hr H1 _ fun vs H2 s2 d2 n2 => k _ H2 (s1.trans s2) (.cons (d1.same s2) d2) fun x hx a e => by
  rcases List.mem_cons.mp hx with rfl | hx
  · exact n1 a e
  · exact s1.free (n2 x hx a e)
theorem ed_lst (h : EvDs ta σ ds) (hl : ds.length ≤ 10000 := by decide) : EvD (tLst ta) σ (.list ds) := fun H Q k => h H _ fun vs H1 s1 d1 n1 =>
  ⟨by rw [d1.length]; exact Nat.le_trans hl (by decide), fun p hp => k _ _ (s1.trans (fun b o e => by rw [upd_ne (ne_of_none e hp)]; exact e)) (.lst upd_same (d1.same fun b o e => by rw [upd_ne (ne_of_none e hp)]; exact e)) fun a e => by cases e; exact s1.free hp⟩
theorem ed_tup (h : EvDs ta σ ds) (hl : ds.length ≤ 10000 := by decide) : EvD (tTup ta) σ (.tuple ds) := fun H Q k => h H _ fun vs H1 s1 d1 n1 =>
  ⟨by rw [d1.length]; exact Nat.le_trans hl (by decide), fun p hp => k _ _ (s1.trans (fun b o e => by rw [upd_ne (ne_of_none e hp)]; exact e)) (.tup upd_same (d1.same fun b o e => by rw [upd_ne (ne_of_none e hp)]; exact e)) fun a e => by cases e; exact s1.free hp⟩
theorem ed_dict0 : EvD tDNewK σ (.dict []) := fun H Q k p hp => k _ _ (fun b o e => by rw [upd_ne (ne_of_none e hp)]; exact e) (.dct upd_same .nil) fun a e => by cases e; exact hp
theorem ed_dict1 (i j : Int) : EvD (tDisp [(tC (.int i), tC (.int j))]) σ (.dict [(.int i, .int j)]) := fun H Q k p hp =>
  ⟨upd_same, [(Sum.inl i, .int j)], rfl, by show 1 ≤ 15; decide, k _ _ (fun b o e => by rw [upd_ne (ne_of_none e hp), upd_ne (ne_of_none e hp)]; exact e) (.dct upd_same (.cons ⟨rfl, .int j⟩ .nil)) fun a e => by cases e; exact hp⟩

/-- x = e, e laying data; a list + a list laid in the place -/
theorem st_evd {i : Nat} {u : TS} {D : Ends} {H : Hp} (h : EvD te σ d) (k : ∀ v H1, Same H H1 → Dt H1 v d → (∀ a, v = .ref a → H a = none) → u D (σ.set i (some v)) H1) : tSeq (tAsg te (gName i)) u D σ H := h H _ k
theorem op_evd {r : R2} {tb : TE} {H : Hp} {Q : VK} {x : V} {i : Nat} (hi : σ[i]? = some (some x)) (h : EvD tb σ d) (k : ∀ v H1, Same H H1 → Dt H1 v d → (∀ a, v = .ref a → H a = none) → r x v H1 Q) : tOp r (tVar i) tb σ H Q := ⟨x, hi, h H _ k⟩
theorem lst_evds {H : Hp} {Q : VK} (h : EvDs ta σ ds) (hl : ds.length ≤ 10000) (k : ∀ p vs H1, H p = none → Same H H1 → H1 p = some (.lst vs) → DtAll H1 vs ds → (∀ v ∈ vs, ∀ a, v = .ref a → H a = none) → Q (.ref p) H1) : tLst ta σ H Q :=
  h H _ fun vs H1 s1 d1 n1 => ⟨by rw [d1.length]; exact Nat.le_trans hl (by decide), fun p hp => k p vs _ (s1.free hp) (s1.trans (fun b o e => by rw [upd_ne (ne_of_none e hp)]; exact e)) upd_same (d1.same fun b o e => by rw [upd_ne (ne_of_none e hp)]; exact e) n1⟩
theorem st_evds {i : Nat} {u : TS} {D : Ends} {H : Hp} (h : EvDs ta σ ds) (hl : ds.length ≤ 10000) (k : ∀ p vs H1, H p = none → Same H H1 → H1 p = some (.lst vs) → DtAll H1 vs ds → (∀ v ∈ vs, ∀ a, v = .ref a → H a = none) → u D (σ.set i (some (.ref p))) H1) :
    tSeq (tAsg (tLst ta) (gName i)) u D σ H := by
  show tLst ta σ H (fun x H1 => u D (σ.set i (some x)) H1)
  exact lst_evds h hl k
theorem op_evds {r : R2} {H : Hp} {Q : VK} {x : V} {i : Nat} (hi : σ[i]? = some (some x)) (h : EvDs ta σ ds) (hl : ds.length ≤ 10000) (k : ∀ p vs H1, H p = none → Same H H1 → H1 p = some (.lst vs) → DtAll H1 vs ds → (∀ v ∈ vs, ∀ a, v = .ref a → H a = none) → r x (.ref p) H1 Q) :
    tOp r (tVar i) (tLst ta) σ H Q := ⟨x, hi, lst_evds h hl k⟩
end
end VK

namespace VK
open PySem PySem.VK PySem.Spec PyProof.Rows L2
/-! ## many errors -/
def XOk (K : PySem.W.Frag) (C : Addr) : Prop := ∃ (P : Program) (B i newId : String) (bmB : List Value), XCls P K B i newId bmB C
def tXatA (K : PySem.W.Frag) (x : Str) (te : TE) : TE := fun σ H Q => te σ H fun z H1 => ∃ a C d v, z = .ref a ∧ H1 a = some (exS a C (some d)) ∧ H1 d = some (.xd [(x, v)]) ∧ XOk K C ∧ PySem.W.findIn K (.ref C) x = some none ∧ Q v H1
section
variable {X : Cx} {x : Str} {pos : Pos}
theorem pe_xatA {e : Expr} {te : TE} (he : PE X e te) (hb : attributeBase e x X.env (eval e X.env) = eval e X.env := by rfl) : PE X (.Attribute e x pos) (tXatA X.K x te) := by
  refine ⟨fun pins s σ H Q I h => ?_⟩
  refine attr_of hb (thn (he.run pins s σ H _ I h) fun u s1 hh => ?_)
  obtain ⟨z, H1, I1, rx, a, C, d, v, rfl, ea, ed, ⟨P, B, i, newId, bmB, T⟩, hno, q⟩ := hh
  obtain rfl : u = Value.ref a := rx
  obtain ⟨t, ho⟩ := exS_at I1.hok ea
  have hx : ObjOk X.prog X.w H1 s1.heap d (.xd [(x, v)]) := I1.hok d _ ed
  obtain ⟨mA, hns, hr⟩ := hx
  obtain ⟨od, hod, hl⟩ := lookIn_ns hns
  have l : List.lookup x [(x, v)] = some v := by rw [List.lookup_cons, beq_self_eq_true]
  obtain ⟨u, hu, ru⟩ := RelO.some_of (v := v) (o := mA x) (by rw [← l]; exact hr x)
  have J : PySem.W.InstAt s1.heap a (PySem.W.excObj C t (some d) .none) C (some od) := ⟨ho, rfl, rfl, hod⟩
  exact PySem.PX.exc_get I1.kIn J T.gat T.gga T.sBE (PySem.W.findObj_own T.hsd hno rfl (by rw [hl, hu])) (handed_of ru) ⟨v, H1, I1.tok _, ru, q⟩
/-- text * 0, text * 1 -/
theorem op_repS : OpR X (binaryOp .Mult) (fun x y H Q => ∃ (z : Str) (b : Bool), x = .str z ∧ y = .int (if b then 1 else 0) ∧ Q (.str (if b then z else Str.empty)) H) := by
  intro pins s σ H x y v u Q I rx ry h
  obtain ⟨z, b, rfl, rfl, q⟩ := h
  obtain ⟨t, rfl⟩ := rx
  obtain ⟨t', rfl⟩ := ry
  cases b with
  | false => exact PySem.P.mul_str_none (by decide) (by decide) ⟨.str _, H, I.tok _, ⟨_, rfl⟩, q⟩
  | true => exact PySem.P.mul_str (by decide) (fun _ h2 => absurd h2 (by simp)) (fun _ h2 => absurd h2 (by simp)) (by
      rw [if_neg (by decide), if_pos (by simp)]
      exact ⟨.str _, H, I, ⟨_, rfl⟩, q⟩)
end
/-- an error at e, of the class C, with the field x of value v, or none -/
def ErrAt (H : Hp) (v : V) (e C : Addr) : Option Str → Prop
  | some x => ∃ d, H e = some (exS e C (some d)) ∧ H d = some (.xd [(x, v)])
  | none => H e = some (exS e C none)
theorem ErrAt.same {H H' : Hp} {v : V} {e C : Addr} {x : Option Str} (s : Same H H') (h : ErrAt H v e C x) : ErrAt H' v e C x := by
  cases x with
  | some x =>
    obtain ⟨d, h1, h2⟩ := h
    exact ⟨d, s _ _ h1, s _ _ h2⟩
  | none => exact s _ _ h
abbrev Errs (H : Hp) (v : V) : List Addr → List (Addr × Option Str) → Prop := Paired fun e s => ErrAt H v e s.1 s.2
theorem Errs.same {H H' : Hp} {v : V} {es : List Addr} {sp : List (Addr × Option Str)} (s : Same H H') (h : Errs H v es sp) : Errs H' v es sp := Paired.mapP h fun _ _ q => q.same s
theorem Errs.append {H : Hp} {v : V} : ∀ {es fs : List Addr} {sp sq : List (Addr × Option Str)}, Errs H v es sp → Errs H v fs sq → Errs H v (es ++ fs) (sp ++ sq)
  | _, _, _, _, .nil, h => h
  | _, _, _, _, .cons a t, h => .cons a (Errs.append t h)
theorem Errs.len {H : Hp} {v : V} {es : List Addr} {sp : List (Addr × Option Str)} (h : Errs H v es sp) : es.length = sp.length := Paired.length h
theorem Errs.at_ {H : Hp} {v : V} : ∀ {es : List Addr} {sp : List (Addr × Option Str)} (k : Nat) {s : Addr × Option Str}, Errs H v es sp → sp[k]? = some s → ∃ e, es[k]? = some e ∧ ErrAt H v e s.1 s.2
  | _, _, k, _, .nil, e => by simp at e
  | _, _, 0, _, .cons a _, e => by
    simp only [List.getElem?_cons_zero, Option.some.injEq] at e
    subst e
    exact ⟨_, rfl, a⟩
  | _, _, k + 1, _, .cons _ t, e => by
    obtain ⟨e', h1, h2⟩ := Errs.at_ k t (by simpa using e)
    exact ⟨e', by simpa using h1, h2⟩
theorem new_same {H : Hp} {p : Addr} {o : HO} (h : H p = none) : Same H (upd H p o) := fun b u z => by rw [upd_ne (ne_of_none z h)]; exact z
def EvXs (ta : TA) (σ : L2.St) (v : V) (sp : List (Addr × Option Str)) : Prop := ∀ H Q, (∀ es H1, Same H H1 → Errs H1 v es sp → Q (es.map V.ref) H1) → ta σ H Q
section
variable {σ : L2.St} {ta : TA} {v : V} {sp : List (Addr × Option Str)} {C : Addr} {x : Str} {i : Nat}
theorem xs_nil : EvXs tNil σ v [] := fun H _ k => k [] H (Same.refl H) .nil
theorem xs_mk1 (hv : σ[i]? = some (some v)) (h : EvXs ta σ v sp) : EvXs (tCons (tMk1 C x (tVar i)) ta) σ v ((C, some x) :: sp) := fun H Q k => ⟨v, hv, fun a d ha hd hne => by
  have s1 : Same H (upd (upd H d (.xd [(x, v)])) a (exS a C (some d))) := fun b o e => by rw [upd_ne (ne_of_none e ha), upd_ne (ne_of_none e hd)]; exact e
  refine h _ _ fun es H1 s2 r => k (a :: es) H1 (s1.trans s2) (.cons ⟨d, s2 _ _ upd_same, s2 _ _ ?_⟩ r)
  rw [upd_ne hne]
  exact upd_same⟩
theorem xs_mk0 (h : EvXs ta σ v sp) : EvXs (tCons (tMk0 C) ta) σ v ((C, none) :: sp) := fun H Q k a ha =>
  h _ _ fun es H1 s2 r => k (a :: es) H1 ((new_same ha).trans s2) (.cons (s2 _ _ upd_same) r)
theorem lst_xs {H : Hp} {Q : VK} (h : EvXs ta σ v sp) (hl : sp.length ≤ 10000) (k : ∀ p es H1, Same H H1 → H1 p = some (.lst (es.map V.ref)) → Errs H1 v es sp → Q (.ref p) H1) : tLst ta σ H Q :=
  h H _ fun es H1 s1 r => ⟨by rw [List.length_map, r.len]; exact Nat.le_trans hl (by decide), fun p hp => k p es _ (s1.trans (fun b o e => by rw [upd_ne (ne_of_none e hp)]; exact e)) upd_same (r.same fun b o e => by rw [upd_ne (ne_of_none e hp)]; exact e)⟩
theorem st_xs {u : TS} {D : Ends} {H : Hp} (h : EvXs ta σ v sp) (hl : sp.length ≤ 10000) (k : ∀ p es H1, Same H H1 → H1 p = some (.lst (es.map V.ref)) → Errs H1 v es sp → u D (σ.set i (some (.ref p))) H1) : tSeq (tAsg (tLst ta) (gName i)) u D σ H := by
  show tLst ta σ H (fun x H1 => u D (σ.set i (some x)) H1)
  exact lst_xs h hl k
theorem cat_xs {H : Hp} {Q : VK} {L : Addr} {es : List Addr} {sq : List (Addr × Option Str)} (hi : σ[i]? = some (some (.ref L))) (hL : H L = some (.lst (es.map V.ref))) (hE : Errs H v es sp) (hs : sp.length ≤ 10000) (h : EvXs ta σ v sq) (hl : sq.length ≤ 10000)
    (k : ∀ p fs H1, Same H H1 → H1 p = some (.lst (fs.map V.ref)) → Errs H1 v fs (sp ++ sq) → Q (.ref p) H1) : tOp rCat (tVar i) (tLst ta) σ H Q := ⟨_, hi, lst_xs h hl fun p fs H1 s1 hp r => by
  refine ⟨L, p, _, _, rfl, rfl, s1 _ _ hL, hp, ?_, fun q hq => ?_⟩
  · rw [List.length_map, List.length_map, hE.len, r.len]
    exact Nat.le_trans (Nat.add_le_add hs hl) (by decide)
  · have s2 : Same H1 (upd H1 q (.lst (es.map V.ref ++ fs.map V.ref))) := fun b o e => by rw [upd_ne (ne_of_none e hq)]; exact e
    refine k q (es ++ fs) _ (s1.trans s2) ?_ (Errs.append (hE.same (s1.trans s2)) (r.same s2))
    rw [List.map_append]
    exact upd_same⟩
theorem st_catxs {u : TS} {D : Ends} {H : Hp} {j : Nat} {L : Addr} {es : List Addr} {sq : List (Addr × Option Str)} (hi : σ[i]? = some (some (.ref L))) (hL : H L = some (.lst (es.map V.ref))) (hE : Errs H v es sp) (hs : sp.length ≤ 10000) (h : EvXs ta σ v sq) (hl : sq.length ≤ 10000)
    (k : ∀ p fs H1, Same H H1 → H1 p = some (.lst (fs.map V.ref)) → Errs H1 v fs (sp ++ sq) → u D (σ.set j (some (.ref p))) H1) : tSeq (tAsg (tOp rCat (tVar i) (tLst ta)) (gName j)) u D σ H := by
  show tOp rCat (tVar i) (tLst ta) σ H (fun x H1 => u D (σ.set j (some x)) H1)
  exact cat_xs hi hL hE hs h hl k
end
end VK

namespace VK
open PySem PySem.VK PySem.Spec PyProof.Rows L2
/-! ## own error classes in bundles -/
structure XBd where
  B : String
  i : String
  nw : String
  bm : List Value
def fldNames : List Str := ["value", "line", "index", "number", "limit"]
structure XB (b : XBd) : Prop where
  KF : PySem.W.KxsFacts b.B b.i
  FB : ExcBaseFacts b.B b.nw b.i b.bm
  SF : StoreFacts b.B b.bm "object.__setattr__" "object"
  tl : PySem.W.excTail b.bm b.bm = true
  ai : ∀ K, PySem.W.alongIn K "__init__" b.bm = some (some (.builtin b.i))
  as : ∀ K, PySem.W.alongIn K "__setattr__" b.bm = some (some (.builtin "object.__setattr__"))
  ag : ∀ K, PySem.W.alongIn K "__getattribute__" b.bm = some (some (.builtin "BaseException.__getattribute__"))
  aa : ∀ K, PySem.W.alongIn K "__getattr__" b.bm = some none
  ac : ∀ K, PySem.W.alongIn K "__class__" b.bm = some (some (.builtin "object.__class__"))
  af : ∀ K x, x ∈ fldNames → PySem.W.alongIn K x b.bm = some none
  hE : b.bm.contains (.type "BaseException") = true
  hB : b.bm.contains (.type b.B) = true
  hO : b.bm.contains (.type "object") = true
  hr : ∀ a, b.bm.contains (.ref a) = false
def xValueError : XBd := ⟨"ValueError", "ValueError.__init__", "ValueError.__new__", [.type "ValueError", .type "Exception", .type "BaseException", .type "object"]⟩
theorem xb_ValueError : XB xValueError where
  KF := PySem.W.kxs_ValueError
  FB := PySem.F.excBase_ValueError
  SF := PySem.F.store_ValueError
  tl := by decide +kernel
  ai := fun K => by kernel_rfl
  as := fun K => by kernel_rfl
  ag := fun K => by kernel_rfl
  aa := fun K => by kernel_rfl
  ac := fun K => by kernel_rfl
  af := fun K x h => by
    simp only [fldNames, List.mem_cons, List.not_mem_nil, or_false] at h
    rcases h with rfl | rfl | rfl | rfl | rfl <;> kernel_rfl
  hE := by decide +kernel
  hB := by decide +kernel
  hO := by decide +kernel
  hr := fun a => rfl
def xLookupError : XBd := ⟨"LookupError", "LookupError.__init__", "LookupError.__new__", [.type "LookupError", .type "Exception", .type "BaseException", .type "object"]⟩
theorem xb_LookupError : XB xLookupError where
  KF := PySem.W.kxs_LookupError
  FB := PySem.F.excBase_LookupError
  SF := PySem.F.store_LookupError
  tl := by decide +kernel
  ai := fun K => by kernel_rfl
  as := fun K => by kernel_rfl
  ag := fun K => by kernel_rfl
  aa := fun K => by kernel_rfl
  ac := fun K => by kernel_rfl
  af := fun K x h => by
    simp only [fldNames, List.mem_cons, List.not_mem_nil, or_false] at h
    rcases h with rfl | rfl | rfl | rfl | rfl <;> kernel_rfl
  hE := by decide +kernel
  hB := by decide +kernel
  hO := by decide +kernel
  hr := fun a => rfl
def xIndexError : XBd := ⟨"IndexError", "IndexError.__init__", "IndexError.__new__", [.type "IndexError", .type "LookupError", .type "Exception", .type "BaseException", .type "object"]⟩
theorem xb_IndexError : XB xIndexError where
  KF := PySem.W.kxs_IndexError
  FB := PySem.F.excBase_IndexError
  SF := PySem.F.store_IndexError
  tl := by decide +kernel
  ai := fun K => by kernel_rfl
  as := fun K => by kernel_rfl
  ag := fun K => by kernel_rfl
  aa := fun K => by kernel_rfl
  ac := fun K => by kernel_rfl
  af := fun K x h => by
    simp only [fldNames, List.mem_cons, List.not_mem_nil, or_false] at h
    rcases h with rfl | rfl | rfl | rfl | rfl <;> kernel_rfl
  hE := by decide +kernel
  hB := by decide +kernel
  hO := by decide +kernel
  hr := fun a => rfl
def xOverflowError : XBd := ⟨"OverflowError", "OverflowError.__init__", "OverflowError.__new__", [.type "OverflowError", .type "ArithmeticError", .type "Exception", .type "BaseException", .type "object"]⟩
theorem xb_OverflowError : XB xOverflowError where
  KF := PySem.W.kxs_OverflowError
  FB := PySem.F.excBase_OverflowError
  SF := PySem.F.store_OverflowError
  tl := by decide +kernel
  ai := fun K => by kernel_rfl
  as := fun K => by kernel_rfl
  ag := fun K => by kernel_rfl
  aa := fun K => by kernel_rfl
  ac := fun K => by kernel_rfl
  af := fun K x h => by
    simp only [fldNames, List.mem_cons, List.not_mem_nil, or_false] at h
    rcases h with rfl | rfl | rfl | rfl | rfl <;> kernel_rfl
  hE := by decide +kernel
  hB := by decide +kernel
  hO := by decide +kernel
  hr := fun a => rfl
def xRuntimeError : XBd := ⟨"RuntimeError", "RuntimeError.__init__", "RuntimeError.__new__", [.type "RuntimeError", .type "Exception", .type "BaseException", .type "object"]⟩
theorem xb_RuntimeError : XB xRuntimeError where
  KF := PySem.W.kxs_RuntimeError
  FB := PySem.F.excBase_RuntimeError
  SF := PySem.F.store_RuntimeError
  tl := by decide +kernel
  ai := fun K => by kernel_rfl
  as := fun K => by kernel_rfl
  ag := fun K => by kernel_rfl
  aa := fun K => by kernel_rfl
  ac := fun K => by kernel_rfl
  af := fun K x h => by
    simp only [fldNames, List.mem_cons, List.not_mem_nil, or_false] at h
    rcases h with rfl | rfl | rfl | rfl | rfl <;> kernel_rfl
  hE := by decide +kernel
  hB := by decide +kernel
  hO := by decide +kernel
  hr := fun a => rfl

/-- what an __init__ of one field is, of none -/
def IniOk (P : Program) (K : PySem.W.Frag) (C : Addr) : Option Str → Prop
  | some x => ∃ (fI : Addr) (qual msg : Str) (p1 p2 a1 a2 a3 a4 a5 a6 b1 b2 b3 b4 : Pos), XIni P K C fI qual (iA x p1 p2) (iB msg x a1 a2 a3 a4 a5 a6 b1 b2 b3 b4) (iS x) ∧ (a3.endLine == a5.line) = true ∧ x ∈ fldNames ∧
      PySem.W.findIn K (.ref C) x = some none
  | none => ∃ (fI : Addr) (qual msg : Str) (p1 a1 a2 a3 a4 a5 a6 : Pos), XIni P K C fI qual (iA0 p1) (iB0 msg a1 a2 a3 a4 a5 a6) iS0 ∧ (a3.endLine == a5.line) = true
structure EC (P : Program) (K : PySem.W.Frag) (mg : Str → Option Value) (cn : Str) (C : Addr) (b : XBd) (fl : Option Str) : Prop where
  xb : XB b
  T : XCls P K b.B b.i b.nw b.bm C
  g : mg cn = some (.ref C)
  cd : ∃ cd, PySem.W.clsIn K C = some cd ∧ cd.name = cn ∧ cd.mro = .ref C :: b.bm
  ini : IniOk P K C fl
/-- from what the top has written -/
theorem ec_cls {P : Program} {K : PySem.W.Frag} {C : Addr} {b : XBd} {cd : ClassData} {dd : Option Addr} {sl : Array (Option Value)} {k0 k1 k2 k3 k5 : Option Value} (xb : XB b)
    (lk : K.lookup C = some ⟨.type "type", dd, .cls cd, sl⟩) (hm : cd.mro = .ref C :: b.bm) (hs : sl.toList = [k0, k1, k2, k3, some (.builtin b.nw), k5]) (hd : cd.hasDel = false) (hh : cd.hasDict = true)
    (n1 : PySem.W.nsIn K cd.ns "__setattr__" = some none) (n2 : PySem.W.nsIn K cd.ns "__getattribute__" = some none) (n3 : PySem.W.nsIn K cd.ns "__getattr__" = some none) (n4 : PySem.W.nsIn K cd.ns "__class__" = some none)
    (kp : PySem.W.keepIn K (.ref C) = true) (thr : PySem.W.nsIn K cStatics "thirdparty.any" = some none) (spG : PySem.W.specialIn K (.builtin "object.__class__") "__get__" = some (some (.builtin "getset_descriptor.__get__"))) (spT : PySem.W.takesIn K (.builtin "object.__class__") = some true) :
    XCls P K b.B b.i b.nw b.bm C := by
  have hc : PySem.W.clsIn K C = some cd := by unfold PySem.W.clsIn; rw [lk]
  have own : ∀ n, PySem.W.nsIn K cd.ns n = some none → PySem.W.findIn K (.ref C) n = PySem.W.alongIn K n b.bm := fun n hn => by
    unfold PySem.W.findIn
    simp only [lk, hm]
    rw [PySem.W.alongIn]
    unfold PySem.W.ownIn
    simp only [lk, hn]
  have mro : ∀ v, PySem.W.mroIn K C v = some ((Value.ref C :: b.bm).contains v) := fun v => by
    unfold PySem.W.mroIn
    rw [hc, Option.bind_some, hm]
    rfl
  exact {
    ini := by
      unfold PySem.W.excInitIn
      simp only [lk, hm, hs, hd, xb.tl, beq_self_eq_true, Bool.not_false, Bool.and_self]
    ovr := by
      unfold PySem.W.excOver
      simp only [hc, Option.any_some, hm, xb.tl, beq_self_eq_true, Bool.and_self]
    hsd := by
      unfold PySem.W.hasDictIn
      rw [hc, Option.any_some, hh]
    sat := (own _ n1).trans (xb.as K)
    gat := (own _ n2).trans (xb.ag K)
    gga := (own _ n3).trans (xb.aa K)
    cla := (own _ n4).trans (xb.ac K)
    sBE := (mro _).trans (by rw [List.contains_cons, xb.hE, Bool.or_true])
    sBB := (mro _).trans (by rw [List.contains_cons, xb.hB, Bool.or_true])
    tyC := by
      show (K.lookup C).map (·.cls) = _
      rw [lk]
      rfl
    mOb := (mro _).trans (by rw [List.contains_cons, xb.hO, Bool.or_true])
    mC := (mro _).trans (by rw [List.contains_cons, beq_self_eq_true, Bool.true_or])
    kpC := kp
    thr := thr
    sup := by
      unfold PySem.W.ks_superIn
      rw [hc, Option.bind_some, hm, List.dropWhile_cons]
      simp only [bne_self_eq_false, Bool.false_eq_true, if_false, List.drop_succ_cons, List.drop_zero]
      exact xb.ai K
    spG := spG
    spT := spT }
theorem ec_get {K : PySem.W.Frag} {C : Addr} {b : XBd} {cd : ClassData} {dd : Option Addr} {sl : Array (Option Value)} {x : Str} (xb : XB b)
    (lk : K.lookup C = some ⟨.type "type", dd, .cls cd, sl⟩) (hm : cd.mro = .ref C :: b.bm) (hx : x ∈ fldNames) (n : PySem.W.nsIn K cd.ns x = some none) : PySem.W.findIn K (.ref C) x = some none := by
  unfold PySem.W.findIn
  simp only [lk, hm]
  rw [PySem.W.alongIn]
  unfold PySem.W.ownIn
  simp only [lk, n]
  exact xb.af K x hx
section
variable {P : Program} {K : PySem.W.Frag} {mg : Str → Option Value} {cn cn' : Str} {C C' : Addr} {b b' : XBd} {fl fl' : Option Str}
theorem EC.mro (E : EC P K mg cn C b fl) (v : Value) : PySem.W.subIn K (.ref C) v = some ((Value.ref C :: b.bm).contains v) := by
  obtain ⟨cd, hc, _, hm⟩ := E.cd
  show PySem.W.mroIn K C v = _
  unfold PySem.W.mroIn
  rw [hc, Option.bind_some, hm]
  rfl
theorem EC.kit (E : EC P K mg cn C b fl) (E' : EC P K mg cn' C' b' fl') : PySem.W.kitOne K (.ref C) (.ref C') = some (decide (cn = cn')) := by
  obtain ⟨cd, hc, hn, hm⟩ := E.cd
  obtain ⟨cd', hc', hn', hm'⟩ := E'.cd
  have iff : C = C' ↔ cn = cn' := ⟨fun e => by
    subst e
    rw [hc] at hc'
    cases hc'
    rw [← hn, ← hn'], fun e => by
    subst e
    have q := E.g.symm.trans E'.g
    cases q
    rfl⟩
  unfold PySem.W.kitOne
  by_cases h : C = C'
  · rw [if_pos (by rw [h]; exact beq_self_eq_true _), decide_eq_true (iff.mp h)]
  · have hv : (Value.ref C == Value.ref C') = false := by
      rw [beq_eq_false_iff_ne]
      intro z
      cases z
      exact h rfl
    have hv' : (Value.ref C' == Value.ref C) = false := by
      rw [beq_eq_false_iff_ne]
      intro z
      cases z
      exact h rfl
    rw [if_neg (by rw [hv]; decide)]
    unfold PySem.W.kitCls
    have ty := E'.T.tyC
    simp only [hc', ty, Option.isSome_some, beq_self_eq_true, Bool.and_self, if_true]
    rw [E.mro, List.contains_cons, hv', E.xb.hr, Bool.or_self, decide_eq_false (fun e => h (iff.mpr e))]
theorem EC.kitT (E : EC P K mg cn C b fl) {T : String} (m : PySem.W.kitMeta T = true) : PySem.W.kitOne K (.ref C) (.type T) = some (b.bm.contains (.type T)) := by
  unfold PySem.W.kitOne
  have hv : (Value.ref C == Value.type T) = false := by
    rw [beq_eq_false_iff_ne]
    intro z
    cases z
  have hv' : (Value.type T == Value.ref C) = false := by
    rw [beq_eq_false_iff_ne]
    intro z
    cases z
  rw [if_neg (by rw [hv]; decide)]
  unfold PySem.W.kitCls
  simp only [m, if_true]
  rw [E.mro, List.contains_cons, hv', Bool.false_or]
theorem EC.xok (E : EC P K mg cn C b fl) : XOk K C := ⟨_, _, _, _, _, E.T⟩
theorem EC.get {x : Str} (E : EC P K mg cn C b (some x)) : PySem.W.findIn K (.ref C) x = some none := by
  obtain ⟨_, _, _, _, _, _, _, _, _, _, _, _, _, _, _, _, _, _, q⟩ := E.ini
  exact q
end
theorem fldNames_ok {x : Str} (h : x ∈ fldNames) : (x == ("self" : Str)) = false ∧ (("__class__" : Str) == x) = false ∧ (("super" : Str) == x) = false ∧ (x == ("__debug__" : Str)) = false := by
  simp only [fldNames, List.mem_cons, List.not_mem_nil, or_false] at h
  rcases h with rfl | rfl | rfl | rfl | rfl <;> decide
theorem taker_no {K : PySem.W.Frag} {C : Addr} {x : Str} (h : PySem.W.findIn K (.ref C) x = some none) : PySem.W.takerIn K C x = some none := by
  unfold PySem.W.takerIn
  rw [h]
  rfl
/-- what a body needs to make one -/
structure MkR (X : Cx) : Prop where
  su : X.mg "super" = none
  ns : (X.prog.main.scope.names.lookup ("super" : Str)).isSome = false
  dp : X.A.depth + 1 < recursionLimit
section
variable {X : Cx} {cn x y : Str} {C : Addr} {b : XBd} {p q pos kp : Pos} {ty : TE}
theorem EC.mk1 (E : EC X.prog X.K X.mg cn C b (some x)) (R : MkR X) (hg : Gl X cn) (he : PE X (.Name y q) ty) (hdb : (cn == ("__debug__" : Str)) = false := by decide) : PE X (.Call (.Name cn p) [.Name y q] [] pos) (tMk1 C x ty) := by
  obtain ⟨fI, qual, msg, p1, p2, a1, a2, a3, a4, a5, a6, b1, b2, b3, b4, TI, hp, hx, hf⟩ := E.ini
  obtain ⟨x1, x2, x3, x4⟩ := fldNames_ok hx
  refine pe_mk1 E.xb.KF E.xb.FB E.xb.SF E.T TI (taker_no hf) E.g R.su R.ns R.dp hg he ?_ hp x1 x2 x3 x4 (by rfl) hdb
  intro u1 u2 kV doc pm an cda cc ct
  simp only [fldNames, List.mem_cons, List.not_mem_nil, or_false] at hx
  rcases hx with rfl | rfl | rfl | rfl | rfl <;> rfl
theorem EC.mk1K (E : EC X.prog X.K X.mg cn C b (some x)) (R : MkR X) (hg : Gl X cn) (he : PE X (.Name y q) ty) (hdb : (cn == ("__debug__" : Str)) = false := by decide) : PE X (.Call (.Name cn p) [] [⟨some x, .Name y q, kp⟩] pos) (tMk1 C x ty) := by
  obtain ⟨fI, qual, msg, p1, p2, a1, a2, a3, a4, a5, a6, b1, b2, b3, b4, TI, hp, hx, hf⟩ := E.ini
  obtain ⟨x1, x2, x3, x4⟩ := fldNames_ok hx
  refine pe_mk1K E.xb.KF E.xb.FB E.xb.SF E.T TI (taker_no hf) E.g R.su R.ns R.dp hg he ?_ hp x1 x2 x3 x4 (by rfl) (by rfl) (by rfl) hdb
  intro u1 u2 kV doc pm an cda cc ct
  simp only [fldNames, List.mem_cons, List.not_mem_nil, or_false] at hx
  rcases hx with rfl | rfl | rfl | rfl | rfl <;> rfl
theorem EC.mk0 (E : EC X.prog X.K X.mg cn C b none) (R : MkR X) (hg : Gl X cn) (hdb : (cn == ("__debug__" : Str)) = false := by decide) : PE X (.Call (.Name cn p) [] [] pos) (tMk0 C) := by
  obtain ⟨fI, qual, msg, p1, a1, a2, a3, a4, a5, a6, TI, hp⟩ := E.ini
  exact pe_mk0 E.xb.KF E.xb.FB E.T TI E.g R.su R.ns R.dp hg hp hdb
end
/-! ## a bundle from what the top has written: each premise is a fact that k_is finds -/
theorem ec1_mk {P : Program} {K : PySem.W.Frag} {mg : Str → Option Value} {h : Heap} (X : K.In h) (G : h.Ns mainGlobals mg) {cn x : Str} {b : XBd} (xb : XB b) {C fI cda cc : Addr} {cd : ClassData} {dd od cdd cld an : Option Addr} {sl osl ccs csl : Array (Option Value)}
    {k0 k1 k2 k3 k5 : Option Value} {oc kV doc pm ct ccl cl : Value} {qual msg : Str} {p1 p2 a1 a2 a3 a4 a5 a6 b1 b2 b3 b4 : Pos} {vs : Array Value} {file : Str} {tf : Tok}
    (aC : PySem.W.nsIn K mainGlobals cn = some (some (.ref C)))
    (lk : K.lookup C = some ⟨.type "type", dd, .cls cd, sl⟩) (hm : cd.mro = .ref C :: b.bm) (hs : sl.toList = [k0, k1, k2, k3, some (.builtin b.nw), k5]) (hd : cd.hasDel = false) (hh : cd.hasDict = true) (hn : cd.name = cn)
    (n1 : PySem.W.nsIn K cd.ns "__setattr__" = some none) (n2 : PySem.W.nsIn K cd.ns "__getattribute__" = some none) (n3 : PySem.W.nsIn K cd.ns "__getattr__" = some none) (n4 : PySem.W.nsIn K cd.ns "__class__" = some none)
    (kp : PySem.W.keepIn K (.ref C) = true) (thr : PySem.W.nsIn K cStatics "thirdparty.any" = some none) (spG : PySem.W.specialIn K (.builtin "object.__class__") "__get__" = some (some (.builtin "getset_descriptor.__get__"))) (spT : PySem.W.takesIn K (.builtin "object.__class__") = some true)
    (hx : x ∈ fldNames) (n5 : PySem.W.nsIn K cd.ns x = some none)
    (at_ : PySem.W.findIn K (.ref C) "__init__" = some (some (.ref fI))) (fn : PySem.W.isFn K (.ref fI) = true)
    (lf : K.lookup fI = some ⟨oc, od, .func (PySem.W.ksFn "__init__" qual (iA x p1 p2) (iB msg x a1 a2 a3 a4 a5 a6 b1 b2 b3 b4) (iS x) .none kV doc pm an (.ref cda) ct cc), osl⟩)
    (ci : PySem.W.codeIn K (.ref cda) qual = true) (lc : K.lookup cda = some ⟨ccl, cdd, .fields vs, ccs⟩) (hv : vs[2]? = some (.str file tf)) (hf : ((P.main.file : Str) == file) = true)
    (ll : K.lookup cc = some ⟨cl, cld, .cell (some (.ref C)), csl⟩) (hp : (a3.endLine == a5.line) = true) : EC P K mg cn C b (some x) where
  xb := xb
  T := ec_cls xb lk hm hs hd hh n1 n2 n3 n4 kp thr spG spT
  g := PySem.W.mg_of X G aC
  cd := ⟨cd, by unfold PySem.W.clsIn; rw [lk], hn, hm⟩
  ini := ⟨fI, qual, msg, p1, p2, a1, a2, a3, a4, a5, a6, b1, b2, b3, b4, ⟨at_, fn, oc, od, kV, doc, pm, an, cda, cc, ct, osl, lf, ci, ⟨ccl, cdd, vs, ccs, file, tf, lc, hv, hf⟩, cl, cld, csl, ll⟩, hp, hx, ec_get xb lk hm hx n5⟩
theorem ec0_mk {P : Program} {K : PySem.W.Frag} {mg : Str → Option Value} {h : Heap} (X : K.In h) (G : h.Ns mainGlobals mg) {cn : Str} {b : XBd} (xb : XB b) {C fI cda cc : Addr} {cd : ClassData} {dd od cdd cld an : Option Addr} {sl osl ccs csl : Array (Option Value)}
    {k0 k1 k2 k3 k5 : Option Value} {oc kV doc pm ct ccl cl : Value} {qual msg : Str} {p1 a1 a2 a3 a4 a5 a6 : Pos} {vs : Array Value} {file : Str} {tf : Tok}
    (aC : PySem.W.nsIn K mainGlobals cn = some (some (.ref C)))
    (lk : K.lookup C = some ⟨.type "type", dd, .cls cd, sl⟩) (hm : cd.mro = .ref C :: b.bm) (hs : sl.toList = [k0, k1, k2, k3, some (.builtin b.nw), k5]) (hd : cd.hasDel = false) (hh : cd.hasDict = true) (hn : cd.name = cn)
    (n1 : PySem.W.nsIn K cd.ns "__setattr__" = some none) (n2 : PySem.W.nsIn K cd.ns "__getattribute__" = some none) (n3 : PySem.W.nsIn K cd.ns "__getattr__" = some none) (n4 : PySem.W.nsIn K cd.ns "__class__" = some none)
    (kp : PySem.W.keepIn K (.ref C) = true) (thr : PySem.W.nsIn K cStatics "thirdparty.any" = some none) (spG : PySem.W.specialIn K (.builtin "object.__class__") "__get__" = some (some (.builtin "getset_descriptor.__get__"))) (spT : PySem.W.takesIn K (.builtin "object.__class__") = some true)
    (at_ : PySem.W.findIn K (.ref C) "__init__" = some (some (.ref fI))) (fn : PySem.W.isFn K (.ref fI) = true)
    (lf : K.lookup fI = some ⟨oc, od, .func (PySem.W.ksFn "__init__" qual (iA0 p1) (iB0 msg a1 a2 a3 a4 a5 a6) iS0 .none kV doc pm an (.ref cda) ct cc), osl⟩)
    (ci : PySem.W.codeIn K (.ref cda) qual = true) (lc : K.lookup cda = some ⟨ccl, cdd, .fields vs, ccs⟩) (hv : vs[2]? = some (.str file tf)) (hf : ((P.main.file : Str) == file) = true)
    (ll : K.lookup cc = some ⟨cl, cld, .cell (some (.ref C)), csl⟩) (hp : (a3.endLine == a5.line) = true) : EC P K mg cn C b none where
  xb := xb
  T := ec_cls xb lk hm hs hd hh n1 n2 n3 n4 kp thr spG spT
  g := PySem.W.mg_of X G aC
  cd := ⟨cd, by unfold PySem.W.clsIn; rw [lk], hn, hm⟩
  ini := ⟨fI, qual, msg, p1, a1, a2, a3, a4, a5, a6, ⟨at_, fn, oc, od, kV, doc, pm, an, cda, cc, ct, osl, lf, ci, ⟨ccl, cdd, vs, ccs, file, tf, lc, hv, hf⟩, cl, cld, csl, ll⟩, hp⟩
end VK

namespace VK
open PySem PySem.VK PySem.Spec PyProof.Rows L2
/-! ## comprehensions by a function of the place -/
theorem range_snoc (f : Nat → V) (n : Nat) : (List.range (n + 1)).map f = (List.range n).map f ++ [f n] := by
  rw [List.range_succ, List.map_append]
  rfl
section
variable {K : PySem.W.Frag} {a D : Addr} {xs : List V} {te : TE} {σ : L2.St} {H1 : Hp} {Qd : Hp → Prop} {j : Nat}
theorem lc_map (f : Nat → V) (hD : H1 D = none) (hx : SqL K H1 a xs) (hl : xs.length ≤ 10000) (hw : ∀ x, wipe ((wipe σ [j]).set j (some x)) [j] = wipe σ [j])
    (hs : ∀ i x H, xs[i]? = some x → Same H1 H → ∀ Q : VK, (∀ H', Same H H' → Q (f i) H') → te ((wipe σ [j]).set j (some x)) H Q)
    (hd : ∀ H, Same H1 H → H D = some (.lst ((List.range xs.length).map f)) → Qd H) :
    ∃ W : Nat → Nat → Hp → Prop, (∃ m, W 0 m (upd H1 D (.lst []))) ∧ ∀ i m H, W i m H →
      ((Itl K a).stop i H ∧ Qd H) ∨ ((Itl K a).go i H ∧ ∃ Nx : Hp → Prop, (∀ H', Nx H' → ∃ m', m' < m ∧ W (i + 1) m' H') ∧ ∀ x H', (Itl K a).yld i H x H' → gName j x (wipe σ [j]) H' fun σ2 H2 => wipe σ2 [j] = wipe σ [j] ∧ tYes σ2 H2 fun b H3 =>
        if b = true then te σ2 H3 fun y H4 => ∃ acc, H4 D = some (.lst acc) ∧ acc.length < sizeLine ∧ Nx (upd H4 D (.lst (acc ++ [y]))) else Nx H3) := by
  refine lc_list (K := K) (a := a) (xs := xs) (fun i H => Same H1 H ∧ H D = some (.lst ((List.range i).map f))) ⟨new_same hD, upd_same⟩ (fun i H _ p => p.1.seq hx) ?_ (fun H p => hd H p.1 p.2)
  intro i x H hi p
  refine ⟨hw x, ?_⟩
  dsimp only [tYes]
  rw [if_pos rfl]
  refine hs i x H hi p.1 _ fun H' s => ⟨_, s _ _ p.2, ?_, ?_, ?_⟩
  · rw [List.length_map, List.length_range]
    have := (List.getElem?_eq_some_iff.mp hi).1
    exact Nat.lt_of_lt_of_le this (Nat.le_trans hl (by decide))
  · intro b o e
    have hb : b ≠ D := fun z => by
      subst z
      rw [hD] at e
      cases e
    rw [upd_ne hb]
    exact s _ _ (p.1 _ _ e)
  · rw [upd_same, range_snoc]
theorem lc_mapR {n : Nat} (f : Nat → V) (hD : H1 D = none) (hl : n ≤ 10000) (hw : ∀ x, wipe ((wipe σ [j]).set j (some x)) [j] = wipe σ [j])
    (hs : ∀ i H, i < n → Same H1 H → ∀ Q : VK, (∀ H', Same H H' → Q (f i) H') → te ((wipe σ [j]).set j (some (.int (0 + (i : Int))))) H Q)
    (hd : ∀ H, Same H1 H → H D = some (.lst ((List.range n).map f)) → Qd H) :
    ∃ W : Nat → Nat → Hp → Prop, (∃ m, W 0 m (upd H1 D (.lst []))) ∧ ∀ i m H, W i m H →
      ((Itr 0 n).stop i H ∧ Qd H) ∨ ((Itr 0 n).go i H ∧ ∃ Nx : Hp → Prop, (∀ H', Nx H' → ∃ m', m' < m ∧ W (i + 1) m' H') ∧ ∀ x H', (Itr 0 n).yld i H x H' → gName j x (wipe σ [j]) H' fun σ2 H2 => wipe σ2 [j] = wipe σ [j] ∧ tYes σ2 H2 fun b H3 =>
        if b = true then te σ2 H3 fun y H4 => ∃ acc, H4 D = some (.lst acc) ∧ acc.length < sizeLine ∧ Nx (upd H4 D (.lst (acc ++ [y]))) else Nx H3) := by
  refine lc_range (lo := 0) (n := n) (fun i H => Same H1 H ∧ H D = some (.lst ((List.range i).map f))) ⟨new_same hD, upd_same⟩ ?_ (fun H p => hd H p.1 p.2)
  intro i H hi p
  refine ⟨hw _, ?_⟩
  dsimp only [tYes]
  rw [if_pos rfl]
  refine hs i H hi p.1 _ fun H' s => ⟨_, s _ _ p.2, ?_, ?_, ?_⟩
  · rw [List.length_map, List.length_range]
    exact Nat.lt_of_lt_of_le hi (Nat.le_trans hl (by decide))
  · intro b o e
    have hb : b ≠ D := fun z => by
      subst z
      rw [hD] at e
      cases e
    rw [upd_ne hb]
    exact s _ _ (p.1 _ _ e)
  · rw [upd_same, range_snoc]
end
theorem pc_inv {α β : Type} {R : α → β → Prop} {es : List α} {s : β} {sp : List β} (h : Paired R es (s :: sp)) : ∃ e es', es = e :: es' ∧ R e s ∧ Paired R es' sp := by
  cases h with
  | cons a t => exact ⟨_, _, rfl, a, t⟩
theorem pn_inv {α β : Type} {R : α → β → Prop} {es : List α} (h : Paired R es ([] : List β)) : es = [] := by
  cases h
  rfl
/-! ## values that are made without a change -/
def EvP1 (te : TE) (σ : L2.St) (H0 : Hp) (v : V) : Prop := ∀ H Q, Same H0 H → Q v H → te σ H Q
def EvP (ta : TA) (σ : L2.St) (H0 : Hp) (vs : List V) : Prop := ∀ H Q, Same H0 H → Q vs H → ta σ H Q
section
variable {K : PySem.W.Frag} {σ : L2.St} {H0 H : Hp} {te : TE} {ta : TA} {v : V} {vs ws : List V} {i j : Nat} {Q : VK} {u : TS} {D : Ends} {L : Addr}
theorem pv_nil : EvP tNil σ H0 [] := fun _ _ _ q => q
theorem pv_cons (h : EvP1 te σ H0 v) (t : EvP ta σ H0 vs) : EvP (tCons te ta) σ H0 (v :: vs) := fun H Q s q => h H _ s (t H _ s q)
theorem lst_ps (h : EvP ta σ H0 vs) (s : Same H0 H) (hl : vs.length ≤ 10000) (k : ∀ p H1, Same H H1 → H1 p = some (.lst vs) → Q (.ref p) H1) : tLst ta σ H Q :=
  h H _ s ⟨Nat.le_trans hl (by decide), fun p hp => k p _ (new_same hp) upd_same⟩
theorem st_ps (h : EvP ta σ H0 vs) (s : Same H0 H) (hl : vs.length ≤ 10000) (k : ∀ p H1, Same H H1 → H1 p = some (.lst vs) → u D (σ.set i (some (.ref p))) H1) : tSeq (tAsg (tLst ta) (gName i)) u D σ H := by
  show tLst ta σ H (fun x H1 => u D (σ.set i (some x)) H1)
  exact lst_ps h s hl k
theorem cat_ps (hi : σ[i]? = some (some (.ref L))) (hL : H L = some (.lst ws)) (hws : ws.length ≤ 10000) (h : EvP ta σ H0 vs) (s : Same H0 H) (hl : vs.length ≤ 10000) (k : ∀ p H1, Same H H1 → H1 p = some (.lst (ws ++ vs)) → Q (.ref p) H1) :
    tOp rCat (tVar i) (tLst ta) σ H Q := ⟨_, hi, lst_ps h s hl fun p H1 s1 hp => by
  refine ⟨L, p, _, _, rfl, rfl, s1 _ _ hL, hp, ?_, fun q hq => ?_⟩
  · exact Nat.le_trans (Nat.add_le_add hws hl) (by decide)
  · exact k q _ (s1.trans (new_same hq)) upd_same⟩
theorem st_catps (hi : σ[i]? = some (some (.ref L))) (hL : H L = some (.lst ws)) (hws : ws.length ≤ 10000) (h : EvP ta σ H0 vs) (s : Same H0 H) (hl : vs.length ≤ 10000) (k : ∀ p H1, Same H H1 → H1 p = some (.lst (ws ++ vs)) → u D (σ.set j (some (.ref p))) H1) :
    tSeq (tAsg (tOp rCat (tVar i) (tLst ta)) (gName j)) u D σ H := by
  show tOp rCat (tVar i) (tLst ta) σ H (fun x H1 => u D (σ.set j (some x)) H1)
  exact cat_ps hi hL hws h s hl k
/-- isinstance(e, c) -/
theorem is_at {P : Program} {mg : Str → Option Value} {cn : Str} {C e : Addr} {b : XBd} {fl : Option Str} {c : V} {cv : Value} {r : Bool} (E : EC P K mg cn C b fl) (h : ErrAt H v e C fl) (hc : ∀ u, RelV c u → u = cv) (hk : PySem.W.kitOne K (.ref C) cv = some r) (q : Q (.bl r) H) :
    rIsX K [.ref e, c] H Q := by
  cases fl with
  | none => exact ⟨e, C, none, c, cv, r, rfl, h, (fun dd z => nomatch z), E.xok, hc, hk, q⟩
  | some x =>
    obtain ⟨d, h1, h2⟩ := h
    exact ⟨e, C, some d, c, cv, r, rfl, h1, (fun dd z => by cases z; exact ⟨_, h2⟩), E.xok, hc, hk, q⟩
theorem pv_is {P : Program} {mg : Str → Option Value} {cn : Str} {C e : Addr} {b : XBd} {fl : Option Str} {c : V} {cv : Value} {r : Bool} (E : EC P K mg cn C b fl) (h : ErrAt H0 v e C fl) (hv : σ[i]? = some (some (.ref e))) (hc : ∀ u, RelV c u → u = cv) (hk : PySem.W.kitOne K (.ref C) cv = some r) :
    EvP1 (tCB (rIsX K) (tCons (tVar i) (tCons (tC c) tNil))) σ H0 (.bl r) := fun H Q s q => ⟨_, hv, is_at E (h.same s) hc hk q⟩
/-- t * int(isinstance(e, c)) -/
theorem pv_txt {P : Program} {mg : Str → Option Value} {cn z : Str} {C e : Addr} {b : XBd} {fl : Option Str} {c : V} {cv : Value} {r : Bool} {r2 : R2} {rI : List V → Hp → VK → Prop} (E : EC P K mg cn C b fl) (h : ErrAt H0 v e C fl) (hv : σ[i]? = some (some (.ref e))) (hc : ∀ u, RelV c u → u = cv)
    (hk : PySem.W.kitOne K (.ref C) cv = some r) (h2 : ∀ H Q, Q (.str (if r then z else Str.empty)) H → r2 (.str z) (.int (if r then 1 else 0)) H Q) (hI : ∀ H Q, Q (.int (if r then 1 else 0)) H → rI [.bl r] H Q) :
    EvP1 (tOp r2 (tC (.str z)) (tCB rI (tCons (tCB (rIsX K) (tCons (tVar i) (tCons (tC c) tNil))) tNil))) σ H0 (.str (if r then z else Str.empty)) := fun H Q s q =>
  pv_is E h hv hc hk H _ s (hI _ _ (h2 _ _ q))
/-- some[k].x -/
theorem pv_fld {e C : Addr} {x : Str} {es : List V} {k : Nat} (hv : σ[i]? = some (some (.ref L))) (hL : H0 L = some (.lst es)) (he : es[k]? = some (.ref e)) (h : ErrAt H0 v e C (some x)) (ok : XOk K C) (hf : PySem.W.findIn K (.ref C) x = some none) {te : TE}
    (ht : ∀ H Q, te σ H Q = (∃ v, σ[i]? = some (some v) ∧ rIxL K v (.int (k : Int)) H Q)) : EvP1 (tXatA K x te) σ H0 v := fun H Q s q => by
  obtain ⟨d, h1, h2⟩ := h.same s
  show te σ H _
  rw [ht]
  refine ⟨_, hv, L, es, _, _, rfl, rfl, SqL.of (s _ _ hL), atI_nat he, e, C, d, v, rfl, h1, h2, ok, hf, q⟩
end
section
variable {X : Cx} {x : Str} {pos : Pos} {K : PySem.W.Frag} {te : TE}
/-- within a comprehension: the written part named from outside -/
theorem pe_xatK {e : Expr} (hK : X.K = K) (he : PE X e te) (hb : attributeBase e x X.env (eval e X.env) = eval e X.env := by rfl) : PE X (.Attribute e x pos) (tXatA K x te) := by
  subst hK
  exact pe_xatA he hb
def rRepr (K : PySem.W.Frag) : List V → Hp → VK → Prop := fun xs H Q => ∃ v d, xs = [v] ∧ Dr K H v d ∧ d.showable = true ∧ d.shown.length ≤ sizeLine ∧ d.depth ≤ 60 ∧ Q (.str d.shown) H
theorem call_reprK (hK : X.K = K) (hg : X.A.guards = some []) (hu : X.A.units + 64 < cLine) : CallR X (.builtin "repr") (rRepr K) := by
  subst hK
  exact call_repr hg hu
end
end VK

namespace VK
open PySem PySem.VK PySem.Spec PyProof.Rows L2
/-! ## data is one; what doesn't lean on an address -/
theorem Fl.det {v : V} {d d' : PyData} (h : Fl v d) (h' : Fl v d') : d = d' := by cases h <;> cases h' <;> rfl
theorem fls_det : ∀ {kvs : List (Key × V)} {ds ds' : List (PyData × PyData)}, Paired (fun (p : Key × V) (q : PyData × PyData) => q.1 = keyD p.1 ∧ Fl p.2 q.2) kvs ds → Paired (fun (p : Key × V) (q : PyData × PyData) => q.1 = keyD p.1 ∧ Fl p.2 q.2) kvs ds' → ds = ds'
  | _, _, _, .nil, .nil => rfl
  | _, _, _, .cons a t, .cons b u => by
    have e1 := a.1.trans b.1.symm
    have e2 := a.2.det b.2
    rw [Prod.ext e1 e2, fls_det t u]
mutual
theorem Dt.det {H : Hp} : ∀ (d : PyData) (v : V) (d' : PyData), Dt H v d → Dt H v d' → d = d'
  | .none, _, _, h, h' => by cases h; cases h'; rfl
  | .bool _, _, _, h, h' => by cases h; cases h'; rfl
  | .int _, _, _, h, h' => by cases h; cases h'; rfl
  | .str _, _, _, h, h' => by cases h; cases h'; rfl
  | .list ds, _, d', h, h' => by
    cases h with
    | lst ha hs =>
      cases h' with
      | lst hb ht =>
        have e := ha.symm.trans hb
        cases e
        rw [DtAll.det ds _ _ hs ht]
      | tup hb ht => cases ha.symm.trans hb
      | dct hb ht => cases ha.symm.trans hb
  | .tuple ds, _, d', h, h' => by
    cases h with
    | tup ha hs =>
      cases h' with
      | tup hb ht =>
        have e := ha.symm.trans hb
        cases e
        rw [DtAll.det ds _ _ hs ht]
      | lst hb ht => cases ha.symm.trans hb
      | dct hb ht => cases ha.symm.trans hb
  | .dict ds, _, d', h, h' => by
    cases h with
    | dct ha hs =>
      cases h' with
      | dct hb ht =>
        have e := ha.symm.trans hb
        cases e
        rw [fls_det hs ht]
      | lst hb ht => cases ha.symm.trans hb
      | tup hb ht => cases ha.symm.trans hb
theorem DtAll.det {H : Hp} : ∀ (ds : List PyData) (vs : List V) (ds' : List PyData), DtAll H vs ds → DtAll H vs ds' → ds = ds'
  | [], _, _, h, h' => by cases h; cases h'; rfl
  | d :: ds, _, _, h, h' => by
    cases h with
    | cons h1 h2 =>
      cases h' with
      | cons g1 g2 => rw [Dt.det d _ _ h1 g1, DtAll.det ds _ _ h2 g2]
end
mutual
theorem Dt.cut {H H' : Hp} {a : Addr} {da : PyData} (ha : Dt H (.ref a) da) (k : ∀ b o, H b = some o → b ≠ a → H' b = some o) : ∀ (d : PyData) (v : V), Dt H v d → sizeOf d < sizeOf da → Dt H' v d
  | .none, _, h, _ => by cases h; exact .non
  | .bool b, _, h, _ => by cases h; exact .bl b
  | .int i, _, h, _ => by cases h; exact .int i
  | .str x, _, h, _ => by cases h; exact .str x
  | .list ds, _, h, z => by
    have h0 := h
    cases h with
    | @lst b _ _ hb hs =>
      refine .lst (k _ _ hb fun e => ?_) (DtAll.cut ha k ds _ hs (by simp only [PyData.list.sizeOf_spec] at z; omega))
      subst e
      rw [Dt.det _ _ _ h0 ha] at z
      exact Nat.lt_irrefl _ z
  | .tuple ds, _, h, z => by
    have h0 := h
    cases h with
    | @tup b _ _ hb hs =>
      refine .tup (k _ _ hb fun e => ?_) (DtAll.cut ha k ds _ hs (by simp only [PyData.tuple.sizeOf_spec] at z; omega))
      subst e
      rw [Dt.det _ _ _ h0 ha] at z
      exact Nat.lt_irrefl _ z
  | .dict ds, _, h, z => by
    have h0 := h
    cases h with
    | @dct b _ _ hb hs =>
      refine .dct (k _ _ hb fun e => ?_) hs
      subst e
      rw [Dt.det _ _ _ h0 ha] at z
      exact Nat.lt_irrefl _ z
theorem DtAll.cut {H H' : Hp} {a : Addr} {da : PyData} (ha : Dt H (.ref a) da) (k : ∀ b o, H b = some o → b ≠ a → H' b = some o) : ∀ (ds : List PyData) (vs : List V), DtAll H vs ds → sizeOf ds < sizeOf da → DtAll H' vs ds
  | [], _, h, _ => by cases h; exact .nil
  | d :: ds, _, h, z => by
    cases h with
    | cons h1 h2 =>
      simp only [List.cons.sizeOf_spec] at z
      exact .cons (Dt.cut ha k d _ h1 (by omega)) (DtAll.cut ha k ds _ h2 (by omega))
end
/-- xs.append(9) -/
theorem Dt.app9 {H : Hp} {a : Addr} {xs : List V} {ds : List PyData} (h : H a = some (.lst xs)) (hs : DtAll H xs ds) : Dt (upd H a (.lst (xs ++ [.int 9]))) (.ref a) (.list (ds ++ [.int 9])) := by
  refine .lst upd_same (DtAll.append (DtAll.cut (.lst h hs) (fun b o e hb => by rw [upd_ne hb]; exact e) ds xs hs (by simp only [PyData.list.sizeOf_spec]; omega)) (.cons (.int 9) .nil))
/-! ## lists that are made -/
def EvL (te : TE) (σ : L2.St) (H0 : Hp) (vs : List V) : Prop := ∀ H Q, Same H0 H → (∀ p H1, Same H H1 → H1 p = some (.lst vs) → Q (.ref p) H1) → te σ H Q
section
variable {K : PySem.W.Frag} {σ : L2.St} {H0 H : Hp} {te tf : TE} {ta : TA} {v : V} {vs ws : List V} {i : Nat} {Q : VK}
theorem ev_lst (h : EvP ta σ H0 vs) (hl : vs.length ≤ 10000) : EvL (tLst ta) σ H0 vs := fun H Q s k => lst_ps h s hl k
theorem ev_rep {k : Int} (h : EvL te σ H0 vs) (h0 : 0 ≤ k) (h1 : k < 1000) (hl : vs.length * k.toNat ≤ 10000) : EvL (tOp rRep te (tC (.int k))) σ H0 (List.replicate k.toNat vs).flatten := fun H Q s q =>
  h H _ s fun p H1 s1 hp => ⟨p, k, vs, rfl, rfl, hp, by omega, by omega, Nat.le_trans hl (by decide), fun p2 hp2 => q p2 _ (s1.trans (new_same hp2)) upd_same⟩
theorem ev_cat (h : EvL te σ H0 vs) (g : EvL tf σ H0 ws) (hl : vs.length ≤ 10000) (hm : ws.length ≤ 10000) : EvL (tOp rCat te tf) σ H0 (vs ++ ws) := fun H Q s q =>
  h H _ s fun p H1 s1 hp => g H1 _ (s.trans s1) fun p2 H2 s2 hp2 => ⟨p, p2, _, _, rfl, rfl, s2 _ _ hp, hp2, Nat.le_trans (Nat.add_le_add hl hm) (by decide), fun p3 hp3 => q p3 _ ((s1.trans s2).trans (new_same hp3)) upd_same⟩
theorem pv_str {x : Str} : EvP1 (tC (.str x)) σ H0 (.str x) := fun H Q s q => q
theorem pv_var (h : σ[i]? = some (some v)) : EvP1 (tVar i) σ H0 v := fun H Q s q => ⟨_, h, q⟩
end
/-! ## texts and bools in lists, as data -/
theorem dpAll_str {K : PySem.W.Frag} {H : Hp} : ∀ ss : List Str, DpAll K H (ss.map V.str) (ss.map PyData.str)
  | [] => .nil
  | s :: ss => .cons (.str s) (dpAll_str ss)
theorem dpAll_bl {K : PySem.W.Frag} {H : Hp} : ∀ ss : List Bool, DpAll K H (ss.map V.bl) (ss.map PyData.bool)
  | [] => .nil
  | s :: ss => .cons (.bl s) (dpAll_bl ss)
theorem strs_lay : ∀ ss : List Str, (∀ s ∈ ss, PyData.strOk s = true) → PyData.canLayAll0 (ss.map PyData.str) = true ∧ PyData.depthAll (ss.map PyData.str) = 0
  | [], _ => ⟨by simp only [List.map_nil, PyData.canLayAll0], by simp only [List.map_nil, PyData.depthAll]⟩
  | s :: ss, h => by
    have r := strs_lay ss fun x hx => h x (List.mem_cons_of_mem _ hx)
    have r0 := h s List.mem_cons_self
    exact ⟨by simp only [List.map_cons, PyData.canLayAll0, PyData.canLay0, r0, r.1]; rfl, by simp only [List.map_cons, PyData.depthAll, PyData.depth, r.2]; rfl⟩
theorem bls_lay : ∀ ss : List Bool, PyData.canLayAll0 (ss.map PyData.bool) = true ∧ PyData.depthAll (ss.map PyData.bool) = 0
  | [] => ⟨by simp only [List.map_nil, PyData.canLayAll0], by simp only [List.map_nil, PyData.depthAll]⟩
  | s :: ss => by
    have r := bls_lay ss
    exact ⟨by simp only [List.map_cons, PyData.canLayAll0, PyData.canLay0, r.1]; rfl, by simp only [List.map_cons, PyData.depthAll, PyData.depth, r.2]; rfl⟩
theorem shaped_strs {ss : List Str} (h : ∀ s ∈ ss, PyData.strOk s = true) : SeqAt.shaped (.list (ss.map PyData.str)) = true := by
  have r := strs_lay ss h
  unfold SeqAt.shaped
  simp only [PyData.canLay0, PyData.depth, r.1, r.2]
  decide
theorem shaped_bls (ss : List Bool) : SeqAt.shaped (.list (ss.map PyData.bool)) = true := by
  have r := bls_lay ss
  unfold SeqAt.shaped
  simp only [PyData.canLay0, PyData.depth, r.1, r.2]
  decide
/-- two lists of the same texts: != is False -/
theorem ne_strs {K : PySem.W.Frag} {H : Hp} {p q : Addr} {ss : List Str} {Q : VK} (h : ∀ s ∈ ss, PyData.strOk s = true) (hp : H p = some (.lst (ss.map V.str))) (hq : H q = some (.lst (ss.map V.str))) (k : Q (.bl false) H) : rNeD K (.ref p) (.ref q) H Q := by
  have sh := shaped_strs h
  refine ⟨_, _, .lst (SqL.of hp) (dpAll_str ss), .lst (SqL.of hq) (dpAll_str ss), sh, sh, ?_⟩
  rw [PySem.SeqAt.eqv_refl _ (SeqAt.canLay_of_shaped sh)]
  exact k
theorem ne_bls {K : PySem.W.Frag} {H : Hp} {p q : Addr} {ss : List Bool} {Q : VK} (hp : H p = some (.lst (ss.map V.bl))) (hq : H q = some (.lst (ss.map V.bl))) (k : Q (.bl false) H) : rNeD K (.ref p) (.ref q) H Q := by
  have sh := shaped_bls ss
  refine ⟨_, _, .lst (SqL.of hp) (dpAll_bl ss), .lst (SqL.of hq) (dpAll_bl ss), sh, sh, ?_⟩
  rw [PySem.SeqAt.eqv_refl _ (SeqAt.canLay_of_shaped sh)]
  exact k
/-- is it a list -/
def isL : PyData → Bool
  | .list _ => true
  | _ => false
theorem Dt.isL {K : PySem.W.Frag} {H : Hp} {v : V} {d : PyData} (h : Dt H v d) : ∃ t, TyX K H v t ∧ PySem.W.kitOne K t (.type "list") = some (isL d) := by
  cases h with
  | non => exact ⟨_, .base .non, kit_ty (r := false) (by decide +kernel)⟩
  | bl b => exact ⟨_, .base (.bl b), kit_ty (r := false) (by decide +kernel)⟩
  | int i => exact ⟨_, .base (.int i), kit_ty (r := false) (by decide +kernel)⟩
  | str x => exact ⟨_, .base (.str x), kit_ty (r := false) (by decide +kernel)⟩
  | lst h _ => exact ⟨_, .base (.lst h), kit_ty (r := true) (by decide +kernel)⟩
  | tup h _ => exact ⟨_, .base (.tup h), kit_ty (r := false) (by decide +kernel)⟩
  | dct h _ => exact ⟨_, .base (.dK h), kit_ty (r := false) (by decide +kernel)⟩
end VK

namespace VK
open PySem PySem.VK PySem.Spec PyProof.Rows L2
/-! ## own errors raised, caught and kept -/
section
variable {X : Cx} {cn x y : Str} {C : Addr} {b : XBd} {p q pos kp : Pos} {ta : TE} {e : Expr}
/-- C(e) that is raised: d, its dict -/
def tRz1 (C : Addr) (x : Str) (ta : TE) : L2.St → Hp → XK → Prop := fun σ H Q => ta σ H fun v H1 => ∀ d, H1 d = none → Q (.ref C) (some d) (upd H1 d (.xd [(x, v)]))
theorem EC.raises (E : EC X.prog X.K X.mg cn C b fl) : Raises X (.ref C) := raises_own E.T.sBE E.T.tyC
theorem EC.pmk1 (E : EC X.prog X.K X.mg cn C b (some x)) (R : MkR X) (hg : Gl X cn) (he : PE X e ta) (hdb : (cn == ("__debug__" : Str)) = false := by decide)
    (hs : starEach [e] X.env = (false, eval e X.env) :: starEach [] X.env := by rfl) : PMk X (.Call (.Name cn p) [e] [] pos) (tRz1 C x ta) := by
  obtain ⟨fI, qual, msg, p1, p2, a1, a2, a3, a4, a5, a6, b1, b2, b3, b4, TI, hp, hx, hf⟩ := E.ini
  obtain ⟨x1, x2, x3, x4⟩ := fldNames_ok hx
  intro pins s σ H Q I h
  refine wpAny_Call_Name_kw (ld_glob I hg E.g ?_ hdb)
  refine PySem.W.callWith_K (h₀ := X.base) I.ok.mod.kin E.T.kpC ?_ hs (by rfl)
  rw [hs]
  show wpAny _ _ (spliced ((false, eval e X.env) :: backTo pos (starEach [] X.env))) _ _ s
  refine Calls.spliced_cons (thn (he.run pins s σ H _ I h) fun u s1 ⟨v, H1, I1, r1, q1⟩ => ?_)
  refine Calls.spliced_nil ⟨I1.kIn, ?_⟩
  show wpAny _ _ (call (.ref C) [u]) _ _ _
  refine made1 E.xb.KF E.xb.FB E.xb.SF E.T TI (taker_no hf) x1 x2 x3 x4 hp (arnd_of I1 R.su R.ns) R.dp ?_ fun h' tk' a M => ?_
  · intro u1 u2 kV doc pm an cda cc ct
    simp only [fldNames, List.mem_cons, List.not_mem_nil, or_false] at hx
    rcases hx with rfl | rfl | rfl | rfl | rfl <;> rfl
  · obtain ⟨t, d, ho, hd, hne, hn⟩ := M.obj
    obtain ⟨G, g1, g2⟩ := restrict h' fun b => decide (b ≠ a)
    have gk : ∀ b, b ≠ a → G.get? b = h'.get? b := fun b hb => g1 b (decide_eq_true hb)
    have ga : G.get? a = none := g2 a (decide_eq_false fun z => z rfl)
    have keep : ∀ b o, s1.heap.get? b = some o → G.get? b = some o := fun b o e => by
      rw [gk b (Nat.ne_of_lt (Nat.lt_of_lt_of_le (Heap.lt_size e) M.new))]
      exact M.keep b o e
    have hd0 : s1.heap.get? d = none := Heap.get?_none_of_le hd
    have hn0 : H1 d = none := I1.hok.fresh hd
    have hnG : G.Ns1 d (fun y => if y = x then some u else none) := hn.at fun o z => by rw [gk d hne]; exact z
    have J : Inv X pins σ (upd H1 d (.xd [(x, v)])) { s1 with heap := G, toks := tk' } := I1.laidN keep hd0 hn0 ⟨_, hnG, relO_one r1⟩
    exact ⟨a, _, _, _, _, .ref C, some d, rfl, J, fun b o z => by
      by_cases hb : b = a
      · rw [hb, ga] at z
        cases z
      · rw [gk b hb] at z
        exact z, ga, ho, ⟨rfl, rfl⟩, rfl, rfl, by rw [upd_ne hne.symm]; exact I1.hok.fresh M.new, rfl, I1.bare, E.raises, q1 d hn0⟩
/-- C() that is raised -/
theorem EC.pmk0 (E : EC X.prog X.K X.mg cn C b none) (R : MkR X) (hg : Gl X cn) (hdb : (cn == ("__debug__" : Str)) = false := by decide) : PMk X (.Call (.Name cn p) [] [] pos) (fun _ H Q => Q (.ref C) none H) := by
  obtain ⟨fI, qual, msg, p1, a1, a2, a3, a4, a5, a6, TI, hp⟩ := E.ini
  intro pins s σ H Q I h
  refine wpAny_Call_Name_kw (ld_glob I hg E.g ?_ hdb)
  refine PySem.W.callWith_K0 I.kIn E.T.kpC ?_
  refine made0 E.xb.KF E.xb.FB E.T TI hp (arnd_of I R.su R.ns) R.dp fun h' tk' a t k hge ho => ?_
  exact ⟨a, _, _, s, H, .ref C, none, rfl, I, k, Heap.get?_none_of_le hge, ho, ⟨rfl, rfl⟩, rfl, rfl, I.hok.fresh hge, rfl, I.bare, E.raises, h⟩
end
/-- at a: an error that was raised, of the class cls, its dict d -/
def exR (a : Addr) (cls : Value) (d : Option Addr) : HO := .ext fun h => ∃ (oe : Obj) (vs : Array Value), h.get? a = some oe ∧ Zc cls d oe ∧ oe.data = .fields vs
theorem exR_ok {P : Program} {w : World} {H : Hp} {h : Heap} {a : Addr} {cls : Value} {d : Option Addr} {oe : Obj} {vs : Array Value} (e : h.get? a = some oe) (z : Zc cls d oe) (hd : oe.data = .fields vs) : ObjOk P w H h a (exR a cls d) :=
  ⟨⟨oe, vs, e, z, hd⟩, ⟨oe, e⟩, fun _ _ ⟨o, v, q, r⟩ k => ⟨o, v, k o q, r⟩⟩
theorem exR_at {P : Program} {w : World} {H : Hp} {h : Heap} {a C : Addr} {d : Option Addr} (hok : HOk P w H h) (he : H a = some (exR a (.ref C) d)) : ∃ (vs : Array Value) (sl : Array (Option Value)), h.get? a = some ⟨.ref C, d, .fields vs, sl⟩ := by
  obtain ⟨⟨oe, vs, e, z, hd⟩, _⟩ := hok a _ he
  obtain ⟨c, d', dt, sl⟩ := oe
  obtain ⟨h1, h2⟩ := z
  dsimp only at h1 h2 hd
  subst h1 h2 hd
  exact ⟨vs, sl, e⟩
/-- e.x of it -/
def tXatR (K : PySem.W.Frag) (x : Str) (te : TE) : TE := fun σ H Q => te σ H fun z H1 => ∃ a C d v, z = .ref a ∧ H1 a = some (exR a (.ref C) (some d)) ∧ H1 d = some (.xd [(x, v)]) ∧ XOk K C ∧ PySem.W.findIn K (.ref C) x = some none ∧ Q v H1
section
variable {X : Cx} {x : Str} {pos : Pos} {e : Expr} {te : TE}
theorem pe_xatR (he : PE X e te) (hb : attributeBase e x X.env (eval e X.env) = eval e X.env := by rfl) : PE X (.Attribute e x pos) (tXatR X.K x te) := by
  refine ⟨fun pins s σ H Q I h => ?_⟩
  refine attr_of hb (thn (he.run pins s σ H _ I h) fun u s1 hh => ?_)
  obtain ⟨z, H1, I1, rx, a, C, d, v, rfl, ea, ed, ⟨P, B, i, newId, bmB, T⟩, hno, q⟩ := hh
  obtain rfl : u = Value.ref a := rx
  obtain ⟨vs, sl, ho⟩ := exR_at I1.hok ea
  have hx : ObjOk X.prog X.w H1 s1.heap d (.xd [(x, v)]) := I1.hok d _ ed
  obtain ⟨mA, hns, hr⟩ := hx
  obtain ⟨od, hod, hl⟩ := lookIn_ns hns
  have l : List.lookup x [(x, v)] = some v := by rw [List.lookup_cons, beq_self_eq_true]
  obtain ⟨u, hu, ru⟩ := RelO.some_of (v := v) (o := mA x) (by rw [← l]; exact hr x)
  have J : PySem.W.InstAt s1.heap a ⟨.ref C, some d, .fields vs, sl⟩ C (some od) := ⟨ho, rfl, rfl, hod⟩
  exact PySem.PX.exc_get I1.kIn J T.gat T.gga T.sBE (PySem.W.findObj_own T.hsd hno rfl (by rw [hl, hu])) (handed_of ru) ⟨v, H1, I1.tok _, ru, q⟩
/-- isinstance(e, c) of it -/
def rIsR (K : PySem.W.Frag) : List V → Hp → VK → Prop := fun xs H Q => ∃ (a C : Addr) (d : Option Addr) (c : V) (cv : Value) (r : Bool), xs = [.ref a, c] ∧ H a = some (exR a (.ref C) d) ∧ (∀ dd, d = some dd → ∃ fs, H dd = some (.xd fs)) ∧ XOk K C ∧ (∀ u, RelV c u → u = cv) ∧ PySem.W.kitOne K (.ref C) cv = some r ∧ Q (.bl r) H
theorem call_isR : CallR X (.builtin "isinstance") (rIsR X.K) := by
  intro pins s σ H xs us Q I r h
  obtain ⟨a, C, d, c, cv, b, rfl, ha, hd, ⟨P, B, i, newId, bmB, T⟩, hcv, e, q⟩ := h
  obtain ⟨u1, u2, rfl, r1, r2⟩ := vals2 r
  cases (show u1 = Value.ref a from r1)
  have ec := hcv _ r2
  subst ec
  obtain ⟨vs, sl, ho⟩ := exR_at I.hok ha
  have hcl : (PySem.W.clsIn X.K C).isSome = true := by obtain ⟨cd, hc, _⟩ := PySem.W.any_some T.hsd; rw [hc]; rfl
  obtain ⟨od, J⟩ : ∃ od, PySem.W.InstAt s.heap a ⟨.ref C, d, .fields vs, sl⟩ C od := by
    cases d with
    | none => exact ⟨none, ho, rfl, rfl, trivial⟩
    | some dd =>
      obtain ⟨fs, hf⟩ := hd dd rfl
      have hx : ObjOk X.prog X.w H s.heap dd (.xd fs) := I.hok dd _ hf
      obtain ⟨mA, hns, _⟩ := hx
      obtain ⟨od, hod, _⟩ := lookIn_ns hns
      exact ⟨some od, ho, rfl, rfl, hod⟩
  exact PySem.W.kia_one (PySem.W.kitx_exc hcl T.gat T.gga T.sBE T.cla T.spG T.spT T.mOb) I.kIn J e (fun z => nomatch z) fun tk => ⟨.bl b, H, I.kept (t' := tk) fun _ _ z => z, rfl, q⟩
end
end VK

namespace VK
open PySem PySem.VK PySem.Spec PyProof.Rows L2
/-! ## an error that is caught and kept: tracked from the clause on -/
/-- what the clause asks: slot i is the name's -/
def wTr (K : PySem.W.Frag) (c : Value) (i n : Nat) (ts : Addr → Value → Option Addr → TS) (Wout : WX) (D : Ends) : WX := fun cls d σ H => σ.length = n →
  ∃ b, PySem.W.exmOne K cls c = some b ∧
    (b = true → ∀ a, H a = none → ts a cls d { nx := fun σ' H' => D.nx (σ'.set i none) H', rt := D.rt, bk := fun σ' H' => D.bk (σ'.set i none) H', ct := fun σ' H' => D.ct (σ'.set i none) H' } (σ.set i (some (.ref a))) (upd H a (exR a cls d))) ∧
    (b = false → Wout cls d σ H)
section
variable {X : Cx} {pins : List (Addr × Obj)} {σ : L2.St} {H : Hp} {sI s s' : Shared} {B : Heap}
/-- back on the ground, the error tracked -/
theorem inv_landT {a : Addr} {cls : Value} {d : Option Addr} {oe : Obj} {vs : Array Value} (I : Inv X pins σ H sI) (nb : ∀ b o, sI.heap.get? b = some o → b ∉ frs X.stack → B.get? b = some o) (st : B.StaysIn s'.heap) (up : sI.heap.UpToSlots s'.heap) (os : s'.os = sI.os) (ag : AllBare s'.gens)
    (na : H a = none) (hB : B.get? a = none) (nf : a ∉ frs X.stack) (ha : s'.heap.get? a = some oe) (hz : Zc cls d oe) (hd : oe.data = .fields vs) : Inv X pins σ (upd H a (exR a cls d)) s' := by
  have n0 : sI.heap.get? a = none := by
    cases e : sI.heap.get? a with
    | none => rfl
    | some o =>
      have z := nb a o e nf
      rw [hB] at z
      cases z
  have ne : ∀ b o, sI.heap.get? b = some o → b ≠ a := fun b o e z => by
    rw [z, n0] at e
    cases e
  have fr : ∀ b ∈ frs X.stack, ∀ o, sI.heap.get? b = some o → ∃ sl, s'.heap.get? b = some { o with slots := sl } := fun b hb o e => by
    obtain ⟨_, o', e', hd'⟩ := I.stack.mem hb
    have q := e.symm.trans e'
    cases q
    exact up b o e hd'
  have ok1 : HOk X.prog X.w H s'.heap := (I.inGround nb).kept st
  refine I.call' (ch := []) os { keep := fun b o e _ hb _ => st b o (nb b o e hb), slot := fun b o e _ hb _ => fr b hb o e, free := fun b o e n _ => ?_, there := fun b o e _ => ?_, tups := fun b xs e => ?_, frzs := fun b o u e => ?_, tbls := fun b ps e => ⟨#[], ?_⟩ }
    (ok1.laidN (fun _ _ z => z) na (exR_ok ha hz hd)) ag (fun _ z => nomatch z)
  · rw [upd_ne (ne b o e)]
    exact n
  · by_cases hb : b ∈ frs X.stack
    · obtain ⟨sl, q⟩ := fr b hb o e
      exact ⟨_, q⟩
    · exact ⟨o, st b o (nb b o e hb)⟩
  · rw [upd_ne (ne_of_none e na)]
    exact e
  · rw [upd_ne (ne_of_none e na)]
    exact e
  · rw [upd_ne (ne_of_none e na), e]
    simp
/-- into the suite: the mark stands, no pin is added -/
theorem inv_suiteT (I : Inv X pins σ H s) (a : Addr) : Inv (X.suite a (X.pn ++ pins)) [] σ H s :=
  ⟨I.ok.suite _ _, I.os, I.bare, I.base, I.loc, I.cell, I.free, I.freeC, fun p hp => I.pin p (by rw [List.append_nil] at hp; exact hp), I.hok, I.len⟩
theorem inv_unsuiteT {a : Addr} {pn' : List (Addr × Obj)} (I : Inv (X.suite a (X.pn ++ pins)) pn' σ H s) (ok : X.Ok) : Inv X pins σ H s :=
  ⟨ok, I.os, I.bare, I.base, I.loc, I.cell, I.free, I.freeC, fun p hp => I.pin p (List.mem_append_left _ hp), I.hok, I.len⟩
end
section
variable {X : Cx} {x n : Str} {c : Value} {i : Nat} {body suite : List Stmt} {b₀ : Stmt} {np pos pos' : Pos} {tb : WX → TS} {ts : Addr → Value → Option Addr → TS} {Wout : WX}
theorem ps_try_tr (hs : X.stack = X.env :: X.outer) (hf : X.env.frame = some X.env.locals) (hN : X.N.Nodup) (hi : X.N[i]? = some n) (hln : X.env.kindOf n = some .local) (hc : Names X x c) (tk : Takes X Wout)
    (hb : ∀ (W : WX) (pn : List (Addr × Obj)) (xe : Value → Shared → Prop), Takes (X.tr pn xe) W → PassesOwn (model X.prog X.w) X.A X.env xe → PSs (X.tr pn xe) body (tb W))
    (hsu : ∀ (a : Addr) (cls : Value) (d : Option Addr) (pn : List (Addr × Obj)), PSs (X.suite a pn) (b₀ :: suite) (ts a cls d)) :
    PS X (.Try body [.ExceptHandler (some (.Name x np)) (some n) (b₀ :: suite) pos'] [] [] pos) (fun D σ H => tb (wTr X.K c i X.N.length ts Wout D) D σ H) := by
  refine ⟨fun pins s σ H D I h => ?_⟩
  have ok := I.ok
  have hfr : X.A.frames = some (X.env :: X.outer) := ok.frames.trans (congrArg some hs)
  refine wpAny_Try_except ?_
  have body' := (hb (wTr X.K c i X.N.length ts Wout D) (X.pn ++ pins)
    (fun e s₁ => wpAny (model X.prog X.w) X.A (noteFrame e X.env)
      (fun _ s₂ => wpAny (model X.prog X.w) X.A (setFlight e none)
        (fun _ s₃ => wpAny (model X.prog X.w) X.A (handleBy e X.env [.ExceptHandler (some (.Name x np)) (some n) (b₀ :: suite) pos']) (SP X pins D) X.xe s₃) X.xe s₂) X.xe s₁)
    (fun u s' xx => ?_) PassesOwn.looking).run [] s σ H D (I.toTry _) h
  · refine wpAny_mono body' (fun f s1 hsp => ?_) (fun e s1 he => he)
    cases f with
    | next =>
      obtain ⟨σ', H', J', q⟩ := hsp
      exact wpAny_execs_nil ⟨σ', H', J'.ofTry ok, q⟩
    | brk =>
      obtain ⟨σ', H', J', q⟩ := hsp
      exact ⟨σ', H', J'.ofTry ok, q⟩
    | cont =>
      obtain ⟨σ', H', J', q⟩ := hsp
      exact ⟨σ', H', J'.ofTry ok, q⟩
    | ret u =>
      obtain ⟨v, σ', H', J', r, q⟩ := hsp
      exact ⟨v, σ', H', J'.ofTry ok, r, q⟩
  · -- caught
    obtain ⟨a, B, sI, pins', σ', H', cls, d, rfl, J', nb, up, sky, na, os, ag, wish⟩ := xx
    obtain ⟨b, hb1, hyes, hno⟩ := wish J'.len
    have J : Inv X pins σ' H' sI := J'.ofTry ok
    have sky' : Sky B (X.env :: X.outer) a (Zc cls d) X.env.locals s'.heap := by
      rw [← hs]
      exact sky
    show wpAny (model X.prog X.w) X.A (noteFrame (.ref a) X.env) _ _ _
    refine Sky.land Zc.steady hfr hf sky' fun h3 fl3 up3 => ?_
    obtain ⟨oe3, vs3, he3, hz3, hd3⟩ := fl3.there
    have nfr : a ∉ frs X.stack := by
      rw [hs]
      intro hm
      obtain ⟨_, o', e', hnf⟩ := fl3.2.2.1.mem hm
      have q := he3.symm.trans e'
      cases q
      exact hnf _ hd3
    have nL : a ≠ X.env.locals := fun z => nfr (by rw [hs]; exact List.mem_filterMap.mpr ⟨X.env, List.mem_cons_self, by rw [hf, z]⟩)
    have nF : a ∉ X.fs := fun hm => by
      obtain ⟨e, he, q⟩ := List.mem_filterMap.mp hm
      exact nfr (by rw [hs]; exact List.mem_filterMap.mpr ⟨e, List.mem_cons_of_mem _ he, q⟩)
    have J3 : Inv X pins σ' H' { s' with heap := h3 } := J.landed nb fl3.1 (up.trans up3) os ag
    have S3 := J3.suite he3 hd3 na nL nF
    refine wpAny_handleBy_cons (codeAny_handlers_test ?_) (by intro q; cases q)
    have LT : PySem.W.Looks (model X.prog X.w) h3 (typeOf (.ref a)) cls := fun A Q E s k q => wpAny_typeOf_ref (k _ _ he3) (by rw [hz3.1]; exact q)
    have LM := PySem.W.exm_one (M := model X.prog X.w) J3.kIn LT hb1
    have asks : ∀ {Q : Value → Shared → Prop} {E : Value → Shared → Prop}, Q c { s' with heap := h3 } → wpAny (model X.prog X.w) (X.A.mark (some (.ref a))) (eval (.Name x np) X.env) Q E { s' with heap := h3 } := fun {Q E} q => by
      obtain ⟨hg, hdbg, hm | ⟨hm, hv, hnn⟩⟩ := hc
      · exact ld_glob (X := X.suite a ((a, oe3) :: (X.pn ++ pins))) S3 hg hm q hdbg
      · exact ld_blt (X := X.suite a ((a, oe3) :: (X.pn ++ pins))) S3 hg hm hv q hnn hdbg
    refine asks (LM.here ?_)
    cases b with
    | false =>
      show wpAny _ X.A (handleBy (.ref a) X.env []) _ _ _
      refine wpAny_handleBy_nil ?_
      obtain ⟨k1, k2, k3, oe, vs, T, oT, ts', he, hz, hd, h1, hr⟩ := id fl3
      unfold PySem.passOn
      refine wpAny_bind (wpAny_field he hd h1 ?_)
      rw [if_neg (show ¬ ((Value.ref T == Value.none) = true) from by simp)]
      have onward : wpAny (model X.prog X.w) X.A (setFlight (.ref a) X.env.frame) (fun _ s4 => wpAny (model X.prog X.w) X.A (throw (.ref a) : Sem Flow) (SP X pins D) X.xe s4) X.xe { s' with heap := h3 } := by
        rw [hf]
        refine HandSPX.setFlight_upZ fl3 fun h4 hh4 up4 => wpAny_throw (tk _ _ ?_)
        exact ⟨a, B, sI, pins, σ', H', cls, d, rfl, J, nb, (up.trans up3).trans up4, .inr (.inr (by rw [hs]; exact hh4)), na, os, ag, hno rfl⟩
      first
        | exact wpAny_bind (wpAny_pure (wpAny_bind onward))
        | exact wpAny_bind onward
    | true =>
      refine codeAny_handlers_suite_as ?_
      refine HandSPX.lands_againZ fl3 fun h4 fl4 up4 => ?_
      obtain ⟨oe4, vs4, he4, hz4, hd4⟩ := fl4.there
      have J4 : Inv X pins σ' (upd H' a (exR a cls d)) { s' with heap := h4 } := inv_landT J nb fl4.1 ((up.trans up3).trans up4) os ag na fl4.2.1 nfr he4 hz4 hd4
      refine store_ok (X := X.suite a (X.pn ++ pins)) (v := .ref a) (inv_suiteT J4 a) hN hi (.inl hln) rfl (fun s5 S5 => ?_) (.inr hln)
      refine wpAny_mono ((hsu a cls d (X.pn ++ pins)).run [] s5 _ _ _ S5 (hyes rfl a na)) (fun f s6 hsp => ?_) (fun _ _ z => False.elim z)
      have fin : ∀ {σ6 : L2.St} {H6 : Hp} {Q : Shared → Prop}, Inv (X.suite a (X.pn ++ pins)) [] σ6 H6 s6 → (∀ s7, Inv X pins (σ6.set i none) H6 s7 → Q s7) →
          wpAny (model X.prog X.w) X.A (do bindName X.env n .none; unbindBehindTheSuite X.env n pos') (fun _ s7 => Q s7) X.xe s6 := fun {σ6 H6 Q} S6 hq => gone_ok (inv_unsuiteT S6 ok) hN hi hln hq
      cases f with
      | next =>
        obtain ⟨σ6, H6, S6, q6⟩ := hsp
        exact fin S6 fun s7 J7 => ⟨_, _, J7, q6⟩
      | brk =>
        obtain ⟨σ6, H6, S6, q6⟩ := hsp
        exact fin S6 fun s7 J7 => ⟨_, _, J7, q6⟩
      | cont =>
        obtain ⟨σ6, H6, S6, q6⟩ := hsp
        exact fin S6 fun s7 J7 => ⟨_, _, J7, q6⟩
      | ret u =>
        obtain ⟨v6, σ6, H6, S6, r6, q6⟩ := hsp
        exact fin S6 fun s7 J7 => ⟨_, _, _, J7, r6, q6⟩
end
end VK

namespace VK
open PySem PySem.VK PySem.Spec PyProof.Rows L2 LamX
/-! ## the end of a law with tables of code objects, no repr under way -/
theorem law_callGT {P : Program} {w : World} {K : PySem.W.Frag} {mg mb : Str → Option Value} {k : Nat} {fa a : Addr} {cs : List (Addr × Addr)} {fd : FuncData} {x : Str} {sp : Sp} {s₁ : Shared} {vs : List Value} {ns : List Int}
    (KX : K.In s₁.heap) (hns : s₁.heap.Ns mainGlobals mg) (hb : s₁.heap.Ns builtinsNs mb) (hbb : ∀ x : Str, x ≠ "__name__" → mb x = bootBuiltins x) (hlim : s₁.heap.NoLimit) (hg : s₁.gens = #[])
    (hT : ∀ p ∈ cs, s₁.heap.get? p.2 = some { cls := .none, data := .fields #[] }) (nT : ∀ p ∈ cs, K.lookup p.2 = none) (hC : ∀ p ∈ cs, PySem.W.CodeHd s₁.heap p.1 p.2)
    (hbm : ∃ (bm : Addr) (ob : Obj), mg "__builtins__" = some (.ref bm) ∧ bm ≠ builtinsNs ∧ s₁.heap.get? bm = some ob ∧ ob.cls = .type "module" ∧ ob.dict = some builtinsNs ∧ ob.data = .plain)
    (ha : s₁.heap.get? a = some { cls := .type "list", data := .seq vs.toArray }) (hi : IntsAre vs ns) (hl : ns.length ≤ sizeLine) (hr : Room k callerA)
    (F : ∀ base : Heap, K.In base → base.Ns mainGlobals mg → (∀ p ∈ cs, TabB base mg p.1 p.2) → FnG P w K mg base CX0 k fa fd [x] sp) (hbind : ∀ (s : Shared) (u : Value), BindsTo s fd ⟨[u], []⟩ [(x, u)])
    (hsp : ∀ H : Hp, (∀ p ∈ cs, H p.2 = some (.tbl #[])) → SqL K H a (ns.map V.int) → sp [.ref a] H (fun v _ => v = .bl true) fun _ _ _ => False) :
    codeAny (model P w) callerA (.call (.ref fa) ⟨[.ref a], []⟩) (fun r s' => r = .ok (.ret (.bool true)) ∧ OldK s₁.heap s'.heap ∧ s'.os = s₁.os ∧ AllBare s'.gens) s₁ := by
  have rv := vals_ints hi
  have lenV := hi.length
  let tb : List Addr := cs.map (·.2)
  have tbI : ∀ p ∈ cs, p.2 ∈ tb := fun p hp => List.mem_map.mpr ⟨p, hp, rfl⟩
  have tbE : ∀ b ∈ tb, s₁.heap.get? b = some { cls := .none, data := .fields #[] } := by
    intro b h
    obtain ⟨p, hp, rfl⟩ := List.mem_map.mp h
    exact hT p hp
  have aN : a ∉ tb := by
    intro z
    have q := (tbE a z).symm.trans ha
    cases q
  have go : ∀ H : Hp, (∀ p ∈ cs, H p.2 = some (.tbl #[])) → (∀ b, b ∉ tb → H b = none ∨ ∃ o xs, H b = some (.frz o (.lst xs))) → SqL K H a (ns.map V.int) → HOk P w H s₁.heap → (∀ b, H b ≠ none → b = a ∨ b ∈ tb) → (H a ≠ none → K.lookup a = none) →
      codeAny (model P w) callerA (.call (.ref fa) ⟨[.ref a], []⟩) (fun r s' => r = .ok (.ret (.bool true)) ∧ OldK s₁.heap s'.heap ∧ s'.os = s₁.os ∧ AllBare s'.gens) s₁ := by
    intro H hH hO sq hok onlyA notK
    -- an object that is neither a list nor an empty record is not tracked
    have plain : ∀ {b : Addr} {o : Obj}, s₁.heap.get? b = some o → (∀ vs n, o.data ≠ .seq vs n) → o.data ≠ .fields #[] → H b = none := by
      intro b o e h1 h2
      cases q : H b with
      | none => rfl
      | some u =>
        rcases onlyA b (by rw [q]; exact nofun) with z | z
        · subst z
          rw [ha] at e
          cases e
          exact absurd rfl (h1 _ _)
        · rw [tbE b z] at e
          cases e
          exact absurd rfl h2
    have dictN : ∀ {b : Addr} {o : Obj} {es : Array DictEntry} {ep : Nat}, s₁.heap.get? b = some o → o.data = .dict es ep → H b = none := by
      intro b o es ep e d
      exact plain e (fun vs n z => by rw [d] at z; cases z) (fun z => by rw [d] at z; cases z)
    have nsB : ∀ {b : Addr} {m : Str → Option Value}, s₁.heap.Ns b m → (hidT s₁.heap H).Ns b m := by
      rintro b m ⟨o, es, ep, e, d, r⟩
      exact ⟨o, es, ep, hidT_get e (dictN e d), d, r⟩
    have kinB : K.In (hidT s₁.heap H) := by
      intro b o e
      refine hidT_get (KX b o e) ?_
      cases q : H b with
      | none => rfl
      | some u =>
        rcases onlyA b (by rw [q]; exact nofun) with z | z
        · subst z
          rw [notK (by rw [q]; exact nofun)] at e
          cases e
        · obtain ⟨p, hp, rfl⟩ := List.mem_map.mp z
          rw [nT p hp] at e
          cases e
    obtain ⟨mc, l1, l2⟩ := hlim
    have tabB : ∀ p ∈ cs, TabB (hidT s₁.heap H) mg p.1 p.2 := by
      intro p hp
      have tp := hT p hp
      obtain ⟨og, esg, epg, eg, dg, _⟩ := id hns
      refine ⟨?_, ?_, ?_⟩
      · obtain ⟨o, us, file, tf, flags, tg, inF, text, tt, e1, r1, r2, r3, rest⟩ := hC p hp
        refine ⟨o, us, file, tf, flags, tg, inF, text, tt, hidT_get e1 (plain e1 ?_ ?_), r1, r2, r3, rest⟩
        · intro vs n z
          rw [r2] at z
          cases z
        · intro z
          rw [r2] at z
          cases z
          simp at r3
      · obtain ⟨bm, ob, b1, b2, b3, b4, b5, b6⟩ := hbm
        have nG : bm ≠ mainGlobals := by
          intro q
          rw [q, eg] at b3
          cases b3
          rw [dg] at b6
          cases b6
        have nP : bm ≠ p.2 := by
          intro q
          rw [q, tp] at b3
          cases b3
          cases b6
        refine ⟨bm, ob, b1, b2, nG, nP, hidT_get b3 (plain b3 ?_ ?_), b4, b5, b6⟩
        · intro vs n z
          rw [b6] at z
          cases z
        · intro z
          rw [b6] at z
          cases z
      · intro z
        rw [z, tp] at eg
        cases eg
        cases dg
    have e0 : Env0 P w K mg (hidT s₁.heap H) callerA [] s₁ H := by
      refine ⟨rfl, ⟨kinB, nsB hns, ⟨mb, nsB hb, hbb⟩, ⟨mc, nsB l1, l2⟩⟩, fun b o e => of_hidT e, Nat.le_of_eq (hidT_size _ _), trivial, (fun b z => nomatch z), hok, .of_eq hg⟩
    refine codeAny_mono ((F _ kinB (nsB hns) tabB).run callerA [] s₁ H ⟨[.ref a], []⟩ [.ref a] [.ref a] _ _ hr rfl e0 (hbind s₁ (.ref a)) (.cons rfl .nil) (hsp H hH sq)) ?_
    intro res s' z
    cases res with
    | error er => exact False.elim z
    | ok fl =>
      cases fl with
      | next => exact False.elim z
      | brk => exact False.elim z
      | cont => exact False.elim z
      | ret u =>
        obtain ⟨v, H', os, bare, un, hok', rr, q⟩ := z
        have qv : v = .bl true := q
        subst qv
        cases rr
        have stays : ∀ b o, b ∉ tb → s₁.heap.get? b = some o → s'.heap.get? b = some o := by
          intro b o nb e
          cases q : H b with
          | none => exact un.keep b o e q (fun z => nomatch z) (fun z => nomatch z)
          | some u =>
            rcases hO b nb with n | ⟨ob, xs, n⟩
            · rw [q] at n
              cases n
            · obtain ⟨e1, _⟩ := hok b _ n
              obtain ⟨e2, _⟩ := hok' b _ (un.frzs b ob _ n)
              rw [e] at e1
              cases e1
              exact e2
        have grown : ∀ p ∈ cs, ∃ more : Array Value, s'.heap.get? p.2 = some { cls := .none, data := .fields more } := by
          intro p hp
          obtain ⟨more, z⟩ := un.tbls p.2 #[] (hH p hp)
          exact ⟨_, hok' p.2 _ z⟩
        refine ⟨rfl, ⟨fun b o e => ?_, fun b o e => ?_⟩, os, bare⟩
        · by_cases nb : b ∈ tb
          · obtain ⟨p, hp, rfl⟩ := List.mem_map.mp nb
            obtain ⟨more, hm⟩ := grown p hp
            rw [hT p hp] at e
            cases e
            exact .inr (.inl ⟨((hC p hp).tab (hT p hp)).isCodeTable, rfl, #[], more, rfl, by rw [Array.empty_append]; exact hm⟩)
          · exact .inl (stays b o nb e)
        · by_cases nb : b ∈ tb
          · obtain ⟨p, hp, rfl⟩ := List.mem_map.mp nb
            obtain ⟨more, hm⟩ := grown p hp
            exact ⟨_, hm⟩
          · exact ⟨o, stays b o nb e⟩
  cases hk : K.lookup a with
  | some o =>
    have e := KX a o hk
    rw [ha] at e
    cases e
    refine go (fun b => if b ∈ tb then some (.tbl #[]) else none) (fun p hp => if_pos (tbI p hp)) (fun b nb => .inl (if_neg nb)) (.inr ⟨_, vs.toArray, _, hk, rfl, rfl, rfl, by rw [List.size_toArray, lenV]; exact hl, by simpa using rv⟩) (fun b u z => ?_) (fun b z => ?_) (fun z => absurd (if_neg aN) z)
    · by_cases nb : b ∈ tb
      · have z' := (if_pos nb).symm.trans z
        cases z'
        exact tbE b nb
      · have z' := (if_neg nb).symm.trans z
        cases z'
    · by_cases nb : b ∈ tb
      · exact .inr nb
      · exact absurd (if_neg nb) z
  | none =>
    refine go (fun b => if b = a then some (.frz { cls := .type "list", data := .seq vs.toArray } (.lst (ns.map V.int))) else if b ∈ tb then some (.tbl #[]) else none) (fun p hp => ?_) (fun b nb => ?_) (.inl (.inr ⟨_, if_pos rfl⟩)) (fun b u z => ?_) (fun b z => ?_) (fun _ => hk)
    · have np : ¬ p.2 = a := fun z => aN (z ▸ tbI p hp)
      rw [if_neg np, if_pos (tbI p hp)]
    · by_cases e : b = a
      · exact .inr ⟨_, _, if_pos e⟩
      · refine .inl ?_
        rw [if_neg e, if_neg nb]
    · by_cases e : b = a
      · have z' := (if_pos e).symm.trans z
        cases z'
        subst e
        exact ⟨ha, by rw [List.length_map]; exact hl, vs, _, rv, ha⟩
      · have z1 := (if_neg e).symm.trans z
        by_cases nb : b ∈ tb
        · have z' := (if_pos nb).symm.trans z1
          cases z'
          exact tbE b nb
        · have z' := (if_neg nb).symm.trans z1
          cases z'
    · by_cases e : b = a
      · exact .inl e
      · by_cases nb : b ∈ tb
        · exact .inr nb
        · refine absurd ?_ z
          rw [if_neg e, if_neg nb]
/-- what is known of the law's promise at the head's heap h -/
def LawG (l : PySem.W.OpenLaw) (w : World) (K : PySem.W.Frag) (k n : Nat) (x : Str) (mg : Str → Option Value) (fa : Addr) (h : Heap) : Prop :=
  ∃ (fd : FuncData) (cs : List (Addr × Addr)) (sp : Sp), (∀ p ∈ cs, h.get? p.2 = some { cls := .none, data := .fields #[] }) ∧ (∀ p ∈ cs, K.lookup p.2 = none) ∧ (∀ p ∈ cs, PySem.W.CodeHd h p.1 p.2) ∧
    (∀ (s : Shared) (u : Value), BindsTo s fd ⟨[u], []⟩ [(x, u)]) ∧
    (∀ (H : Hp) (a : Addr) (ns : List Int), ns.length ≤ n → (∀ p ∈ cs, H p.2 = some (.tbl #[])) → SqL K H a (ns.map V.int) → sp [.ref a] H (fun v _ => v = .bl true) fun _ _ _ => False) ∧
    ∀ base : Heap, K.In base → base.Ns mainGlobals mg → (∀ p ∈ cs, TabB base mg p.1 p.2) → FnG l.prog w K mg base CX0 k fa fd [x] sp
theorem walk_GT {l : PySem.W.OpenLaw} {n k : Nat} {q : Program} {loose : List Str} {XP : (Str → Option Value) → Heap → Prop} {YP : World → Heap → Prop} {d : DefRec} {K : Params → PySem.W.Frag} {x : Str}
    (hn : l.most = some n) (hn2 : n ≤ sizeLine) (hdf : d.params.defaults = []) (hr : Room k callerA) (hY : ∀ (w : World) (h : Heap), YP w h → (K w.params).In h)
    (F : ∀ (w : World) (mg : Str → Option Value) (fa : Addr) (h : Heap), (K w.params).In h → h.Ns mainGlobals mg → mg d.name = some (.ref fa) →
      (∀ (d : DefRec) (x : Str) (c P : Addr), (recsOf q).find? (fun e => e.name == x) = some d → PySem.W.tabIn (K w.params) x = some (c, P) → PySem.W.CodeHd h c P ∧ h.get? P = some { cls := .none, data := .fields #[] }) → LawG l w (K w.params) k n x mg fa h) :
    PySem.W.WalkO q loose XP YP l.row.toRowW d [] (fun f vs => PySem.call f vs) := by
  refine Att.attach_callB hn hdf ?_
  intro w s₀ s₁ mg mb fa o pm cd doc a vs ns G Y ho hd hcd hmg hobj hints hlen hbits hgen
  have KX := hY w _ Y
  obtain ⟨fd, cs, sp, hT, nT, hC, hb, hsp, hF⟩ := F w mg fa _ KX G.T.g hmg fun d x c P h1 h2 => PySem.W.tab_of G.T KX h1 h2
  exact law_callGT KX G.T.g G.T.b G.T.builtins G.T.nolimit hgen hT nT hC G.T.bmain hobj hints (Nat.le_trans hlen hn2) hr hF hb fun H hH hS => hsp H a ns hlen hH hS
end VK

namespace VK
open PySem PySem.VK PySem.Spec PyProof.Rows L2
/-! ## tables: the data and the promises -/
theorem FnG.by_bodyC {P : Program} {w : World} {K : PySem.W.Frag} {mg : Str → Option Value} {base : Heap} {k : Nat} {f : Addr} {fd : FuncData} {N ps : List Str} {sp : Sp} {nm qual : Str} {st : Stmt} (F : Fun K nm qual st f fd) (S : FnScope N ps (defScope st)) (len : ∀ vs H Q E, sp vs H Q E → vs.length = ps.length)
    (hbody : ∀ (A : Around) (outer : List Env) (s : Shared) (H : Hp) (vs : List V) (Q : VK) (E : XK),
      Room k (A.deeper (envOfC qual (defScope st) s.heap.objs.size f fd.code)) → (A.deeper (envOfC qual (defScope st) s.heap.objs.size f fd.code)).guards = some [] → sp vs H Q E →
      ∃ t, PSs (cxOf CX0 P w K mg base N qual (defScope st) f fd.code A outer s H E).nox (defBody st) t ∧ t { nx := fun _ H' => Q .non H', rt := Q } (start N vs) H) :
    FnG P w K mg base CX0 (k + 1) f fd ps sp := by
  obtain ⟨oc, od, kV, doc, pm, an, cdv, ct, osl, rfl, lk, hcd⟩ := F.ex
  refine ⟨len, ?_⟩
  intro A outer s H args us vs Q E room gu e0 hb vals hsp
  have kin : K.In s.heap := e0.mod.kin.keeps fun b o z => (e0.bs b o z).1
  have nolim : s.heap.NoLimit := e0.mod.nolimit.keeps fun b o z => (e0.bs b o z).1
  have kinds : ∀ y ∈ ps.zip us, (defScope st).names.lookup y.1 = some .local ∨ ((defScope st).names.lookup y.1 = some .cell ∧ ((cellsFrom (s.heap.objs.size + 1) (defScope st).names []).lookup y.1).isSome = true) := by
    rintro ⟨n, v⟩ hy
    rcases S.par n (List.of_mem_zip hy).1 with z | z
    · exact Or.inl z
    · exact Or.inr ⟨z, PySem.W.cellsFrom_some _ _ _ (Or.inl z)⟩
  refine codeAny_call_function room.depth (kin _ _ lk) rfl S.co S.gen rfl (PySem.W.codeRec_of kin hcd) (hb _ _ _ _ ?_)
  refine wpAny_newFunctionEnv_cells S.kind kinds fun env henv s1 inn => ?_
  subst henv
  refine ⟨nolim.keeps inn.toInCall.keep, codeAny_func ?_⟩
  obtain ⟨t, ht0, hq⟩ := hbody A outer s H vs Q E (room.deeper _) gu hsp
  have ht := ht0.nox
  have J : Inv (cxOf CX0 P w K mg base N qual (defScope st) f cdv A outer s H E) [] (start N vs) H s1 := inv_start S room.hd e0 (len _ _ _ _ hsp) vals inn
  refine wpAny_mono (ht.run [] s1 (start N vs) H _ J hq) ?_ fun e s' z => z
  intro fl s' z
  cases fl with
  | ret u =>
    obtain ⟨v, σ', H', J', rv, q⟩ := z
    exact ⟨v, H', J'.os, J'.bare, J'.base, J'.hok, rv, q⟩
  | next =>
    obtain ⟨σ', H', J', q⟩ := z
    exact ⟨V.non, H', J'.os, J'.bare, J'.base, J'.hok, rfl, q⟩
  | brk =>
    obtain ⟨_, _, _, q⟩ := z
    exact False.elim q
  | cont =>
    obtain ⟨_, _, _, q⟩ := z
    exact False.elim q
/-- a def at hand -/
structure Ld (P : Program) (w : World) (K : PySem.W.Frag) (mg : Str → Option Value) (base : Heap) (nm : Str) (k : Nat) (f : Addr) (fd : FuncData) (ps : List Str) (sp : Sp) : Prop where
  G : FnOk P w K mg base CX0 k f fd ps sp
  b : Binds K fd ps []
  g : mg nm = some (.ref f)
  k : PySem.W.keepIn K (.ref f) = true
theorem st_ev {σ : L2.St} {te : TE} {vs : List V} {i : Nat} {u : TS} {D : Ends} {H : Hp} (h : EvL te σ H vs) (k : ∀ p H1, Same H H1 → H1 p = some (.lst vs) → u D (σ.set i (some (.ref p))) H1) : tSeq (tAsg te (gName i)) u D σ H := by
  show te σ H (fun x H1 => u D (σ.set i (some x)) H1)
  exact h H _ (Same.refl _) k
theorem pi_or {X : Cx} {tg l : Expr} {t1 t2 : TI} (h1 : PI X tg l t1) (h2 : PI X tg l t2) : PI X tg l (fun σ H R => t1 σ H R ∨ t2 σ H R) :=
  ⟨fun pins s σ H R I h => h.elim (fun z => h1.run pins s σ H R I z) fun z => h2.run pins s σ H R I z⟩
/-! ### what a value is -/
def isI : PyData → Bool
  | .int _ => true
  | _ => false
def isIB : PyData → Bool
  | .int _ => true
  | .bool _ => true
  | _ => false
def isB : PyData → Bool
  | .bool _ => true
  | _ => false
def isP : PyData → Bool
  | .none => true
  | .int i => decide (0 ≤ i)
  | _ => false
def btw (d : PyData) (lo hi : Int) : Bool := match d with
  | .int i => decide (lo ≤ i) && decide (i ≤ hi)
  | _ => false
def tyN : PyData → String
  | .none => "NoneType"
  | .bool _ => "bool"
  | .int _ => "int"
  | .str _ => "str"
  | .list _ => "list"
  | .tuple _ => "tuple"
  | .dict _ => "dict"
theorem Dt.ty {K : PySem.W.Frag} {H : Hp} {v : V} {d : PyData} (h : Dt H v d) : TyX K H v (.type (tyN d)) := by
  cases h with
  | non => exact .base .non
  | bl b => exact .base (.bl b)
  | int i => exact .base (.int i)
  | str x => exact .base (.str x)
  | lst h _ => exact .base (.lst h)
  | tup h _ => exact .base (.tup h)
  | dct h _ => exact .base (.dK h)
theorem kit_int {K : PySem.W.Frag} (d : PyData) : PySem.W.kitOne K (.type (tyN d)) (.type "int") = some (isIB d) := by
  cases d
  · exact kit_ty (a := "NoneType") (b := "int") (r := false) (by decide +kernel)
  · exact kit_ty (a := "bool") (b := "int") (r := true) (by decide +kernel)
  · exact kit_ty (a := "int") (b := "int") (r := true) (by decide +kernel)
  · exact kit_ty (a := "str") (b := "int") (r := false) (by decide +kernel)
  · exact kit_ty (a := "list") (b := "int") (r := false) (by decide +kernel)
  · exact kit_ty (a := "tuple") (b := "int") (r := false) (by decide +kernel)
  · exact kit_ty (a := "dict") (b := "int") (r := false) (by decide +kernel)
theorem kit_bool {K : PySem.W.Frag} (d : PyData) : PySem.W.kitOne K (.type (tyN d)) (.type "bool") = some (isB d) := by
  cases d
  · exact kit_ty (a := "NoneType") (b := "bool") (r := false) (by decide +kernel)
  · exact kit_ty (a := "bool") (b := "bool") (r := true) (by decide +kernel)
  · exact kit_ty (a := "int") (b := "bool") (r := false) (by decide +kernel)
  · exact kit_ty (a := "str") (b := "bool") (r := false) (by decide +kernel)
  · exact kit_ty (a := "list") (b := "bool") (r := false) (by decide +kernel)
  · exact kit_ty (a := "tuple") (b := "bool") (r := false) (by decide +kernel)
  · exact kit_ty (a := "dict") (b := "bool") (r := false) (by decide +kernel)
theorem isi_dt {K : PySem.W.Frag} {H : Hp} {v : V} {d : PyData} {T : String} {r : Bool} {Q : VK} (h : Dt H v d) (hk : PySem.W.kitOne K (.type (tyN d)) (.type T) = some r) (q : Q (.bl r) H) : rIsi K [v, .ty T] H Q :=
  ⟨v, .ty T, _, .type T, r, rfl, .ty T, h.ty, hk, q⟩
/-- a list, asked for (list, tuple) -/
theorem seqC : Paired ClsV [V.ty "list", V.ty "tuple"] [Value.type "list", Value.type "tuple"] := .cons (.ty _) (.cons (.ty _) .nil)
theorem seqK {K : PySem.W.Frag} : PySem.W.kitAny K (.type "list") [Value.type "list", Value.type "tuple"] = some true := kitAny_cons (b := true) (kit_ty (by decide +kernel)) (fun z => nomatch z) (fun _ => rfl)
theorem Fl.dt {H : Hp} {v : V} {d : PyData} (h : Fl v d) : Dt H v d := by
  cases h
  · exact .non
  · exact .bl _
  · exact .int _
  · exact .str _
/-! ### rows of prices -/
/-- lists of prices in a list -/
def RowsAt (H : Hp) (a : Addr) (rows : List (List PyData)) : Prop := ∃ rs : List Addr, H a = some (.lst (rs.map V.ref)) ∧ Paired (fun r ps => ∃ cells, H r = some (.lst cells) ∧ Paired Fl cells ps) rs rows
structure OkRows (n : Nat) (rows : List (List PyData)) : Prop where
  len : rows.length = n
  lo : 1 ≤ n
  hi : n ≤ 5
  row : ∀ ps ∈ rows, ps.length = n ∧ ∀ p ∈ ps, isP p = true
/-- a Table at t -/
def TabAt (C : Addr) (H : Hp) (t : Addr) (rows : List (List PyData)) : Prop := ∃ (dx r : Addr) (rs : List Addr), H t = some (.ins C dx [("_rows", .ref r)]) ∧ H r = some (.tup (rs.map V.ref)) ∧ Paired (fun r ps => ∃ cells, H r = some (.tup cells) ∧ Paired Fl cells ps) rs rows
theorem RowsAt.ext {H H' : Hp} {a : Addr} {rows : List (List PyData)} (h : RowsAt H a rows) (k : ∀ b xs, H b = some (.lst xs) → H' b = some (.lst xs)) : RowsAt H' a rows := by
  obtain ⟨rs, h1, h2⟩ := h
  exact ⟨rs, k _ _ h1, Paired.mapP h2 fun _ _ ⟨c, z, q⟩ => ⟨c, k _ _ z, q⟩⟩
theorem TabAt.ext {C : Addr} {H H' : Hp} {t : Addr} {rows : List (List PyData)} (h : TabAt C H t rows) (k : ∀ b o, H b = some o → (∀ ps, o ≠ .tbl ps) → (∀ kvs, o ≠ .dK kvs) → H' b = some o) : TabAt C H' t rows := by
  obtain ⟨dx, r, rs, h1, h2, h3⟩ := h
  exact ⟨dx, r, rs, k _ _ h1 (fun _ z => nomatch z) (fun _ z => nomatch z), k _ _ h2 (fun _ z => nomatch z) (fun _ z => nomatch z), Paired.mapP h3 fun _ _ ⟨c, z, q⟩ => ⟨c, k _ _ z (fun _ z => nomatch z) (fun _ z => nomatch z), q⟩⟩
/-! ### the promises -/
def spWhole : Sp := fun vs H Q _ => ∃ v d, vs = [v] ∧ Dt H v d ∧ Q (.bl (isI d)) H
def spBtw : Sp := fun vs H Q _ => ∃ v d lo hi, vs = [v, .int lo, .int hi] ∧ Dt H v d ∧ Q (.bl (btw d lo hi)) H
def spIsP : Sp := fun vs H Q _ => ∃ v d, vs = [v] ∧ Dt H v d ∧ Q (.bl (isP d)) H
def spLetter : Sp := fun vs H Q _ => ∃ v d k, vs = [v, .int k] ∧ Dt H v d ∧ Q (.bl (btw d 0 (k - 1))) H
/-- are_prices, are_rows of what fits -/
def spPrices : Sp := fun vs H Q _ => ∃ (a : Addr) (cells : List V) (ps : List PyData) (n : Nat), vs = [.ref a, .int n] ∧ H a = some (.lst cells) ∧ Paired Fl cells ps ∧ ps.length = n ∧ n ≤ 5 ∧ (∀ p ∈ ps, isP p = true) ∧ ∀ H', Same H H' → Q (.bl true) H'
def spRows : Sp := fun vs H Q _ => ∃ (a : Addr) (n : Nat) (rows : List (List PyData)), vs = [.ref a] ∧ RowsAt H a rows ∧ OkRows n rows ∧ ∀ H', Same H H' → Q (.bl true) H'
def spTInit (C : Addr) : Sp := fun vs H Q _ => ∃ (t a dx : Addr) (n : Nat) (rows : List (List PyData)), vs = [.ref t, .ref a] ∧ H t = some (.ins C dx []) ∧ RowsAt H a rows ∧ OkRows n rows ∧ ∀ H', TabAt C H' t rows → (∀ b o, H b = some o → b ≠ t → H' b = some o) → Q .non H'
def spLetters (C : Addr) : Sp := fun vs H Q _ => ∃ (t : Addr) (rows : List (List PyData)), vs = [.ref t] ∧ TabAt C H t rows ∧ Q (.int rows.length) H
def spPrice (C CN : Addr) : Sp := fun vs H Q E => ∃ (t : Addr) (n : Nat) (rows : List (List PyData)) (x y : V) (dx dy : PyData), vs = [.ref t, x, y] ∧ TabAt C H t rows ∧ OkRows n rows ∧ Dt H x dx ∧ Dt H y dy ∧
  (btw dx 0 ((n : Int) - 1) = true → btw dy 0 ((n : Int) - 1) = true → ∀ (i j : Nat) (ps : List PyData) (p : PyData) (v : V) (H' : Hp), dx = .int i → dy = .int j → rows[i]? = some ps → ps[j]? = some p → Fl v p → Same H H' → Q v H') ∧
  (btw dx 0 ((n : Int) - 1) = false → ∀ d H', Same H H' → H' d = some (.xd [("value", x)]) → E (.ref CN) (some d) H') ∧
  (btw dx 0 ((n : Int) - 1) = true → btw dy 0 ((n : Int) - 1) = false → ∀ d H', Same H H' → H' d = some (.xd [("value", y)]) → E (.ref CN) (some d) H')
/-! ### o.m(k = v, ..) -/
section
variable {X : Cx} {CXa : CXT} {k : Nat} {f C : Addr} {fd : FuncData} {ps ks : List Str} {sp : Sp} {E : XK} {m : Str} {pos apos : Pos} {o : Expr} {kws : List Keyword} {ta : TE} {tk : TA} {g : List Value → List Value → List Value} {gV : List V → List V → List V}
def tMethK (C : Addr) (m : Str) (sp : Sp) (gV : List V → List V → List V) (E : XK) (ta : TE) (tk : TA) : TE := fun σ H Q => ta σ H fun x H1 => ∃ a dx fs, x = .ref a ∧ H1 a = some (.ins C dx fs) ∧ fs.lookup m = none ∧ tk σ H1 fun zs H2 => sp (gV [.ref a] zs) H2 Q E
theorem pe_methK {pl : Sem Bool} (he : PE X o ta) (c : Cls X.K C) (hm : Meth X.K C m f) (F : FnOk X.prog X.w X.K X.mg X.base CXa k f fd ps sp) (hr : Room k X.A) (hb : KBinds X.K fd ps ks g gV) (hx : Passes CXa X E) (hkw : PK X kws tk)
    (hall : (backToKw pos (keywordEach kws X.env)).all (·.1.isSome) = true := by rfl) (hks : (backToKw pos (keywordEach kws X.env)).filterMap (·.1) = ks := by rfl)
    (hpl : ((backTo pos (starEach [] X.env)).any (·.1) || (backToKw pos (keywordEach kws X.env)).any (·.1.isNone)) = false := by rfl)
    (ht : eval (.Call (.Attribute o m apos) [] kws pos) X.env = (do
      let ov ← eval o X.env
      standAt apos.atName
      let (f, first) ← holding [ov] (getMethod ov m pl)
      callWith pos f first (backTo pos (starEach [] X.env)) (backToKw pos (keywordEach kws X.env))) := by rfl) :
    PE X (.Call (.Attribute o m apos) [] kws pos) (tMethK C m sp gV E ta tk) := by
  refine ⟨fun pins s σ H Q I h => ?_⟩
  refine PySem.W.methodCall_KW (pl := pl) (thn (he.run pins s σ H _ I h) fun u s1 ⟨x, H1, I1, rx, a, dx, fs, ex, ea, l, q⟩ => ?_) ht
  subst ex
  obtain rfl : u = Value.ref a := rx
  refine getmeth_ok I1 ea c hm l ?_
  refine PySem.W.callWith_KW0 (first := [.ref a]) (h₀ := X.base) I.ok.mod.kin hm.kp hall ?_ hpl
  refine thn (hkw.run pos pins s1 σ H1 _ I1 q) fun ws s2 ⟨zs, H2, I2, rz, q2⟩ => ⟨I2.kIn, ?_⟩
  rw [hks]
  exact run_fnk (us := [.ref a]) (vs := [.ref a]) F hr hb hx I2 (.cons rfl .nil) rz q2
end
/-- a def that may raise, called where it doesn't -/
theorem passN {X : Cx} {P : Program} {w : World} : Passes (L2.CX P w) X E0 := fun _ _ _ _ _ _ _ h => by
  obtain ⟨_, _, _, _, _, _, _, _, _, _, _, _, z⟩ := h
  exact z.elim
theorem Paired.atL {α β : Type} {R : α → β → Prop} : ∀ {as : List α} {bs : List β} {i : Nat} {a : α}, Paired R as bs → as[i]? = some a → ∃ b, bs[i]? = some b ∧ R a b
  | _, _, i, _, .nil, e => by simp at e
  | _, _, 0, _, .cons r _, e => by
    simp only [List.getElem?_cons_zero, Option.some.injEq] at e
    subst e
    exact ⟨_, rfl, r⟩
  | _, _, i + 1, _, .cons _ t, e => by
    obtain ⟨b, h1, h2⟩ := Paired.atL (i := i) t (by simpa using e)
    exact ⟨b, by simpa using h1, h2⟩
theorem Paired.atR {α β : Type} {R : α → β → Prop} : ∀ {as : List α} {bs : List β} {i : Nat} {b : β}, Paired R as bs → bs[i]? = some b → ∃ a, as[i]? = some a ∧ R a b
  | _, _, i, _, .nil, e => by simp at e
  | _, _, 0, _, .cons r _, e => by
    simp only [List.getElem?_cons_zero, Option.some.injEq] at e
    subst e
    exact ⟨_, rfl, r⟩
  | _, _, i + 1, _, .cons _ t, e => by
    obtain ⟨b, h1, h2⟩ := Paired.atR (i := i) t (by simpa using e)
    exact ⟨b, by simpa using h1, h2⟩
section
variable {X : Cx} {K : PySem.W.Frag}
def rLenK (K : PySem.W.Frag) : List V → Hp → VK → Prop := fun xs H Q => ∃ p ys, xs = [.ref p] ∧ (SqL K H p ys ∨ SqT K H p ys) ∧ Q (.int ys.length) H
theorem call_lenK (hK : X.K = K) : CallR X (.builtin "len") (rLenK K) := by
  subst hK
  exact call_len_seq
def rTupK (K : PySem.W.Frag) : List V → Hp → VK → Prop := fun xs H Q => ∃ p ys, xs = [.ref p] ∧ ((SqL K H p ys ∧ ∀ l, H l = none → Q (.ref l) (upd H l (.tup ys))) ∨ (SqT K H p ys ∧ Q (.ref p) H))
theorem call_tupK (hK : X.K = K) : CallR X (.type "tuple") (rTupK K) := by
  subst hK
  exact call_tuple_of
end
/-- what the walk asks of the class Table as the top has made it -/
structure Tt (K : PySem.W.Frag) (mg : Str → Option Value) (C : Addr) : Prop where
  cl : Cls K C
  nR : NoAttr K C "_rows"
  g : mg "Table" = some (.ref C)
  ml : ∃ mc u, ClX.CRead K C mc ∧ ClX.CVal K C mc "MOST_LETTERS" (.int 5) u
theorem Paired.app {α β : Type} {R : α → β → Prop} : ∀ {as as' : List α} {bs bs' : List β}, Paired R as bs → Paired R as' bs' → Paired R (as ++ as') (bs ++ bs')
  | _, _, _, _, .nil, h => h
  | _, _, _, _, .cons r t, h => .cons r (Paired.app t h)
theorem pair_mem {α β : Type} {R S : α → β → Prop} : ∀ {as : List α} {bs : List β}, Paired R as bs → (∀ a b, a ∈ as → R a b → S a b) → Paired S as bs
  | _, _, .nil, _ => .nil
  | _, _, .cons r t, h => .cons (h _ _ List.mem_cons_self r) (pair_mem t fun a b m => h a b (List.mem_cons_of_mem _ m))
end VK

namespace VK
open PySem PySem.Spec PyProof.Rows L2
def topS (i : Nat) : Stmt := PySem.Challenge.pw_echofold_k04_prices_of_pairs.main.body.getD i (.Pass ⟨0, 0, 0, 0⟩)
abbrev sPen : Stmt := topS 31
abbrev sDraw : Stmt := topS 32
/-! ## the pen -/
def penK (c : Addr) (t r : Int) : List (Key × V) := [(Sum.inr "cells", .ref c), (Sum.inr "turn", .int t), (Sum.inr "rest", .int r)]
structure PenAt (H : Hp) (p c : Addr) (ns : List Int) (t r : Int) : Prop where
  d : H p = some (.dK (penK c t r))
  l : H c = some (.lst (ns.map V.int))
theorem pen_cells (c : Addr) (t r : Int) : valV (penK c t r) (Sum.inr "cells") = some (.ref c) := rfl
theorem pen_turn (c : Addr) (t r : Int) : valV (penK c t r) (Sum.inr "turn") = some (.int t) := rfl
theorem pen_rest (c : Addr) (t r : Int) : valV (penK c t r) (Sum.inr "rest") = some (.int r) := rfl
theorem pen_put_turn (c : Addr) (t r t' : Int) : putK (penK c t r) (Sum.inr "turn") (.int t') = penK c t' r := rfl
theorem pen_put_rest (c : Addr) (t r r' : Int) : putK (penK c t r) (Sum.inr "rest") (.int r') = penK c t r' := rfl
theorem PenAt.g_cells {H : Hp} {p c : Addr} {ns : List Int} {t r : Int} (h : PenAt H p c ns t r) : DGet H p (.str "cells") (some (.ref c)) := DGet.k (k := Sum.inr "cells") h.d
theorem PenAt.g_turn {H : Hp} {p c : Addr} {ns : List Int} {t r : Int} (h : PenAt H p c ns t r) : DGet H p (.str "turn") (some (.int t)) := DGet.k (k := Sum.inr "turn") h.d
theorem PenAt.g_rest {H : Hp} {p c : Addr} {ns : List Int} {t r : Int} (h : PenAt H p c ns t r) : DGet H p (.str "rest") (some (.int r)) := DGet.k (k := Sum.inr "rest") h.d
theorem PenAt.p_turn {H : Hp} {p c : Addr} {ns : List Int} {t r : Int} (t' : Int) (h : PenAt H p c ns t r) : DPut H p (.str "turn") (.int t') (upd H p (.dK (penK c t' r))) := DPut.k (k := Sum.inr "turn") h.d (by show 3 < sizeLine; decide)
theorem PenAt.p_rest {H : Hp} {p c : Addr} {ns : List Int} {t r : Int} (r' : Int) (h : PenAt H p c ns t r) : DPut H p (.str "rest") (.int r') (upd H p (.dK (penK c t r'))) := DPut.k (k := Sum.inr "rest") h.d (by show 3 < sizeLine; decide)
theorem PenAt.ne {H : Hp} {p c : Addr} {ns : List Int} {t r : Int} (h : PenAt H p c ns t r) : c ≠ p := ne_of h.l h.d (by intro z; cases z)
theorem PenAt.upd {H : Hp} {p c : Addr} {ns : List Int} {t r : Int} (t' r' : Int) (h : PenAt H p c ns t r) : PenAt (upd H p (.dK (penK c t' r'))) p c ns t' r' := ⟨upd_same, by rw [upd_ne h.ne]; exact h.l⟩
structure PenT (mg : Str → Option Value) : Prop where
  n_list : mg "list" = none
  n_int : mg "int" = none
  n_len : mg "len" = none
  n_abs : mg "abs" = none
/-- pen(script) -/
def spPen (K : PySem.W.Frag) : Sp := fun vs H Q _ => ∃ (a : Addr) (ns : List Int), vs = [.ref a] ∧ SqL K H a (ns.map V.int) ∧ ns.length ≤ 63 ∧ ∀ p c H', H p = none → H c = none → PenAt H' p c ns 0 0 → Same H H' → Q (.ref p) H'
/-- draw(pen, size) -/
def spDraw : Sp := fun vs H Q _ => ∃ (p c : Addr) (ns : List Int) (t r z : Int), vs = [.ref p, .int z] ∧ PenAt H p c ns t r ∧ ns.length ≤ 63 ∧ 0 ≤ t ∧ t < 1000000000 ∧ 0 ≤ r ∧ 0 < z ∧ z < 1000000000000 ∧
  ∀ (i t' r' : Int) (H' : Hp), 0 ≤ i → i < z → t ≤ t' → t' ≤ t + 1 → 0 ≤ r' → PenAt H' p c ns t' r' → (∀ b o, H b = some o → b ≠ p → H' b = some o) → Q (.int i) H'
theorem same_new {H : Hp} {p : Addr} {o : HO} (h : H p = none) : Same H (upd H p o) := fun b u z => by
  rw [upd_ne (ne_of_none z h)]
  exact z
theorem cut63 {xs : List V} (h : xs.length ≤ 63) : cutV xs none (some 63) = xs := by
  unfold cutV
  show (xs.drop (HT.sIx xs.length 0 none)).take (HT.sIx xs.length xs.length (some 63) - HT.sIx xs.length 0 none) = xs
  have e0 : HT.sIx xs.length 0 none = 0 := rfl
  have e1 : HT.sIx xs.length xs.length (some 63) = xs.length := by
    unfold HT.sIx
    simp
    omega
  rw [e0, e1]
  simp
theorem div_ok {i z : Int} (h0 : 0 < z) (h1 : z < 1000000000000) : CDivW i z := wide_div (b := 40) h0 (by omega) (by omega) (by omega)
theorem dpAll_int {K : PySem.W.Frag} {H : Hp} : ∀ ns : List Int, DpAll K H (ns.map V.int) (ns.map PyData.int)
  | [] => .nil
  | n :: ns => .cons (.int n) (dpAll_int ns)
theorem shaped_int (ns : List Int) : SeqAt.shaped (.list (ns.map PyData.int)) = true := PySem.W.ke_shaped_ints ns
theorem at_mod (ns : List Int) (t : Int) (h : (0 : Int) < ((ns.map V.int).length : Int)) : ∃ v, atI (ns.map V.int) (t % ((ns.map V.int).length : Int)) = some (.int v) := by
  have h1 := Int.emod_nonneg t (show ((ns.map V.int).length : Int) ≠ 0 by omega)
  have h2 := Int.emod_lt_of_pos t h
  obtain ⟨j, hj⟩ : ∃ j : Nat, t % ((ns.map V.int).length : Int) = (j : Int) := ⟨(t % ((ns.map V.int).length : Int)).toNat, by omega⟩
  rw [hj] at h2 ⊢
  rw [List.length_map] at h2
  have hjl : j < ns.length := by omega
  refine ⟨ns[j], atI_nat ?_⟩
  rw [List.getElem?_map, List.getElem?_eq_getElem hjl]
  rfl
theorem prime_at (t : Int) : ∃ v : Int, atI [V.int 2147483629, .int 2147483647, .int 2147483563, .int 2147483587, .int 2147483579] (t % 5) = some (.int v) ∧ 0 < v ∧ v ≤ 2147483647 := by
  have h1 := Int.emod_nonneg t (show (5 : Int) ≠ 0 by decide)
  have h2 := Int.emod_lt_of_pos t (show (0 : Int) < 5 by decide)
  have h3 : t % 5 = 0 ∨ t % 5 = 1 ∨ t % 5 = 2 ∨ t % 5 = 3 ∨ t % 5 = 4 := by omega
  rcases h3 with e | e | e | e | e <;> rw [e]
  · exact ⟨_, rfl, by decide, by decide⟩
  · exact ⟨_, rfl, by decide, by decide⟩
  · exact ⟨_, rfl, by decide, by decide⟩
  · exact ⟨_, rfl, by decide, by decide⟩
  · exact ⟨_, rfl, by decide, by decide⟩
section
variable {P : Program} {w : World} {K : PySem.W.Frag} {mg : Str → Option Value} {base : Heap}
theorem scPen : FnScope ["_law_script"] ["_law_script"] (defScope sPen) := ⟨rfl, rfl, rfl, by decide +kernel, rfl, by decide +kernel, by decide +kernel⟩
theorem ok_pen {f : Addr} {fd : FuncData} (F : Fun K "_law_pen" "_law_pen" sPen f fd) (T : PenT mg) : FnOk P w K mg base CX0 1 f fd ["_law_script"] (spPen K) := by
  refine F.ok scPen (fun vs H Q E h => ?_) (fun cdv A outer s H vs Q E hr h => ?_)
  · obtain ⟨a, ns, rfl, _⟩ := h
    rfl
  · obtain ⟨a, ns, rfl, hS, hl, k⟩ := h
    have hu := hu_of hr
    refine ⟨_, (pss_one (ps_ret (pe_disp (pps_cons pe_str (pe_callTy call_list_of (by rfl) T.n_list (by decide +kernel) (pa_cons (pe_slice sl_list (pv 0) po_none (po_some pe_int)) pa_nil)) (pps_cons pe_str pe_int (pps_cons pe_str pe_int pps_nil))) (by rfl) (by rfl) (fun z => by cases z) (by decide)))), ?_⟩
    intro p hp
    have hS1 : SqL K (upd H p (.dK [])) a (ns.map V.int) := (same_new hp).seq hS
    refine ⟨_, rfl, 63, rfl, a, _, rfl, hS1, fun q hq => ?_⟩
    refine ⟨q, _, rfl, Or.inl (SqL.of upd_same), fun l hl1 => ?_⟩
    have e1 : cutV (ns.map V.int) none (some 63) = ns.map V.int := cut63 (by rw [List.length_map]; exact hl)
    rw [e1]
    have npq : p ≠ q := ne_of_none upd_same hq
    have npl : p ≠ l := ne_of_none (show upd (upd H p (.dK [])) q _ p = some _ by rw [upd_ne npq]; exact upd_same) hl1
    have nql : q ≠ l := ne_of_none upd_same hl1
    refine ⟨by rw [upd_ne npl, upd_ne npq]; exact upd_same, [(Sum.inr "cells", .ref l), (Sum.inr "turn", .int 0), (Sum.inr "rest", .int 0)], rfl, by show 3 ≤ 15; decide, ?_⟩
    have hpl : H l = none := by
      rw [upd_ne nql.symm, upd_ne npl.symm] at hl1
      exact hl1
    refine k p l _ hp hpl ⟨upd_same, ?_⟩ fun b o z => ?_
    · rw [upd_ne npl.symm]
      exact upd_same
    · have hq' : H q = none := by
        rw [upd_ne npq.symm] at hq
        exact hq
      rw [upd_ne (ne_of_none z hp), upd_ne (ne_of_none z hpl), upd_ne (ne_of_none z hq'), upd_ne (ne_of_none z hp)]
      exact z
theorem scDraw : FnScope ["_law_pen_here", "_law_size", "_law_digit", "_law_turn", "_law_cell", "_law_primes", "_law_prime", "_law_mixed"] ["_law_pen_here", "_law_size"] (defScope sDraw) := ⟨rfl, rfl, rfl, by decide +kernel, rfl, by decide +kernel, by decide +kernel⟩
theorem ok_draw {f : Addr} {fd : FuncData} (F : Fun K "_law_draw" "_law_draw" sDraw f fd) (T : PenT mg) : FnOk P w K mg base CX0 1 f fd ["_law_pen_here", "_law_size"] spDraw := by
  refine F.ok scDraw (fun vs H Q E h => ?_) (fun cdv A outer s H vs Q E hr h => ?_)
  · obtain ⟨p, c, ns, t, r, z, rfl, _⟩ := h
    rfl
  · obtain ⟨p, c, ns, t, r, z, rfl, pen, hl, ht0, ht1, hr0, hz0, hz1, k⟩ := h
    have hu := hu_of hr
    refine ⟨_, (pss_cons (ps_if (pt_cmpR op_gt (pe_dget hu (pv 0) pe_str (fun _ _ => rfl)) pe_int (nomark _)) (pss_cons (ps_set (i := 2) scDraw.nd rfl (Or.inl rfl) (pe_op op_mod (pe_callTy call_int1 (by rfl) T.n_int (by decide +kernel) (pa_cons (pe_dget hu (pv 0) pe_str (fun _ _ => rfl)) pa_nil)) (pv 1)))
    (pss_cons (ps_dput hu (pv 0) pe_str (pe_op op_fdivW (pe_dget hu (pv 0) pe_str (fun _ _ => rfl)) (pv 1)) rfl)
    (pss_one (ps_ret (pv 2))))) pss_nil)
    (pss_cons (ps_set (i := 3) scDraw.nd rfl (Or.inl rfl) (pe_dget hu (pv 0) pe_str (fun _ _ => rfl)))
    (pss_cons (ps_dput hu (pv 0) pe_str (pe_op op_add (pv 3) pe_int) rfl)
    (pss_cons (ps_set (i := 4) scDraw.nd rfl (Or.inl rfl) (pe_op op_add (pe_op op_mul pe_int (pv 3)) pe_int))
    (Evl.pss_cut (ps_if (pt_cmpR (op_neD hr.units) (pe_dget hu (pv 0) pe_str (fun _ _ => rfl)) (pe_lst pa_nil) (nomark _)) (pss_one (ps_set (i := 4) scDraw.nd rfl (Or.inl rfl) (pe_ix ix_list (pe_dget hu (pv 0) pe_str (fun _ _ => rfl)) (pe_op op_mod (pe_callTy call_int1 (by rfl) T.n_int (by decide +kernel) (pa_cons (pv 3) pa_nil)) (pe_callB call_len_seq (by rfl) T.n_len (by decide +kernel) (pa_cons (pe_dget hu (pv 0) pe_str (fun _ _ => rfl)) pa_nil))) (fun _ _ => rfl)))) pss_nil)
    (Evl.pss_cut (ps_if (PW.pt (pw_and (pt_cmpR op_lt (pv 3) (pe_callB call_len_seq (by rfl) T.n_len (by decide +kernel) (pa_cons (pe_dget hu (pv 0) pe_str (fun _ _ => rfl)) pa_nil)) (nomark _)) (pw_and1 (pt_cmpR op_ge (pe_callB call_abs (by rfl) T.n_abs (by decide +kernel) (pa_cons (pv 4) pa_nil)) (pe_op op_pow pe_int pe_int) (nomark _))))) (pss_cons (ps_dput hu (pv 0) pe_str (pe_op op_fdivW (pe_op op_sub (pe_callB call_abs (by rfl) T.n_abs (by decide +kernel) (pa_cons (pv 4) pa_nil)) (pe_op op_pow pe_int pe_int)) (pv 1)) rfl)
    (pss_one (ps_ret (pe_op op_mod (pe_op op_sub (pe_callB call_abs (by rfl) T.n_abs (by decide +kernel) (pa_cons (pv 4) pa_nil)) (pe_op op_pow pe_int pe_int)) (pv 1))))) pss_nil)
    (pss_cons (ps_set (i := 5) scDraw.nd rfl (Or.inl rfl) (pe_lst (pa_cons pe_int (pa_cons pe_int (pa_cons pe_int (pa_cons pe_int (pa_cons pe_int pa_nil)))))))
    (pss_cons (ps_set (i := 6) scDraw.nd rfl (Or.inl rfl) (pe_ix ix_list (pv 5) (pe_op op_mod (pe_callTy call_int1 (by rfl) T.n_int (by decide +kernel) (pa_cons (pv 3) pa_nil)) pe_int) (fun _ _ => rfl)))
    (pss_cons (ps_set (i := 7) scDraw.nd rfl (Or.inl rfl) (pe_op op_add (pe_op op_add (pe_op op_add (pe_op op_mul (pe_op op_mod (pe_callTy call_int1 (by rfl) T.n_int (by decide +kernel) (pa_cons (pv 4) pa_nil)) pe_int) pe_int) (pe_op op_mul (pe_op op_mul pe_int (pv 3)) (pv 3))) (pe_op op_mul pe_int (pv 3))) pe_int))
    (pss_cons (ps_set (i := 7) scDraw.nd rfl (Or.inl rfl) (pe_op op_mod (pe_callTy call_int1 (by rfl) T.n_int (by decide +kernel) (pa_cons (pv 7) pa_nil)) (pv 6)))
    (pss_cons (ps_set (i := 7) scDraw.nd rfl (Or.inl rfl) (pe_op op_mod (pe_callTy call_int1 (by rfl) T.n_int (by decide +kernel) (pa_cons (pe_op op_add (pe_op op_add (pe_op op_add (pe_op op_mul (pv 7) (pv 7)) (pe_op op_mul pe_int (pv 7))) (pe_op op_mul pe_int (pv 3))) pe_int) pa_nil)) pe_int))
    (pss_one (ps_ret (pe_op op_mod (pe_callTy call_int1 (by rfl) T.n_int (by decide +kernel) (pa_cons (pe_op op_fdiv (pe_op op_mod (pe_callTy call_int1 (by rfl) T.n_int (by decide +kernel) (pa_cons (pe_op op_mul (pv 7) (pe_op op_add (pv 7) pe_int)) pa_nil)) pe_int) pe_int) pa_nil)) (pv 1))))))))))))))), ?_⟩
    refine ⟨_, rfl, p, _, rfl, pen.g_rest, _, _, rfl, rfl, _, rfl, ?_⟩
    refine ite2 (fun c0 => ?_) (fun c0 => ?_)
    · have c1 : 0 < r := of_decide_eq_true c0
      refine ⟨_, rfl, p, _, rfl, pen.g_rest, .inl ⟨_, rfl, _, rfl, _, _, rfl, rfl, hz0, ?_⟩⟩
      refine ⟨_, rfl, p, _, rfl, pen.g_rest, _, rfl, _, _, rfl, rfl, div_ok hz0 hz1, _, rfl, p, _, rfl, pen.p_rest _, _, rfl, ?_⟩
      exact k (r % z) t (r / z) _ (Int.emod_nonneg _ (by omega)) (Int.emod_lt_of_pos _ hz0) (by omega) (by omega) (Int.ediv_nonneg hr0 (by omega)) (pen.upd _ _) fun b o e hb => by
        rw [upd_ne hb]
        exact e
    · refine ⟨_, rfl, p, _, rfl, pen.g_turn, ?_⟩
      refine ⟨_, rfl, _, _, rfl, rfl, _, rfl, p, _, rfl, pen.p_turn _, ?_⟩
      have pen1 := pen.upd (t + 1) r
      have kp1 : ∀ b o, H b = some o → b ≠ p → upd H p (.dK (penK c (t + 1) r)) b = some o := fun b o e hb => by
        rw [upd_ne hb]
        exact e
      generalize upd H p (.dK (penK c (t + 1) r)) = H1 at pen1 kp1
      refine ⟨_, rfl, _, _, rfl, rfl, .inl ⟨by decide, by decide⟩, _, _, rfl, rfl, ?_⟩
      -- the cell
      refine ⟨fun σ' H' => ∃ cell : Int, σ' = [some (.ref p), some (.int z), none, some (.int t), some (.int cell), none, none, none] ∧ PenAt H' p c ns (t + 1) r ∧ (∀ b o, H b = some o → b ≠ p → H' b = some o), ?_, ?_⟩
      · refine ⟨_, rfl, p, _, rfl, pen1.g_cells, by show 0 ≤ sizeLine; decide, fun q hq => ?_⟩
        have pen2 : PenAt (upd H1 q (.lst [])) p c ns (t + 1) r := ⟨by rw [upd_ne (ne_of_none pen1.d hq)]; exact pen1.d, by rw [upd_ne (ne_of_none pen1.l hq)]; exact pen1.l⟩
        have kp2 : ∀ b o, H b = some o → b ≠ p → upd H1 q (.lst []) b = some o := fun b o e hb => by
          rw [upd_ne (ne_of_none (kp1 b o e hb) hq)]
          exact kp1 b o e hb
        refine ⟨.list (ns.map .int), .list [], .lst (SqL.of pen2.l) (dpAll_int ns), .lst (SqL.of upd_same) .nil, shaped_int ns, by decide, _, rfl, ?_⟩
        cases ns with
        | nil =>
          refine iteF ?_
          exact ⟨_, rfl, pen2, kp2⟩
        | cons n0 nr =>
          refine iteT ?_
          have hlen : (0 : Int) < (((n0 :: nr).map V.int).length : Int) := by rw [List.length_map, List.length_cons]; omega
          obtain ⟨v, hv⟩ := at_mod (n0 :: nr) t hlen
          refine ⟨_, rfl, p, _, rfl, pen2.g_cells, _, rfl, .inl ⟨_, rfl, _, rfl, p, _, rfl, pen2.g_cells, c, _, rfl, .inl (SqL.of pen2.l), _, _, rfl, rfl, hlen, c, _, _, _, rfl, rfl, SqL.of pen2.l, hv, ?_⟩⟩
          exact ⟨v, rfl, pen2, kp2⟩
      · rintro σ' H2 ⟨cell, rfl, pen2, kp2⟩
        have hn : (((ns.map V.int).length : Nat) : Int) ≤ 63 := by rw [List.length_map]; omega
        refine ⟨fun σ' H' => σ' = [some (.ref p), some (.int z), none, some (.int t), some (.int cell), none, none, none] ∧ PenAt H' p c ns (t + 1) r ∧ (∀ b o, H b = some o → b ≠ p → H' b = some o), ?_, ?_⟩
        · refine ⟨_, rfl, _, rfl, p, _, rfl, pen2.g_cells, c, _, rfl, .inl (SqL.of pen2.l), _, _, rfl, rfl, _, rfl, ?_⟩
          refine ite2 (fun _ => ?_) (fun _ => iteF ⟨rfl, pen2, kp2⟩)
          refine ⟨_, rfl, _, rfl, _, _, rfl, rfl, ⟨by decide, by decide, by decide⟩, _, _, rfl, rfl, _, rfl, ?_⟩
          refine ite2 (fun c2 => ?_) (fun _ => ⟨rfl, pen2, kp2⟩)
          have c3 : (10 : Int) ^ (18 : Int).toNat ≤ (if cell < 0 then -cell else cell) := of_decide_eq_true c2
          refine ⟨_, rfl, _, rfl, _, _, rfl, rfl, ⟨by decide, by decide, by decide⟩, _, _, rfl, rfl, _, rfl, _, _, rfl, rfl, div_ok hz0 hz1, _, rfl, p, _, rfl, pen2.p_rest _, ?_⟩
          refine ⟨_, rfl, _, rfl, _, _, rfl, rfl, ⟨by decide, by decide, by decide⟩, _, _, rfl, rfl, _, rfl, _, _, rfl, rfl, hz0, ?_⟩
          refine k _ (t + 1) _ _ (Int.emod_nonneg _ (by omega)) (Int.emod_lt_of_pos _ hz0) (by omega) (by omega) (Int.ediv_nonneg (by omega) (by omega)) (pen2.upd _ _) fun b o e hb => ?_
          rw [upd_ne hb]
          exact kp2 b o e hb
        · rintro σ' H3 ⟨rfl, pen3, kp3⟩
          refine ⟨by show 5 ≤ sizeLine; decide, fun q hq => ?_⟩
          obtain ⟨v, hv, v0, v1⟩ := prime_at t
          have kp4 : ∀ b o, H b = some o → b ≠ p → upd H3 q (.lst [.int 2147483629, .int 2147483647, .int 2147483563, .int 2147483587, .int 2147483579]) b = some o := fun b o e hb => by
            rw [upd_ne (ne_of_none (kp3 b o e hb) hq)]
            exact kp3 b o e hb
          have pen4 : PenAt (upd H3 q (.lst [.int 2147483629, .int 2147483647, .int 2147483563, .int 2147483587, .int 2147483579])) p c ns (t + 1) r := ⟨by rw [upd_ne (ne_of_none pen3.d hq)]; exact pen3.d, by rw [upd_ne (ne_of_none pen3.l hq)]; exact pen3.l⟩
          refine ⟨_, rfl, _, rfl, .inl ⟨_, rfl, _, _, rfl, rfl, by show (0 : Int) < 5; decide, q, _, _, _, rfl, rfl, SqL.of upd_same, hv, ?_⟩⟩
          have a0 := Int.emod_nonneg cell (show (4294967279 : Int) ≠ 0 by decide)
          have a1 := Int.emod_lt_of_pos cell (show (0 : Int) < 4294967279 by decide)
          refine ⟨_, rfl, .inl ⟨_, rfl, _, _, rfl, rfl, by show (0 : Int) < 4294967279; decide, _, _, rfl, rfl, .inr ⟨by decide, by decide⟩, ?_⟩⟩
          refine ⟨_, rfl, _, _, rfl, rfl, .inl ⟨by decide, by decide⟩, _, rfl, _, _, rfl, rfl, .inr ⟨by omega, by omega⟩, _, _, rfl, rfl, ?_⟩
          refine ⟨_, rfl, _, _, rfl, rfl, .inl ⟨by decide, by decide⟩, _, _, rfl, rfl, _, _, rfl, rfl, ?_⟩
          -- below the prime
          refine ⟨_, rfl, .inl ⟨_, rfl, _, rfl, _, _, rfl, rfl, v0, ?_⟩⟩
          generalize hm : (cell % 4294967279 * 69621 + 50021 * t * t + 48271 * t + 19) % v = m
          have m0 : 0 ≤ m := by rw [← hm]; exact Int.emod_nonneg _ (by omega)
          have m1 : m < 2147483647 := by
            rw [← hm]
            have := Int.emod_lt_of_pos (cell % 4294967279 * 69621 + 50021 * t * t + 48271 * t + 19) v0
            omega
          refine ⟨_, rfl, _, rfl, _, _, rfl, rfl, .inl ⟨by omega, by omega⟩, _, rfl, _, _, rfl, rfl, .inl ⟨by decide, by decide⟩, _, _, rfl, rfl, _, rfl, _, _, rfl, rfl, .inl ⟨by decide, by decide⟩, _, _, rfl, rfl, _, _, rfl, rfl, ?_⟩
          refine .inl ⟨_, rfl, _, _, rfl, rfl, by show (0 : Int) < 4294967231; decide, ?_⟩
          generalize hl : (m * m + 40692 * m + 11 * t + 3) % 4294967231 = l
          have l0 : 0 ≤ l := by rw [← hl]; exact Int.emod_nonneg _ (by decide)
          have l1 : l < 4294967231 := by rw [← hl]; exact Int.emod_lt_of_pos _ (by decide)
          refine ⟨_, rfl, _, rfl, _, _, rfl, rfl, _, _, rfl, rfl, .inl ⟨by omega, by omega⟩, .inl ⟨_, rfl, _, _, rfl, rfl, by show (0 : Int) < 4294967197; decide, _, _, rfl, rfl, ⟨by decide, by decide⟩, .inl ⟨_, rfl, _, rfl, _, _, rfl, rfl, hz0, ?_⟩⟩⟩
          exact k _ (t + 1) r _ (Int.emod_nonneg _ (by omega)) (Int.emod_lt_of_pos _ hz0) (by omega) (by omega) hr0 pen4 kp4
end

/-! ## pick -/
abbrev sPick : Stmt := topS 33
def spPick : Sp := fun vs H Q _ => ∃ (p c o : Addr) (ns : List Int) (t r : Int) (xs : List V), vs = [.ref p, .ref o] ∧ PenAt H p c ns t r ∧ ns.length ≤ 63 ∧ 0 ≤ t ∧ t < 1000000000 ∧ 0 ≤ r ∧ H o = some (.lst xs) ∧ 0 < xs.length ∧ xs.length ≤ 1000 ∧
  ∀ (v : V) (t' r' : Int) (H' : Hp), v ∈ xs → t ≤ t' → t' ≤ t + 1 → 0 ≤ r' → PenAt H' p c ns t' r' → (∀ b o, H b = some o → b ≠ p → H' b = some o) → Q v H'
section
variable {P : Program} {w : World} {K : PySem.W.Frag} {mg : Str → Option Value} {base : Heap}
theorem scPick : FnScope ["_law_pen_here", "_law_options"] ["_law_pen_here", "_law_options"] (defScope sPick) := ⟨rfl, rfl, rfl, by decide +kernel, rfl, by decide +kernel, by decide +kernel⟩
theorem ok_pick {f fD : Addr} {fd fdD : FuncData} (F : Fun K "_law_pick" "_law_pick" sPick f fd) (T : PenT mg) (FD : Fun K "_law_draw" "_law_draw" sDraw fD fdD) (bD : Binds K fdD ["_law_pen_here", "_law_size"] [])
    (gD : mg "_law_draw" = some (.ref fD)) (kD : PySem.W.keepIn K (.ref fD) = true) : FnOk P w K mg base CX0 2 f fd ["_law_pen_here", "_law_options"] spPick := by
  have G : FnOk P w K mg base CX0 1 fD fdD ["_law_pen_here", "_law_size"] spDraw := ok_draw FD T
  refine F.ok scPick (fun vs H Q E h => ?_) (fun cdv A outer s H vs Q E hr h => ?_)
  · obtain ⟨p, c, o, ns, t, r, xs, rfl, _⟩ := h
    rfl
  · obtain ⟨p, c, o, ns, t, r, xs, rfl, pen, hl, h0, h1, hr0, ho, hx0, hx1, k⟩ := h
    have hr1 : Room 1 _ := hr.mono (by decide)
    refine ⟨_, (pss_one (ps_ret (pe_ix ix_list (pv 1) (pe_call G hr1 rfl gD kD bD .nil pass0 (pa_cons (pv 0) (pa_cons (pe_callB call_len_seq (by rfl) T.n_len (by decide +kernel) (pa_cons (pv 1) pa_nil)) pa_nil))) (fun _ _ => rfl)))), ?_⟩
    refine ⟨_, rfl, _, rfl, _, rfl, o, _, rfl, .inl (SqL.of ho), p, c, ns, t, r, _, rfl, pen, hl, h0, h1, hr0, by omega, by omega, fun i t' r' H' i0 i1 t0 t1 r0 pen' kp => ?_⟩
    have hop : o ≠ p := ne_of ho pen.d (by intro z; cases z)
    have ho' := kp o _ ho hop
    obtain ⟨j, hj⟩ : ∃ j : Nat, i = (j : Int) := ⟨i.toNat, by omega⟩
    subst hj
    have hjl : j < xs.length := by omega
    refine ⟨o, xs, _, xs[j], rfl, rfl, SqL.of ho', atI_nat (List.getElem?_eq_getElem hjl), ?_⟩
    exact k _ t' r' H' (List.getElem_mem hjl) t0 t1 r0 pen' kp
end
end VK

namespace VK
open PySem PySem.VK PySem.Spec PyProof.Rows L2
structure Bx (mg : Str → Option Value) : Prop where
  n_isinstance : mg "isinstance" = none
  n_all : mg "all" = none
  n_len : mg "len" = none
  n_tuple : mg "tuple" = none
  n_list : mg "list" = none
  n_int : mg "int" = none
  n_bool : mg "bool" = none
  n_range : mg "range" = none
  n_repr : mg "repr" = none
  n_ValueError : mg "ValueError" = none
  n_super : mg "super" = none
theorem mk_dp {k : Nat} {A : Around} (hr : Room (k + 1) A) : A.depth + 1 < recursionLimit := by have := hr.dp; omega
section
variable {P : Program} {w : World} {K : PySem.W.Frag} {mg : Str → Option Value} {base : Heap}

abbrev sWhole : Stmt := topS 5
theorem scWhole : FnScope ["value"] ["value"] (defScope sWhole) := ⟨rfl, rfl, rfl, by decide +kernel, rfl, by decide +kernel, by decide +kernel⟩
theorem okWhole {f : Addr} {fd : FuncData} (F : Fun K "is_whole" "is_whole" sWhole f fd) (T : Bx mg) : FnOk P w K mg base CX0 1 f fd ["value"] spWhole := by
  refine F.ok scWhole (fun vs H Q E h => ?_) (fun cdv A outer s H vs Q E hr h => ?_)
  · obtain ⟨v, d, rfl, _⟩ := h
    rfl
  · obtain ⟨v, d, rfl, hd, k⟩ := h
    refine ⟨_, (pss_one (ps_ret (pe_and (pe_callB call_isi (by rfl) T.n_isinstance (by decide +kernel) (pa_cons (pv 0) (pa_cons (pe_bltn (v := .ty "int") (by rfl) T.n_int (by decide +kernel) rfl) pa_nil))) (pe_one (pe_not (pe_callB call_isi (by rfl) T.n_isinstance (by decide +kernel) (pa_cons (pv 0) (pa_cons (pe_bltn (v := .ty "bool") (by rfl) T.n_bool (by decide +kernel) rfl) pa_nil)))))))), ?_⟩
    refine ⟨_, rfl, ?_⟩
    refine ⟨v, .ty "int", _, .type "int", _, rfl, .ty "int", hd.ty, kit_int d, _, rfl, ?_⟩
    cases d with
    | int i =>
      refine iteT ?_
      exact ⟨_, rfl, v, .ty "bool", _, .type "bool", _, rfl, .ty "bool", hd.ty, kit_bool _, _, rfl, k⟩
    | bool b =>
      refine iteT ?_
      exact ⟨_, rfl, v, .ty "bool", _, .type "bool", _, rfl, .ty "bool", hd.ty, kit_bool _, _, rfl, k⟩
    | none => exact iteF k
    | str _ => exact iteF k
    | list _ => exact iteF k
    | tuple _ => exact iteF k
    | dict _ => exact iteF k

abbrev sBtw : Stmt := topS 6
theorem scBtw : FnScope ["value", "low", "high"] ["value", "low", "high"] (defScope sBtw) := ⟨rfl, rfl, rfl, by decide +kernel, rfl, by decide +kernel, by decide +kernel⟩
theorem okBtw {f : Addr} {fd : FuncData} (F : Fun K "is_between" "is_between" sBtw f fd) (T : Bx mg) {f1 : Addr} {d1 : FuncData} (G : Ld P w K mg base "is_whole" 1 f1 d1 ["value"] spWhole) : FnOk P w K mg base CX0 2 f fd ["value", "low", "high"] spBtw := by
  refine F.ok scBtw (fun vs H Q E h => ?_) (fun cdv A outer s H vs Q E hr h => ?_)
  · obtain ⟨v, d, lo, hi, rfl, _⟩ := h
    rfl
  · obtain ⟨v, d, lo, hi, rfl, hd, k⟩ := h
    have hr1 := hr.mono (j := 1) (by decide)
    refine ⟨_, (pss_one (ps_ret (pe_and (pe_call G.G hr1 rfl G.g G.k G.b .nil pass0 (pa_cons (pv 0) pa_nil)) (pe_one (pe_chain op_le op_le (pv 1) (pv 0) (pv 2)))))), ?_⟩
    refine ⟨_, rfl, v, d, rfl, hd, _, rfl, ?_⟩
    cases d with
    | int i =>
      cases hd with
      | int i =>
        refine iteT ⟨_, rfl, _, rfl, _, _, rfl, rfl, _, rfl, ?_⟩
        by_cases e : lo ≤ i
        · rw [decide_eq_true e]
          refine iteT ⟨_, rfl, _, _, rfl, rfl, ?_⟩
          have z : btw (.int i) lo hi = decide (i ≤ hi) := by
            show (decide (lo ≤ i) && decide (i ≤ hi)) = _
            rw [decide_eq_true e, Bool.true_and]
          rw [z] at k
          exact k
        · rw [decide_eq_false e]
          have z : btw (.int i) lo hi = false := by
            show (decide (lo ≤ i) && decide (i ≤ hi)) = _
            rw [decide_eq_false e, Bool.false_and]
          rw [z] at k
          exact iteF k
    | bool b => exact iteF k
    | none => exact iteF k
    | str _ => exact iteF k
    | list _ => exact iteF k
    | tuple _ => exact iteF k
    | dict _ => exact iteF k

abbrev sIsP : Stmt := topS 7
theorem scIsP : FnScope ["value"] ["value"] (defScope sIsP) := ⟨rfl, rfl, rfl, by decide +kernel, rfl, by decide +kernel, by decide +kernel⟩
theorem okIsP {f : Addr} {fd : FuncData} (F : Fun K "is_price" "is_price" sIsP f fd) (T : Bx mg) {f1 : Addr} {d1 : FuncData} (G : Ld P w K mg base "is_whole" 1 f1 d1 ["value"] spWhole) : FnOk P w K mg base CX0 2 f fd ["value"] spIsP := by
  refine F.ok scIsP (fun vs H Q E h => ?_) (fun cdv A outer s H vs Q E hr h => ?_)
  · obtain ⟨v, d, rfl, _⟩ := h
    rfl
  · obtain ⟨v, d, rfl, hd, k⟩ := h
    have hr1 := hr.mono (j := 1) (by decide)
    refine ⟨_, (pss_one (ps_ret (pe_or (pe_cmpR op_isN (pv 0) pe_non (nomark _)) (pe_one (pe_and (pe_call G.G hr1 rfl G.g G.k G.b .nil pass0 (pa_cons (pv 0) pa_nil)) (pe_one (pe_cmpR op_ge (pv 0) pe_int (nomark _)))))))), ?_⟩
    refine ⟨_, rfl, rfl, _, rfl, ?_⟩
    cases hd with
    | non => exact iteT k
    | bl b => exact iteF ⟨_, rfl, _, _, rfl, .bl b, _, rfl, iteF k⟩
    | int i => exact iteF ⟨_, rfl, _, _, rfl, .int i, _, rfl, iteT ⟨_, rfl, _, _, rfl, rfl, k⟩⟩
    | str x => exact iteF ⟨_, rfl, _, _, rfl, .str x, _, rfl, iteF k⟩
    | lst h1 h2 => exact iteF ⟨_, rfl, _, _, rfl, .lst h1 h2, _, rfl, iteF k⟩
    | tup h1 h2 => exact iteF ⟨_, rfl, _, _, rfl, .tup h1 h2, _, rfl, iteF k⟩
    | dct h1 h2 => exact iteF ⟨_, rfl, _, _, rfl, .dct h1 h2, _, rfl, iteF k⟩

abbrev sLetter : Stmt := topS 22
theorem scLetter : FnScope ["value", "letters"] ["value", "letters"] (defScope sLetter) := ⟨rfl, rfl, rfl, by decide +kernel, rfl, by decide +kernel, by decide +kernel⟩
theorem okLetter {f : Addr} {fd : FuncData} (F : Fun K "is_letter" "is_letter" sLetter f fd) (T : Bx mg) {f1 : Addr} {d1 : FuncData} (G : Ld P w K mg base "is_between" 2 f1 d1 ["value", "low", "high"] spBtw) : FnOk P w K mg base CX0 3 f fd ["value", "letters"] spLetter := by
  refine F.ok scLetter (fun vs H Q E h => ?_) (fun cdv A outer s H vs Q E hr h => ?_)
  · obtain ⟨v, d, n, rfl, _⟩ := h
    rfl
  · obtain ⟨v, d, n, rfl, hd, k⟩ := h
    have hr1 := hr.mono (j := 1) (by decide)
    have hr2 := hr.mono (j := 2) (by decide)
    refine ⟨_, (pss_one (ps_ret (pe_call G.G hr2 rfl G.g G.k G.b .nil pass0 (pa_cons (pv 0) (pa_cons pe_int (pa_cons (pe_op op_sub (pv 1) pe_int) pa_nil)))))), ?_⟩
    exact ⟨_, rfl, _, rfl, _, _, rfl, rfl, v, d, 0, n - 1, rfl, hd, k⟩

abbrev sPrices : Stmt := topS 25
theorem scPrices : FnScope ["value", "many", "price"] ["value", "many"] (defScope sPrices) := ⟨rfl, rfl, rfl, by decide +kernel, rfl, by decide +kernel, by decide +kernel⟩
theorem okPrices {f : Addr} {fd : FuncData} (F : Fun K "are_prices" "are_prices" sPrices f fd) (T : Bx mg) {f1 : Addr} {d1 : FuncData} (G : Ld P w K mg base "is_price" 2 f1 d1 ["value"] spIsP) : FnOk P w K mg base CX0 3 f fd ["value", "many"] spPrices := by
  refine F.ok scPrices (fun vs H Q E h => ?_) (fun cdv A outer s H vs Q E hr h => ?_)
  · obtain ⟨a, cells, ps, n, rfl, _⟩ := h
    rfl
  · obtain ⟨a, cells, ps, n, rfl, ha, hf, hl, hn, hp, k⟩ := h
    have hr1 := hr.mono (j := 1) (by decide)
    have hr2 := hr.mono (j := 2) (by decide)
    refine ⟨_, (pss_cons (ps_if (PW.pt (pw_or (pt_not (pt_val (pe_callB call_isiT (by rfl) T.n_isinstance (by decide +kernel) (pa_cons (pv 0) (pa_cons (pe_tup (pa_cons (pe_bltn (v := .ty "list") (by rfl) T.n_list (by decide +kernel) rfl) (pa_cons (pe_bltn (v := .ty "tuple") (by rfl) T.n_tuple (by decide +kernel) rfl) pa_nil))) pa_nil))))) (pw_or1 (pt_cmpR op_ne (pe_callB call_len_seq (by rfl) T.n_len (by decide +kernel) (pa_cons (pv 0) pa_nil)) (pv 1) (nomark _))))) (pss_one (ps_ret pe_bl)) pss_nil)
    (pss_one (ps_ret (pe_callB (cr_all rfl) (by rfl) T.n_all (by decide +kernel) (pa_cons (pe_lc (own := [("price", 2)]) (g := gName 2) (tt := tYes) (by rfl) scPrices.nd (pi_list (pv 0)) (blkOk_by (own := [("price", 2)]) (N := ["value", "many", "price"]) (sc := defScope sPrices) (by decide +kernel)) (fun _ _ _ _ _ => pg_name (i := 2) scPrices.nd rfl (Or.inl rfl)) (fun _ _ _ _ _ => pts_nil) (fun _ _ _ _ _ => (pe_call G.G hr2 rfl G.g G.k G.b .nil pass0 (pa_cons (pv 2) pa_nil)))) pa_nil))))), ?_⟩
    have lc : cells.length = n := (Paired.length hf).trans hl
    refine ⟨_, rfl, Nat.le_of_ble_eq_true rfl, fun tp htp => ?_⟩
    have s1 : Same H (upd H tp (.tup [.ty "list", .ty "tuple"])) := new_same htp
    refine ⟨.ref a, tp, _, .type "list", [.type "list", .type "tuple"], true, rfl, upd_same, seqC, .base (.lst (s1 _ _ ha)), seqK, _, rfl, iteF ?_⟩
    refine ⟨_, rfl, a, cells, rfl, .inl (SqL.of (s1 _ _ ha)), _, rfl, rfl, _, rfl, ?_⟩
    have e1 : (!decide (V.int (cells.length : Int) = V.int (n : Int))) = false := by rw [lc, decide_eq_true rfl]; rfl
    rw [e1]
    refine iteF ?_
    refine ⟨_, rfl, a, rfl, ⟨_, SqL.of (s1 _ _ ha)⟩, fun D hD => lc_map (fun i => .bl (isP (ps.getD i .none))) hD (SqL.of (s1 _ _ ha)) (by omega) (fun _ => rfl) ?_ ?_⟩
    · intro i x H' hi s2 Q' k'
      obtain ⟨p, hp1, hp2⟩ := Paired.atL hf hi
      have e : ps.getD i .none = p := by rw [List.getD_eq_getElem?_getD, hp1]; rfl
      rw [e] at k'
      exact ⟨_, rfl, x, p, rfl, hp2.dt, k' _ (Same.refl _)⟩
    · intro H2 s2 hD2
      refine ⟨D, (List.range cells.length).map (fun i => isP (ps.getD i .none)), rfl, SqL.of (by rw [List.map_map]; exact hD2), ?_⟩
      have e : ((List.range cells.length).map (fun i => isP (ps.getD i .none))).all id = true := by
        rw [List.all_eq_true]
        intro b hb
        obtain ⟨i, hi, rfl⟩ := List.mem_map.mp hb
        have hi2 : i < ps.length := by
          have := List.mem_range.mp hi
          omega
        rw [List.getD_eq_getElem?_getD, List.getElem?_eq_getElem hi2]
        exact hp _ (List.getElem_mem hi2)
      rw [e]
      exact k _ (s1.trans s2)
variable {C CN : Addr}

abbrev sRows : Stmt := topS 24
theorem scRows : FnScope ["value", "row"] ["value"] (defScope sRows) := ⟨rfl, rfl, rfl, by decide +kernel, rfl, by decide +kernel, by decide +kernel⟩
theorem okRows {f : Addr} {fd : FuncData} (F : Fun K "are_rows" "are_rows" sRows f fd) (T : Bx mg) (TT : Tt K mg C) {f1 : Addr} {d1 : FuncData} (G : Ld P w K mg base "are_prices" 3 f1 d1 ["value", "many"] spPrices) : FnOk P w K mg base CX0 4 f fd ["value"] spRows := by
  refine F.ok scRows (fun vs H Q E h => ?_) (fun cdv A outer s H vs Q E hr h => ?_)
  · obtain ⟨a, n, rows, rfl, _⟩ := h
    rfl
  · obtain ⟨a, n, rows, rfl, ⟨rs, ha, hrs⟩, ok, k⟩ := h
    have hr1 := hr.mono (j := 1) (by decide)
    have hr2 := hr.mono (j := 2) (by decide)
    have hr3 := hr.mono (j := 3) (by decide)
    refine ⟨_, (pss_cons (ps_if (PW.pt (pw_or (pt_not (pt_val (pe_callB call_isiT (by rfl) T.n_isinstance (by decide +kernel) (pa_cons (pv 0) (pa_cons (pe_tup (pa_cons (pe_bltn (v := .ty "list") (by rfl) T.n_list (by decide +kernel) rfl) (pa_cons (pe_bltn (v := .ty "tuple") (by rfl) T.n_tuple (by decide +kernel) rfl) pa_nil))) pa_nil))))) (pw_or1 (pt_not (pt_chain op_le op_le pe_int (pe_callB (call_lenK (K := K) rfl) (by rfl) T.n_len (by decide +kernel) (pa_cons (pv 0) pa_nil)) (ClX.pe_cval (pe_glob (v := .ref C) rfl TT.g rfl))))))) (pss_one (ps_ret pe_bl)) pss_nil)
    (pss_one (ps_ret (pe_callB (cr_all rfl) (by rfl) T.n_all (by decide +kernel) (pa_cons (pe_lc (own := [("row", 1)]) (g := gName 1) (tt := tYes) (by rfl) scRows.nd (pi_list (pv 0)) (blkOk_by (own := [("row", 1)]) (N := ["value", "row"]) (sc := defScope sRows) (by decide +kernel)) (fun _ _ _ _ _ => pg_name (i := 1) scRows.nd rfl (Or.inl rfl)) (fun _ _ _ _ _ => pts_nil) (fun _ _ _ _ _ => (pe_call G.G hr3 rfl G.g G.k G.b .nil pass0 (pa_cons (pv 1) (pa_cons (pe_callB (call_lenK (K := K) rfl) (by rfl) T.n_len (by decide +kernel) (pa_cons (pv 0) pa_nil)) pa_nil))))) pa_nil))))), ?_⟩
    have lr : (rs.map V.ref).length = n := by rw [List.length_map]; exact (Paired.length hrs).trans ok.len
    obtain ⟨mc, u, rd, cv⟩ := TT.ml
    refine ⟨_, rfl, Nat.le_of_ble_eq_true rfl, fun tp htp => ?_⟩
    have s1 : Same H (upd H tp (.tup [.ty "list", .ty "tuple"])) := new_same htp
    refine ⟨.ref a, tp, _, .type "list", [.type "list", .type "tuple"], true, rfl, upd_same, seqC, .base (.lst (s1 _ _ ha)), seqK, _, rfl, iteF ?_⟩
    refine ⟨_, rfl, a, _, rfl, .inl (SqL.of (s1 _ _ ha)), 1, _, rfl, rfl, _, rfl, ?_⟩
    rw [lr]
    have e1 : decide ((1 : Int) ≤ (n : Int)) = true := decide_eq_true (by have := ok.lo; omega)
    have e2 : decide ((n : Int) ≤ (5 : Int)) = true := decide_eq_true (by have := ok.hi; omega)
    rw [e1]
    refine iteT ?_
    refine ⟨C, mc, .int 5, u, rfl, rd, cv, _, _, rfl, rfl, _, rfl, ?_⟩
    rw [e2]
    refine iteF ?_
    refine ⟨_, rfl, a, rfl, ⟨_, SqL.of (s1 _ _ ha)⟩, fun D hD => lc_map (fun _ => .bl true) hD (SqL.of (s1 _ _ ha)) (by rw [lr]; have := ok.hi; omega) (fun _ => rfl) ?_ ?_⟩
    · intro i x H' hi s2 Q' k'
      obtain ⟨e, hi1, rfl⟩ : ∃ e, rs[i]? = some e ∧ x = .ref e := by
        rw [List.getElem?_map] at hi
        cases q : rs[i]? with
        | none =>
          rw [q] at hi
          cases hi
        | some e =>
          rw [q] at hi
          cases hi
          exact ⟨e, rfl, rfl⟩
      obtain ⟨ps, hp1, cells, hc, hf⟩ := Paired.atL hrs hi1
      obtain ⟨l1, l2⟩ := ok.row ps (List.mem_of_getElem? hp1)
      have s3 := s1.trans s2
      exact ⟨_, rfl, _, rfl, a, _, rfl, .inl (SqL.of (s3 _ _ ha)), e, cells, ps, n, by rw [lr]; rfl, s3 _ _ hc, hf, l1, ok.hi, l2, fun H'' s'' => k' _ s''⟩
    · intro H2 s2 hD2
      rw [lr] at hD2
      refine ⟨D, (List.range n).map (fun _ => true), rfl, SqL.of (by rw [List.map_map]; exact hD2), ?_⟩
      have e : ((List.range n).map (fun _ => true)).all id = true := by
        rw [List.all_eq_true]
        intro b hb
        obtain ⟨_, _, rfl⟩ := List.mem_map.mp hb
        rfl
      rw [e]
      exact k _ (s1.trans s2)

abbrev sTInit : Stmt := inClass (topS 19) 2
theorem scTInit : FnScope ["self", "rows", "row"] ["self", "rows"] (defScope sTInit) := ⟨rfl, rfl, rfl, by decide +kernel, rfl, by decide +kernel, by decide +kernel⟩
theorem okTInit {f : Addr} {fd : FuncData} (F : Fun K "__init__" "Table.__init__" sTInit f fd) (T : Bx mg) (TT : Tt K mg C) {f1 : Addr} {d1 : FuncData} (G : Ld P w K mg base "are_rows" 4 f1 d1 ["value"] spRows) : FnOk P w K mg base CX0 5 f fd ["self", "rows"] (spTInit C) := by
  refine F.ok scTInit (fun vs H Q E h => ?_) (fun cdv A outer s H vs Q E hr h => ?_)
  · obtain ⟨t, a, dx, n, rows, rfl, _⟩ := h
    rfl
  · obtain ⟨t, a, dx, n, rows, rfl, ht, ⟨rs, ha, hrs⟩, ok, k⟩ := h
    have hr1 := hr.mono (j := 1) (by decide)
    have hr2 := hr.mono (j := 2) (by decide)
    have hr3 := hr.mono (j := 3) (by decide)
    have hr4 := hr.mono (j := 4) (by decide)
    refine ⟨_, (pss_cons (ps_if (pt_not (pt_val (pe_call G.G hr4 rfl G.g G.k G.b .nil pass0 (pa_cons (pv 1) pa_nil)))) (pss_one ps_never) pss_nil)
    (pss_one (ps_fld (pv 0) (pe_callTy (call_tupK (K := K) rfl) (by rfl) T.n_tuple (by decide +kernel) (pa_cons (pe_lc (own := [("row", 2)]) (g := gName 2) (tt := tYes) (by rfl) scTInit.nd (pi_list (pv 1)) (blkOk_by (own := [("row", 2)]) (N := ["self", "rows", "row"]) (sc := defScope sTInit) (by decide +kernel)) (fun _ _ _ _ _ => pg_name (i := 2) scTInit.nd rfl (Or.inl rfl)) (fun _ _ _ _ _ => pts_nil) (fun _ _ _ _ _ => (pe_callTy (call_tupK (K := K) rfl) (by rfl) T.n_tuple (by decide +kernel) (pa_cons (pv 2) pa_nil)))) pa_nil)) rfl))), ?_⟩
    have lr : (rs.map V.ref).length = n := by rw [List.length_map]; exact (Paired.length hrs).trans ok.len
    refine ⟨_, rfl, a, n, rows, rfl, ⟨rs, ha, hrs⟩, ok, fun H1 s1 => ⟨_, rfl, iteF ?_⟩⟩
    refine ⟨_, rfl, a, rfl, ⟨_, SqL.of (s1 _ _ ha)⟩, fun D hD => lc_list (K := K) (a := a) (xs := rs.map V.ref) (fun i H' => Same H1 H' ∧ ∃ ls : List Addr, ls.length = i ∧ H' D = some (.lst (ls.map V.ref)) ∧ Paired (fun l ps => ∃ cells, H' l = some (.tup cells) ∧ Paired Fl cells ps) ls (rows.take i))
      ⟨new_same hD, [], rfl, upd_same, .nil⟩ (fun _ H' _ p => SqL.of (p.1 _ _ (s1 _ _ ha))) ?_ ?_⟩
    · rintro i x H2 hi ⟨s2, ls, hl, hD2, hp⟩
      obtain ⟨e, hi1, rfl⟩ : ∃ e, rs[i]? = some e ∧ x = .ref e := by
        rw [List.getElem?_map] at hi
        cases q : rs[i]? with
        | none =>
          rw [q] at hi
          cases hi
        | some e =>
          rw [q] at hi
          cases hi
          exact ⟨e, rfl, rfl⟩
      obtain ⟨ps, hp1, cells, hc, hf⟩ := Paired.atL hrs hi1
      have il : i < n := by
        have := (List.getElem?_eq_some_iff.mp hi).1
        omega
      refine ⟨rfl, ?_⟩
      dsimp only [tYes]
      rw [if_pos rfl]
      refine ⟨_, rfl, e, cells, rfl, .inl ⟨SqL.of (s2 _ _ (s1 _ _ hc)), fun l hl0 => ?_⟩⟩
      have lD : l ≠ D := fun z => by
        rw [z, hD2] at hl0
        cases hl0
      refine ⟨ls.map V.ref, by rw [upd_ne (Ne.symm lD)]; exact hD2, ?_, ?_, ls ++ [l], by rw [List.length_append, hl]; rfl, by rw [upd_same, List.map_append]; rfl, ?_⟩
      · rw [List.length_map, hl]
        have := ok.hi
        exact Nat.lt_of_lt_of_le il (Nat.le_trans this (by decide))
      · intro b o z
        have h1 : b ≠ D := fun w => by
          rw [w, hD] at z
          cases z
        have h2 : b ≠ l := fun w => by
          have q := s2 b o z
          rw [w, hl0] at q
          cases q
        rw [upd_ne h1, upd_ne h2]
        exact s2 b o z
      · rw [List.take_add_one, hp1]
        refine Paired.app (Paired.mapP hp fun b qs ⟨cs, z, q⟩ => ⟨cs, ?_, q⟩) (.cons ⟨cells, ?_, hf⟩ .nil)
        · have h1 : b ≠ D := fun w => by
            rw [w, hD2] at z
            cases z
          have h2 : b ≠ l := fun w => by
            rw [w, hl0] at z
            cases z
          rw [upd_ne h1, upd_ne h2]
          exact z
        · rw [upd_ne lD, upd_same]
    · rintro H2 ⟨s2, ls, hl, hD2, hp⟩
      rw [lr, ← ok.len, List.take_length] at hp
      refine ⟨D, _, rfl, .inl ⟨SqL.of hD2, fun l hl0 => ?_⟩⟩
      have s3 := s1.trans s2
      have ht2 := s3 _ _ ht
      have tl : t ≠ l := ne_of_none ht2 hl0
      refine ⟨_, rfl, t, C, dx, [], rfl, by rw [upd_ne tl]; exact ht2, TT.cl, TT.nR, by decide, ?_⟩
      refine k _ ⟨dx, l, ls, upd_same, by rw [upd_ne (Ne.symm tl)]; exact upd_same, Paired.mapP hp fun b qs ⟨cs, z, q⟩ => ⟨cs, ?_, q⟩⟩ fun b o z hb => ?_
      · have h1 : b ≠ t := fun w => by
          rw [w, ht2] at z
          cases z
        rw [upd_ne h1, upd_ne (ne_of_none z hl0)]
        exact z
      · rw [upd_ne hb, upd_ne (ne_of_none (s3 _ _ z) hl0)]
        exact s3 _ _ z

abbrev sLetters : Stmt := inClass (topS 19) 4
theorem scLetters : FnScope ["self"] ["self"] (defScope sLetters) := ⟨rfl, rfl, rfl, by decide +kernel, rfl, by decide +kernel, by decide +kernel⟩
theorem okLetters {f : Addr} {fd : FuncData} (F : Fun K "letters" "Table.letters" sLetters f fd) (T : Bx mg) (TT : Tt K mg C) : FnOk P w K mg base CX0 1 f fd ["self"] (spLetters C) := by
  refine F.ok scLetters (fun vs H Q E h => ?_) (fun cdv A outer s H vs Q E hr h => ?_)
  · obtain ⟨t, rows, rfl, _⟩ := h
    rfl
  · obtain ⟨t, rows, rfl, ⟨dx, r, rs, ht, hr0, hp⟩, k⟩ := h
    refine ⟨_, (pss_one (ps_ret (pe_callB call_len_seq (by rfl) T.n_len (by decide +kernel) (pa_cons (pe_fld (pv 0) rfl) pa_nil)))), ?_⟩
    have lr : (rs.map V.ref).length = rows.length := by rw [List.length_map]; exact Paired.length hp
    refine ⟨_, rfl, t, C, dx, _, _, rfl, ht, TT.cl, TT.nR, rfl, r, _, rfl, .inr (SqT.of hr0), ?_⟩
    rw [lr]
    exact k

abbrev sPrice : Stmt := inClass (topS 19) 10
theorem scPrice : FnScope ["self", "first", "second", "letter"] ["self", "first", "second"] (defScope sPrice) := ⟨rfl, rfl, rfl, by decide +kernel, rfl, by decide +kernel, by decide +kernel⟩
theorem okPrice {f : Addr} {fd : FuncData} (F : Fun K "price" "Table.price" sPrice f fd) (T : Bx mg) (TT : Tt K mg C) (EN : EC P K mg "InvalidNumber" CN xValueError (some "value")) (tp0 : (P.main.scope.names.lookup ("super" : Str)).isSome = false) {f1 f2 p2 : Addr} {d1 d2 : FuncData} (G : Ld P w K mg base "is_letter" 3 f1 d1 ["value", "letters"] spLetter) (GL : FnOk P w K mg base CX0 1 f2 d2 ["self"] (spLetters C)) (bL : Binds K d2 ["self"] []) (pL : PropOf K C "letters" p2 f2) : FnOk P w K mg base (L2.CX P w) 4 f fd ["self", "first", "second"] (spPrice C CN) := by
  refine F.okX scPrice (fun vs H Q E h => ?_) (fun cdv A outer s H vs Q E hr h => ?_)
  · obtain ⟨t, n, rows, x, y, dx, dy, rfl, _⟩ := h
    rfl
  · obtain ⟨t, n, rows, x, y, dx, dy, rfl, tab, ok, hx, hy, k1, k2, k3⟩ := h
    have hr1 := hr.mono (j := 1) (by decide)
    have hr2 := hr.mono (j := 2) (by decide)
    have hr3 := hr.mono (j := 3) (by decide)
    have R : MkR (cxOf (L2.CX P w) P w K mg base ["self", "first", "second", "letter"] "Table.price" (defScope sPrice) f cdv A outer s H E) := ⟨T.n_super, tp0, mk_dp hr⟩
    refine ⟨_, (pss_cons (ps_for (passes_of rfl) rfl (pi_tup (pe_tup (pa_cons (pv 1) (pa_cons (pv 2) pa_nil)))) (pg_name (i := 3) scPrice.nd rfl (Or.inl rfl)) (pss_one (ps_if (pt_not (pt_val (pe_call G.G hr3 rfl G.g G.k G.b .nil pass0 (pa_cons (pv 3) (pa_cons (pe_prop (pv 0) TT.cl pL GL (hr.mono (by decide)) bL .nil pass0 rfl) pa_nil))))) (pss_one (ps_raise rfl (takes_of rfl rfl rfl rfl) (EN.pmk1 R (by rfl) (pv 3)))) pss_nil)))
    (pss_one (ps_ret (pe_ix ix_tup (pe_ix ix_tup (pe_fld (pv 0) rfl) (pv 1) (fun _ _ => rfl)) (pv 2) (fun _ _ => rfl))))), ?_⟩
    have lrows : rows.length = n := ok.len
    refine ⟨_, rfl, _, rfl, Nat.le_of_ble_eq_true rfl, fun tp htp => ?_⟩
    have s1 : Same H (upd H tp (.tup [x, y])) := new_same htp
    refine ⟨tp, rfl, ⟨_, SqT.of upd_same⟩, for_tup (K := K) (a := tp) (xs := [x, y]) (fun i σ H' => ∃ x3 : Option V, σ = [some (.ref t), some x, some y, x3] ∧ Same (upd H tp (.tup [x, y])) H' ∧ (1 ≤ i → btw dx 0 ((n : Int) - 1) = true) ∧ (2 ≤ i → btw dy 0 ((n : Int) - 1) = true))
      ⟨none, rfl, Same.refl _, fun z => absurd z (by decide), fun z => absurd z (by decide)⟩ (fun _ _ H' _ ⟨_, _, s2, _⟩ => SqT.of (s2 _ _ upd_same)) ?_ ?_⟩
    · rintro i z σ H' hi ⟨x3, rfl, s2, b1, b2⟩
      have s3 := s1.trans s2
      have tab' := tab.ext (H' := H') fun b o q _ _ => s3 b o q
      obtain ⟨tdx, tr, trs, th, _, _⟩ := id tab'
      rcases i with _ | _ | i
      · cases hi
        refine ⟨_, rfl, _, rfl, t, tdx, _, rfl, th, t, rows, rfl, tab', x, dx, _, rfl, hx.same s3, _, rfl, ?_⟩
        rw [lrows]
        refine ite2 (fun c => ?_) (fun c => ⟨_, rfl, s2, fun _ => ?_, fun z => absurd z (by decide)⟩)
        · refine ⟨_, rfl, fun d hd => k2 ?_ d _ (s3.trans (new_same hd)) upd_same⟩
          simpa using c
        · simpa using c
      · cases hi
        have b0 := b1 (by decide)
        refine ⟨_, rfl, _, rfl, t, tdx, _, rfl, th, t, rows, rfl, tab', y, dy, _, rfl, hy.same s3, _, rfl, ?_⟩
        rw [lrows]
        refine ite2 (fun c => ?_) (fun c => ⟨_, rfl, s2, fun _ => b0, fun _ => ?_⟩)
        · refine ⟨_, rfl, fun d hd => k3 b0 ?_ d _ (s3.trans (new_same hd)) upd_same⟩
          simpa using c
        · simpa using c
      · cases hi
    · rintro σ H' ⟨x3, rfl, s2, b1, b2⟩
      have s3 := s1.trans s2
      have c1 := b1 (Nat.le_of_ble_eq_true rfl)
      have c2 := b2 (Nat.le_of_ble_eq_true rfl)
      obtain ⟨tdx, tr, trs, th, thr, thp⟩ := tab.ext (H' := H') fun b o q _ _ => s3 b o q
      cases hx with
      | int i =>
        cases hy with
        | int j =>
          obtain ⟨i0, i1⟩ : 0 ≤ i ∧ i ≤ (n : Int) - 1 := by
            have z : (decide (0 ≤ i) && decide (i ≤ (n : Int) - 1)) = true := c1
            simpa using z
          obtain ⟨j0, j1⟩ : 0 ≤ j ∧ j ≤ (n : Int) - 1 := by
            have z : (decide (0 ≤ j) && decide (j ≤ (n : Int) - 1)) = true := c2
            simpa using z
          obtain ⟨i', rfl⟩ : ∃ m : Nat, i = (m : Int) := ⟨i.toNat, by omega⟩
          obtain ⟨j', rfl⟩ : ∃ m : Nat, j = (m : Int) := ⟨j.toNat, by omega⟩
          have hil : i' < rows.length := by omega
          have hri : rows[i']? = some rows[i'] := List.getElem?_eq_getElem hil
          obtain ⟨r, hr1', cells, hc, hf⟩ := Paired.atR thp hri
          have lps : rows[i'].length = n := (ok.row _ (List.getElem_mem hil)).1
          have hjl : j' < rows[i'].length := by omega
          have hpj : rows[i'][j']? = some rows[i'][j'] := List.getElem?_eq_getElem hjl
          obtain ⟨v, hv, hfl⟩ := Paired.atR hf hpj
          refine ⟨_, rfl, t, C, tdx, _, _, rfl, th, TT.cl, TT.nR, rfl, _, rfl, tr, _, _, .ref r, rfl, rfl, SqT.of thr, atI_nat (by rw [List.getElem?_map, hr1']; rfl), _, rfl, r, cells, _, v, rfl, rfl, SqT.of hc, atI_nat hv, ?_⟩
          exact k1 c1 c2 i' j' _ _ v H' rfl rfl hri hpj hfl s3
        | non => cases c2
        | bl _ => cases c2
        | str _ => cases c2
        | lst _ _ => cases c2
        | tup _ _ => cases c2
        | dct _ _ => cases c2
      | non => cases c1
      | bl _ => cases c1
      | str _ => cases c1
      | lst _ _ => cases c1
      | tup _ _ => cases c1
      | dct _ _ => cases c1
end
end VK

namespace VK
open PySem PySem.VK PySem.Spec PyProof.Rows L2
/-- a price of the laws: barred, or less than 10 ** 20 -/
def Sm (d : PyData) : Prop := d = .none ∨ ∃ i : Int, d = .int i ∧ 0 ≤ i ∧ i < 100000000000000000000
theorem Sm.isP {d : PyData} (h : Sm d) : isP d = true := by
  rcases h with rfl | ⟨i, rfl, h0, _⟩
  · rfl
  · exact decide_eq_true h0
def spWide : Sp := fun vs H Q _ => ∃ (p c : Addr) (ns : List Int) (t r z : Int), vs = [.ref p, .int z] ∧ PenAt H p c ns t r ∧ ns.length ≤ 63 ∧ 0 ≤ t ∧ t < 900000000 ∧ 0 ≤ r ∧ 0 < z ∧ z ≤ 100000000000000000000 ∧
  ∀ (i t' r' : Int) (H' : Hp), 0 ≤ i → i < z → t ≤ t' → t' ≤ t + 4 → 0 ≤ r' → PenAt H' p c ns t' r' → (∀ b o, H b = some o → b ≠ p → H' b = some o) → Q (.int i) H'
def spPr : Sp := fun vs H Q _ => ∃ (p c : Addr) (ns : List Int) (t r : Int), vs = [.ref p] ∧ PenAt H p c ns t r ∧ ns.length ≤ 63 ∧ 0 ≤ t ∧ t < 800000000 ∧ 0 ≤ r ∧
  ∀ (v : V) (d : PyData) (t' r' : Int) (H' : Hp), Sm d → Fl v d → t ≤ t' → t' ≤ t + 7 → 0 ≤ r' → PenAt H' p c ns t' r' → (∀ b o, H b = some o → b ≠ p → H' b = some o) → Q v H'
structure SmRows (n : Nat) (rows : List (List PyData)) : Prop where
  len : rows.length = n
  row : ∀ ps ∈ rows, ps.length = n ∧ ∀ p ∈ ps, Sm p
def spLRows : Sp := fun vs H Q _ => ∃ (p c : Addr) (ns : List Int) (t r : Int) (n : Nat), vs = [.ref p, .int n] ∧ PenAt H p c ns t r ∧ ns.length ≤ 63 ∧ 0 ≤ t ∧ t < 700000000 ∧ 0 ≤ r ∧ n ≤ 6 ∧
  ∀ (a : Addr) (rows : List (List PyData)) (t' r' : Int) (H' : Hp), SmRows n rows → RowsAt H' a rows → H a = none → t ≤ t' → t' ≤ t + 252 → 0 ≤ r' → PenAt H' p c ns t' r' → (∀ b o, H b = some o → b ≠ p → H' b = some o) → Q (.ref a) H'
section
variable {P : Program} {w : World} {K : PySem.W.Frag} {mg : Str → Option Value} {base : Heap}

abbrev sWide : Stmt := topS 34
theorem scWide : FnScope ["_law_pen_here", "_law_size", "_law_found", "_law_reach"] ["_law_pen_here", "_law_size"] (defScope sWide) := ⟨rfl, rfl, rfl, by decide +kernel, rfl, by decide +kernel, by decide +kernel⟩
theorem okWide {f : Addr} {fd : FuncData} (F : Fun K "_law_wide" "_law_wide" sWide f fd) (T : Bx mg) {f1 : Addr} {d1 : FuncData} (G : Ld P w K mg base "_law_draw" 1 f1 d1 ["_law_pen_here", "_law_size"] spDraw) : FnOk P w K mg base CX0 2 f fd ["_law_pen_here", "_law_size"] spWide := by
  refine F.ok scWide (fun vs H Q E h => ?_) (fun cdv A outer s H vs Q E hr h => ?_)
  · obtain ⟨p, c, ns, t, r, z, rfl, _⟩ := h
    rfl
  · obtain ⟨p, c, ns, t, r, z, rfl, pen, hl, ht0, ht1, hr0, hz0, hz1, k⟩ := h
    have hr1 := hr.mono (j := 1) (by decide)
    refine ⟨_, (pss_cons (ps_asg (pe_tup (pa_cons pe_int (pa_cons pe_int pa_nil))) (pg_tup (by rfl) (pgs_cons (pg_name (i := 2) scWide.nd rfl (Or.inl rfl)) (pgs_cons (pg_name (i := 3) scWide.nd rfl (Or.inl rfl)) pgs_nil))))
    (pss_cons (ps_while PassesOwn.never (pt_cmpR op_lt (pv 3) (pv 1) (nomark _)) (pss_cons (ps_set (i := 2) scWide.nd rfl (Or.inl rfl) (pe_op op_add (pe_op op_mul (pv 2) (pe_op op_pow pe_int pe_int)) (pe_call G.G hr1 rfl G.g G.k G.b .nil pass0 (pa_cons (pv 0) (pa_cons (pe_op op_pow pe_int pe_int) pa_nil)))))
    (pss_one (ps_set (i := 3) scWide.nd rfl (Or.inl rfl) (pe_op op_mul (pv 3) (pe_op op_pow pe_int pe_int))))))
    (pss_one (ps_ret (pe_op op_mod (pe_callTy call_int1 (by rfl) T.n_int (by decide +kernel) (pa_cons (pv 2) pa_nil)) (pv 1)))))), ?_⟩
    refine ⟨Nat.le_of_ble_eq_true rfl, fun qt hqt => ⟨qt, _, rfl, SqT.of upd_same, rfl, _, _, rfl, _, _, rfl, rfl, ?_⟩⟩
    have pen0 : PenAt (upd H qt (.tup [.int 0, .int 1])) p c ns t r := ⟨by rw [upd_ne (ne_of_none pen.d hqt)]; exact pen.d, by rw [upd_ne (ne_of_none pen.l hqt)]; exact pen.l⟩
    refine ⟨fun m σ H' => ∃ (q : Nat) (x t' r' : Int), m = 4 - q ∧ q ≤ 4 ∧ σ = [some (.ref p), some (.int z), some (.int x), some (.int (10 ^ (6 * q)))] ∧ 0 ≤ x ∧ x < 10 ^ (6 * q) ∧ t ≤ t' ∧ t' ≤ t + q ∧ 0 ≤ r' ∧ PenAt H' p c ns t' r' ∧ ∀ b o, H b = some o → b ≠ p → H' b = some o,
      ⟨4, 0, 0, t, r, rfl, by omega, rfl, by decide, by decide, by omega, by omega, hr0, pen0, fun b o e _ => by rw [upd_ne (ne_of_none e hqt)]; exact e⟩, ?_⟩
    rintro m σ H' ⟨q, x, t', r', rfl, hq, rfl, hx0, hx1, t0, t1, r0, pen', kp⟩
    refine ⟨_, rfl, _, rfl, _, _, rfl, rfl, _, rfl, ?_⟩
    refine ite2 (fun hc => ?_) (fun _ => ?_)
    · have hc' : (10 : Int) ^ (6 * q) < z := of_decide_eq_true hc
      have hq3 : q ≤ 3 := by
        rcases Nat.lt_or_ge q 4 with h4 | h4
        · omega
        · exfalso
          have e4 : q = 4 := by omega
          subst e4
          have : (10 : Int) ^ (6 * 4) < 100000000000000000000 := Int.lt_of_lt_of_le hc' hz1
          exact absurd this (by decide)
      refine ⟨fun σ' H2 => ∃ (x t' r' : Int), σ' = [some (.ref p), some (.int z), some (.int x), some (.int (10 ^ (6 * (q + 1))))] ∧ 0 ≤ x ∧ x < 10 ^ (6 * (q + 1)) ∧ t ≤ t' ∧ t' ≤ t + (q + 1 : Nat) ∧ 0 ≤ r' ∧ PenAt H2 p c ns t' r' ∧ ∀ b o, H b = some o → b ≠ p → H2 b = some o, ?_, ?_⟩
      · rintro σ' H2 ⟨x', t2, r2, rfl, g0, g1, g2, g3, g4, g5, g6⟩
        exact ⟨4 - (q + 1), by omega, q + 1, x', t2, r2, rfl, by omega, rfl, g0, g1, g2, g3, g4, g5, g6⟩
      · refine ⟨_, rfl, _, _, rfl, rfl, ⟨by decide, by decide, by decide⟩, _, _, rfl, rfl, .inr ⟨by decide, by decide⟩, ?_⟩
        refine ⟨_, rfl, _, _, rfl, rfl, ⟨by decide, by decide, by decide⟩, p, c, ns, t', r', _, rfl, pen', hl, by omega, by omega, r0, by decide, by decide, fun y t2 r2 H2 y0 y1 g0 g1 g2 pen2 kp2 => ?_⟩
        have y2 : y < 1000000 := y1
        refine ⟨_, _, rfl, rfl, ?_⟩
        refine ⟨_, rfl, _, _, rfl, rfl, ⟨by decide, by decide, by decide⟩, _, _, rfl, rfl, .inr ⟨by decide, by decide⟩, ?_⟩
        have e6 : (10 : Int) ^ (6 * (q + 1)) = 10 ^ (6 * q) * 1000000 := by
          rw [Nat.mul_add, Int.pow_add]
          rfl
        refine ⟨x * 1000000 + y, t2, r2, ?_, by omega, by rw [e6]; omega, by omega, by omega, g2, pen2, fun b o e hb => kp2 b o (kp b o e hb) hb⟩
        rw [e6]
        rfl
    · refine ⟨_, rfl, ?_⟩
      refine .inl ⟨_, rfl, _, rfl, _, _, rfl, rfl, hz0, ?_⟩
      exact k _ t' r' H' (Int.emod_nonneg _ (by omega)) (Int.emod_lt_of_pos _ hz0) t0 (by omega) r0 pen' kp

abbrev sPr : Stmt := topS 35
theorem scPr : FnScope ["_law_pen_here", "_law_way", "_law_some"] ["_law_pen_here"] (defScope sPr) := ⟨rfl, rfl, rfl, by decide +kernel, rfl, by decide +kernel, by decide +kernel⟩
theorem okPr {f : Addr} {fd : FuncData} (F : Fun K "_law_price" "_law_price" sPr f fd) (T : Bx mg) {f1 : Addr} {d1 : FuncData} (G : Ld P w K mg base "_law_draw" 1 f1 d1 ["_law_pen_here", "_law_size"] spDraw) {f2 : Addr} {d2 : FuncData} (GW : Ld P w K mg base "_law_wide" 2 f2 d2 ["_law_pen_here", "_law_size"] spWide) : FnOk P w K mg base CX0 3 f fd ["_law_pen_here"] spPr := by
  refine F.ok scPr (fun vs H Q E h => ?_) (fun cdv A outer s H vs Q E hr h => ?_)
  · obtain ⟨p, c, ns, t, r, rfl, _⟩ := h
    rfl
  · obtain ⟨p, c, ns, t, r, rfl, pen, hl, ht0, ht1, hr0, k⟩ := h
    have hr1 := hr.mono (j := 1) (by decide)
    have hr2 := hr.mono (j := 2) (by decide)
    refine ⟨_, (pss_cons (ps_set (i := 1) scPr.nd rfl (Or.inl rfl) (pe_call G.G hr1 rfl G.g G.k G.b .nil pass0 (pa_cons (pv 0) (pa_cons pe_int pa_nil))))
    (pss_cons (ps_set (i := 2) scPr.nd rfl (Or.inl rfl) (pe_lst (pa_cons pe_non (pa_cons (pe_call G.G hr1 rfl G.g G.k G.b .nil pass0 (pa_cons (pv 0) (pa_cons pe_int pa_nil))) (pa_cons (pe_call G.G hr1 rfl G.g G.k G.b .nil pass0 (pa_cons (pv 0) (pa_cons pe_int pa_nil))) (pa_cons (pe_call GW.G hr2 rfl GW.g GW.k GW.b .nil pass0 (pa_cons (pv 0) (pa_cons (pe_op op_pow pe_int pe_int) pa_nil))) pa_nil))))))
    (pss_one (ps_ret (pe_ix ix_list (pv 2) (pe_ix ix_list (pe_lst (pa_cons pe_int (pa_cons pe_int (pa_cons pe_int (pa_cons pe_int (pa_cons pe_int (pa_cons pe_int (pa_cons pe_int (pa_cons pe_int pa_nil))))))))) (pv 1) (fun _ _ => rfl)) (fun _ _ => rfl)))))), ?_⟩
    refine ⟨_, rfl, p, c, ns, t, r, 8, rfl, pen, hl, ht0, by omega, hr0, by decide, by decide, fun i0 t0 r0 H0 a0 b0 c0 e0 f0 pen0 kp0 => ?_⟩
    refine ⟨_, rfl, p, c, ns, t0, r0, 4, rfl, pen0, hl, by omega, by omega, f0, by decide, by decide, fun i1 t1 r1 H1 a1 b1 c1 e1 f1 pen1 kp1 => ?_⟩
    refine ⟨_, rfl, p, c, ns, t1, r1, 100, rfl, pen1, hl, by omega, by omega, f1, by decide, by decide, fun i2 t2 r2 H2 a2 b2 c2 e2 f2 pen2 kp2 => ?_⟩
    refine ⟨_, rfl, _, _, rfl, rfl, ⟨by decide, by decide, by decide⟩, p, c, ns, t2, r2, _, rfl, pen2, hl, by omega, by omega, f2, by decide, by decide, fun i3 t3 r3 H3 a3 b3 c3 e3 f3 pen3 kp3 => ?_⟩
    have b3' : i3 < 100000000000000000000 := b3
    refine ⟨Nat.le_of_ble_eq_true rfl, fun q hq => ?_⟩
    have kp : ∀ b o, H b = some o → b ≠ p → upd H3 q (.lst [.non, .int i1, .int i2, .int i3]) b = some o := fun b o e hb => by
      have z := kp3 b o (kp2 b o (kp1 b o (kp0 b o e hb) hb) hb) hb
      rw [upd_ne (ne_of_none z hq)]
      exact z
    refine ⟨_, rfl, Nat.le_of_ble_eq_true rfl, fun q2 hq2 => ?_⟩
    have q12 : q ≠ q2 := fun z => by
      rw [← z, upd_same] at hq2
      cases hq2
    have kp' : ∀ b o, H b = some o → b ≠ p → upd (upd H3 q (.lst [.non, .int i1, .int i2, .int i3])) q2 (.lst [.int 0, .int 0, .int 1, .int 1, .int 1, .int 1, .int 2, .int 3]) b = some o := fun b o e hb => by
      rw [upd_ne (ne_of_none (kp b o e hb) hq2)]
      exact kp b o e hb
    have pen' : PenAt (upd (upd H3 q (.lst [.non, .int i1, .int i2, .int i3])) q2 (.lst [.int 0, .int 0, .int 1, .int 1, .int 1, .int 1, .int 2, .int 3])) p c ns t3 r3 := by
      have n1 : ∀ {b o}, H3 b = some o → upd (upd H3 q (.lst [.non, .int i1, .int i2, .int i3])) q2 (.lst [.int 0, .int 0, .int 1, .int 1, .int 1, .int 1, .int 2, .int 3]) b = some o := fun {b o} e => by
        have z : upd H3 q (.lst [.non, .int i1, .int i2, .int i3]) b = some o := by rw [upd_ne (ne_of_none e hq)]; exact e
        rw [upd_ne (ne_of_none z hq2)]
        exact z
      exact ⟨n1 pen3.d, n1 pen3.l⟩
    have hL : upd (upd H3 q (.lst [.non, .int i1, .int i2, .int i3])) q2 (.lst [.int 0, .int 0, .int 1, .int 1, .int 1, .int 1, .int 2, .int 3]) q = some (.lst [.non, .int i1, .int i2, .int i3]) := by rw [upd_ne q12, upd_same]
    obtain ⟨j, rfl⟩ : ∃ j : Nat, i0 = (j : Int) := ⟨i0.toNat, by omega⟩
    have hj : j < 8 := by omega
    have pick : ∃ m : Nat, m < 4 ∧ ([V.int 0, V.int 0, V.int 1, V.int 1, V.int 1, V.int 1, V.int 2, V.int 3] : List V)[j]? = some (V.int (m : Int)) := by
      rcases j with _ | _ | _ | _ | _ | _ | _ | _ | j
      · exact ⟨0, by decide, rfl⟩
      · exact ⟨0, by decide, rfl⟩
      · exact ⟨1, by decide, rfl⟩
      · exact ⟨1, by decide, rfl⟩
      · exact ⟨1, by decide, rfl⟩
      · exact ⟨1, by decide, rfl⟩
      · exact ⟨2, by decide, rfl⟩
      · exact ⟨3, by decide, rfl⟩
      · omega
    obtain ⟨m, hm, hjm⟩ := pick
    refine ⟨_, rfl, q2, _, _, _, rfl, rfl, SqL.of upd_same, atI_nat hjm, ?_⟩
    rcases m with _ | _ | _ | _ | m
    · exact ⟨q, _, _, .non, rfl, rfl, SqL.of hL, atI_nat rfl, k _ .none t3 r3 _ (.inl rfl) .non (by omega) (by omega) f3 pen' kp'⟩
    · exact ⟨q, _, _, .int i1, rfl, rfl, SqL.of hL, atI_nat rfl, k _ (.int i1) t3 r3 _ (.inr ⟨_, rfl, a1, by omega⟩) (.int _) (by omega) (by omega) f3 pen' kp'⟩
    · exact ⟨q, _, _, .int i2, rfl, rfl, SqL.of hL, atI_nat rfl, k _ (.int i2) t3 r3 _ (.inr ⟨_, rfl, a2, by omega⟩) (.int _) (by omega) (by omega) f3 pen' kp'⟩
    · exact ⟨q, _, _, .int i3, rfl, rfl, SqL.of hL, atI_nat rfl, k _ (.int i3) t3 r3 _ (.inr ⟨_, rfl, a3, b3'⟩) (.int _) (by omega) (by omega) f3 pen' kp'⟩
    · omega
def retScope (s : Stmt) : Scope := match defBody s with | [.Return (some (.ListComp _ _ sc _)) _] => sc | _ => defScope s

abbrev sLRows : Stmt := topS 36
theorem scLRows : FnScope ["_law_pen_here", "_law_letters", "_law_other", "_law_one"] ["_law_pen_here", "_law_letters"] (defScope sLRows) := ⟨rfl, rfl, rfl, by decide +kernel, rfl, by decide +kernel, by decide +kernel⟩
theorem okLRows {f : Addr} {fd : FuncData} (F : Fun K "_law_rows" "_law_rows" sLRows f fd) (T : Bx mg) {f1 : Addr} {d1 : FuncData} (G : Ld P w K mg base "_law_price" 3 f1 d1 ["_law_pen_here"] spPr) : FnOk P w K mg base CX0 4 f fd ["_law_pen_here", "_law_letters"] spLRows := by
  refine F.ok scLRows (fun vs H Q E h => ?_) (fun cdv A outer s H vs Q E hr h => ?_)
  · obtain ⟨p, c, ns, t, r, n, rfl, _⟩ := h
    rfl
  · obtain ⟨p, c, ns, t, r, n, rfl, pen, hl, ht0, ht1, hr0, hn, k⟩ := h
    have hr1 := hr.mono (j := 1) (by decide)
    have hr2 := hr.mono (j := 2) (by decide)
    have hr3 := hr.mono (j := 3) (by decide)
    refine ⟨_, (pss_one (ps_ret (pe_lc (own := [("_law_one", 3)]) (g := gName 3) (tt := tYes) (by rfl) scLRows.nd (pi_range1 rfl T.n_range (pa_cons (pv 1) pa_nil)) (blkOk_by (own := [("_law_one", 3)]) (N := ["_law_pen_here", "_law_letters", "_law_other", "_law_one"]) (sc := defScope sLRows) (by decide +kernel)) (fun _ _ _ _ _ => pg_name (i := 3) scLRows.nd rfl (Or.inl rfl)) (fun _ _ _ _ _ => pts_nil) (fun _ _ _ _ _ => (pe_lc (own := [("_law_other", 2)]) (g := gName 2) (tt := tYes) (by rfl) scLRows.nd (pi_range1 rfl T.n_range (pa_cons (pv 1) pa_nil)) (blkOk_by (own := [("_law_other", 2)]) (N := ["_law_pen_here", "_law_letters", "_law_other", "_law_one"]) (sc := (relS (retScope sLRows) (defScope sLRows))) (by decide +kernel)) (fun _ _ _ _ _ => pg_name (i := 2) scLRows.nd rfl (Or.inl rfl)) (fun _ _ _ _ _ => pts_nil) (fun _ _ _ _ _ => (pe_call G.G hr3 rfl G.g G.k G.b .nil pass0 (pa_cons (pv 0) pa_nil)))))))), ?_⟩
    refine ⟨_, rfl, (n : Int), rfl, by omega, by omega, fun D hD => lc_range (lo := 0) (n := n) (fun i H' => ∃ (t' r' : Int) (rs : List Addr) (rows : List (List PyData)), H' D = some (.lst (rs.map V.ref)) ∧ Paired (fun a ps => ∃ cells, H' a = some (.lst cells) ∧ Paired Fl cells ps) rs rows ∧ rows.length = i ∧
      (∀ ps ∈ rows, ps.length = n ∧ ∀ p ∈ ps, Sm p) ∧ t ≤ t' ∧ t' ≤ t + 42 * (i : Int) ∧ 0 ≤ r' ∧ PenAt H' p c ns t' r' ∧ (∀ b o, H b = some o → b ≠ p → H' b = some o) ∧ ∀ a ∈ rs, a ≠ D) ?_ ?_ ?_⟩
    · refine ⟨t, r, [], [], upd_same, .nil, rfl, (fun _ z => nomatch z), by omega, by omega, hr0, ⟨by rw [upd_ne (ne_of_none pen.d hD)]; exact pen.d, by rw [upd_ne (ne_of_none pen.l hD)]; exact pen.l⟩, fun b o e _ => by rw [upd_ne (ne_of_none e hD)]; exact e, (fun _ z => nomatch z)⟩
    · rintro i H1 hi ⟨t1, r1, rs, rows, hD1, hrs, hlen, hsm, b1, b2, b3, pen1, kp1, hne⟩
      refine ⟨rfl, ?_⟩
      dsimp only [tYes]
      rw [if_pos rfl]
      refine ⟨_, rfl, (n : Int), rfl, by omega, by omega, fun D2 hD2 => lc_range (lo := 0) (n := n) (fun j H' => ∃ (t' r' : Int) (cells : List V) (ps : List PyData), H' D2 = some (.lst cells) ∧ Paired Fl cells ps ∧ ps.length = j ∧ (∀ p ∈ ps, Sm p) ∧ t1 ≤ t' ∧ t' ≤ t1 + 7 * (j : Int) ∧ 0 ≤ r' ∧ PenAt H' p c ns t' r' ∧
        (∀ b o, H1 b = some o → b ≠ p → H' b = some o)) ?_ ?_ ?_⟩
      · exact ⟨t1, r1, [], [], upd_same, .nil, rfl, (fun _ z => nomatch z), by omega, by omega, b3, ⟨by rw [upd_ne (ne_of_none pen1.d hD2)]; exact pen1.d, by rw [upd_ne (ne_of_none pen1.l hD2)]; exact pen1.l⟩, fun b o e _ => by rw [upd_ne (ne_of_none e hD2)]; exact e⟩
      · rintro j H2 hj ⟨t2, r2, cells, ps, hD3, hf, hpl, hps, c1, c2, c3, pen2, kp2⟩
        refine ⟨rfl, ?_⟩
        dsimp only [tYes]
        rw [if_pos rfl]
        refine ⟨_, rfl, p, c, ns, t2, r2, rfl, pen2, hl, by omega, by omega, c3, fun v d t3 r3 H3 hsd hfd e1 e2 e3 pen3 kp3 => ?_⟩
        have nD2 : D2 ≠ p := ne_of hD3 pen2.d (by intro z; cases z)
        have nP : ∀ {b o}, H1 b = some o → b ≠ D2 := fun {b o} z w => by
          rw [w, hD2] at z
          cases z
        refine ⟨cells, kp3 _ _ hD3 nD2, ?_, t3, r3, cells ++ [v], ps ++ [d], upd_same, Paired.app hf (.cons hfd .nil), by rw [List.length_append, hpl]; rfl, ?_, by omega, by omega, e3, ?_, fun b o e hb => ?_⟩
        · rw [Paired.length hf, hpl]
          exact Nat.lt_of_lt_of_le hj (Nat.le_trans hn (by decide))
        · intro q hq
          rcases List.mem_append.mp hq with z | z
          · exact hps q z
          · rcases List.mem_singleton.mp z with rfl
            exact hsd
        · have nl : c ≠ D2 := nP pen1.l
          exact ⟨by rw [upd_ne (Ne.symm nD2)]; exact pen3.d, by rw [upd_ne nl]; exact pen3.l⟩
        · rw [upd_ne (nP e)]
          exact kp3 _ _ (kp2 _ _ e hb) hb
      · rintro H2 ⟨t2, r2, cells, ps, hD3, hf, hpl, hps, c1, c2, c3, pen2, kp2⟩
        have nDp : D ≠ p := ne_of hD1 pen1.d (by intro z; cases z)
        have nDD : D2 ≠ D := fun z => by
          rw [z, hD1] at hD2
          cases hD2
        have nPD : c ≠ D := fun z => by
          have q := pen.l
          rw [z, hD] at q
          cases q
        refine ⟨rs.map V.ref, kp2 _ _ hD1 nDp, ?_, t2, r2, rs ++ [D2], rows ++ [ps], by rw [upd_same, List.map_append]; rfl, ?_, by rw [List.length_append, hlen]; rfl, ?_, by omega, by omega, c3, ?_, fun b o e hb => ?_, ?_⟩
        · rw [List.length_map, Paired.length hrs, hlen]
          exact Nat.lt_of_lt_of_le hi (Nat.le_trans hn (by decide))
        · refine Paired.app (pair_mem hrs fun a qs ha ⟨cs, z, q⟩ => ⟨cs, ?_, q⟩) (.cons ⟨cells, by rw [upd_ne nDD]; exact hD3, hf⟩ .nil)
          rw [upd_ne (hne a ha)]
          refine kp2 _ _ z fun w => ?_
          have q2 := pen1.d
          rw [← w, z] at q2
          cases q2
        · intro qs hq
          rcases List.mem_append.mp hq with z | z
          · exact hsm qs z
          · rcases List.mem_singleton.mp z with rfl
            exact ⟨hpl, hps⟩
        · exact ⟨by rw [upd_ne (Ne.symm nDp)]; exact pen2.d, by rw [upd_ne nPD]; exact pen2.l⟩
        · have nbD : b ≠ D := fun z => by
            rw [z, hD] at e
            cases e
          rw [upd_ne nbD]
          exact kp2 _ _ (kp1 _ _ e hb) hb
        · intro a ha
          rcases List.mem_append.mp ha with z | z
          · exact hne a z
          · rcases List.mem_singleton.mp z with rfl
            exact nDD
    · rintro H1 ⟨t1, r1, rs, rows, hD1, hrs, hlen, hsm, b1, b2, b3, pen1, kp1, hne⟩
      exact k D rows t1 r1 H1 ⟨hlen, hsm⟩ ⟨rs, hD1, hrs⟩ hD b1 (by omega) b3 pen1 kp1
end
end VK

namespace VK
open PySem PySem.VK PySem.Spec PyProof.Rows L2

abbrev sRefused : Stmt := topS 37
theorem scRefused : FnScope ["_law_call", "_law_kept", "e"] ["_law_call"] (defScope sRefused) := ⟨rfl, rfl, rfl, by decide +kernel, rfl, by decide +kernel, by decide +kernel⟩
/-- what refused(lambda: ..) asks of what the lambda does: it raises InvalidNumber -/
def TRef (CN : Addr) : (XK → Hp → VK → Prop) → Hp → VK → Prop := fun tl H Q =>
  tl (fun cls d H2 => ∃ dd v dt, cls = .ref CN ∧ d = some dd ∧ H2 dd = some (.xd [("value", v)]) ∧ Dt H2 v dt ∧ topDict dt = true ∧ dt.showable = true ∧ dt.shown.length ≤ sizeLine ∧ dt.depth ≤ 60 ∧ ∀ L H3, Same H2 H3 → H3 L = some (.lst [.str dt.shown]) → Q (.ref L) H3) H (fun _ _ => False)
section
variable {X : Cx} {CN CT g : Addr} {cdg : Value} {q : Str}
theorem pe_weak {X : Cx} {e : Expr} {te : TE} (h : PE X e te) (Qn : VK) : PE X e (fun σ H Q => (∀ v H2, Qn v H2 → Q v H2) ∧ te σ H Qn) :=
  ⟨fun pins s σ H Q I z => wpAny_mono (h.run pins s σ H Qn I z.2) (fun u s2 ⟨v, H2, I2, r, q⟩ => ⟨v, H2, I2, r, z.1 _ _ q⟩) fun _ _ w => w⟩
theorem refused_gives (T : Bx X.mg) (EN : EC X.prog X.K X.mg "InvalidNumber" CN xValueError (some "value")) (ET : EC X.prog X.K X.mg "InvalidTable" CT xValueError (some "value")) (gu : X.A.guards = some []) (hroom : Room 2 X.A) :
    LamX.GivesTo X ["_law_call", "_law_kept", "e"] "_law_refused" (defScope sRefused) g cdg (defBody sRefused) "_law_call" q (TRef CN) := by
  intro f c1 s H Q tl act hc h
  have hu : (X.A.deeper (envOfC "_law_refused" (defScope sRefused) s.heap.objs.size g cdg)).units + 64 < cLine := (hroom.deeper _).units
  refine ⟨_, (pss_cons (ps_set (i := 1) scRefused.nd rfl (Or.inl rfl) pe_non)
    (pss_cons (ps_try_tr (i := 2) (c := .ref CN) (tb := fun W D σ H => ∃ (Ech : XK) (Qn : VK), (∀ cls d σ2 H2, Ech cls d H2 → W cls d σ2 H2) ∧ (∀ v H2, Qn v H2 → D.nx σ H2) ∧ σ[0]? = some (some (.ref f)) ∧ H c1 = some (LamX.CodeO c1 q) ∧ tl Ech H Qn) rfl rfl scRefused.nd rfl rfl ⟨rfl, by decide, .inl EN.g⟩ takes0 (fun W pn xe tk _ => ?_) (fun a cls d pn => pss_one (ps_set (i := 1) scRefused.nd rfl (Or.inl rfl) (pv 2))))
    (pss_cons (ps_if (pt_cmpR op_isN (pv 1) pe_non (nomark _)) (pss_one (ps_ret (pe_lst pa_nil))) pss_nil)
    (pss_one (ps_ret (pe_op op_rep (pe_lst (pa_cons (pe_callB (call_repr gu hu) (by rfl) T.n_repr (by decide +kernel) (pa_cons (pe_xatR (pv 1)) pa_nil)) pa_nil)) (pe_callTy call_int1 (by rfl) T.n_int (by decide +kernel) (pa_cons (pe_and (pe_callB call_isR (by rfl) T.n_isinstance (by decide +kernel) (pa_cons (pv 1) (pa_cons (pe_bltn (v := .ty "ValueError") (by rfl) T.n_ValueError (by decide +kernel) rfl) pa_nil))) (pe_one (pe_not (pe_callB call_isR (by rfl) T.n_isinstance (by decide +kernel) (pa_cons (pv 1) (pa_cons (pe_glob (v := .ref CT) rfl ET.g rfl) pa_nil)))))) pa_nil)))))))), ?_⟩
  · refine ⟨fun pins s2 σ H1 D I h2 => ?_⟩
    obtain ⟨Ech, Qn, hW, hQ, h1, h3, h4⟩ := h2
    have hp := fun p1 p2 => act W pn xe Ech p1 p2 tk hW
    exact (pss_one (ps_expr (pe_weak (hp _ _) Qn))).run pins s2 σ H1 D I ⟨fun v H2 z => hQ v H2 z, h1, h3, h4⟩
  · refine ⟨fun cls d H2 => ∃ dd v dt, cls = .ref CN ∧ d = some dd ∧ H2 dd = some (.xd [("value", v)]) ∧ Dt H2 v dt ∧ topDict dt = true ∧ dt.showable = true ∧ dt.shown.length ≤ sizeLine ∧ dt.depth ≤ 60 ∧ ∀ L H3, Same H2 H3 → H3 L = some (.lst [.str dt.shown]) → Q (.ref L) H3, fun _ _ => False, ?_, (fun _ _ z => z.elim), rfl, hc, ?_⟩
    · rintro cls d σ2 H2 ⟨dd, v, dt, rfl, rfl, hd, hv, m1, m2, m3, m4, k⟩ hlen
      obtain ⟨b0, b1, b2, rfl⟩ : ∃ b0 b1 b2, σ2 = [b0, b1, b2] := by
        rcases σ2 with _ | ⟨b0, _ | ⟨b1, _ | ⟨b2, _ | ⟨b3, r⟩⟩⟩⟩
        · cases hlen
        · cases hlen
        · cases hlen
        · exact ⟨_, _, _, rfl⟩
        · cases hlen
      refine ⟨true, PySem.W.exm_ref EN.T.sBE EN.T.hsd EN.T.tyC EN.T.mC, fun _ a ha => ?_, fun z => by cases z⟩
      have s1 : Same H2 (upd H2 a (exR a (.ref CN) (some dd))) := new_same ha
      have hd1 := s1 _ _ hd
      have hv1 := hv.same s1
      refine ⟨_, rfl, ?_⟩
      -- if kept is None
      refine ⟨_, rfl, rfl, _, rfl, iteF ?_⟩
      -- [repr(kept.value)] * int(..)
      refine ⟨_, rfl, a, CN, dd, v, rfl, upd_same, hd1, EN.xok, EN.get, v, dt, rfl, hv1.dr m1, m2, m3, m4, ?_⟩
      refine ⟨Nat.le_of_ble_eq_true rfl, fun p hp => ?_⟩
      have s2 := s1.trans (new_same (o := .lst [.str dt.shown]) hp)
      have ea : upd (upd H2 a (exR a (.ref CN) (some dd))) p (.lst [.str dt.shown]) a = some (exR a (.ref CN) (some dd)) := by
        rw [upd_ne (ne_of_none upd_same hp)]
        exact upd_same
      refine ⟨_, rfl, a, CN, some dd, .ty "ValueError", .type "ValueError", _, rfl, ea, (fun d2 z => by cases z; exact ⟨_, s2 _ _ hd⟩), EN.xok, (fun _ z => z), EN.kitT (T := "ValueError") (by decide +kernel), _, rfl, ?_⟩
      refine iteT ?_
      refine ⟨_, rfl, a, CN, some dd, .ref CT, .ref CT, _, rfl, ea, (fun d2 z => by cases z; exact ⟨_, s2 _ _ hd⟩), EN.xok, (fun _ z => z), EN.kit ET, _, rfl, ?_⟩
      refine .inr ⟨true, rfl, ?_⟩
      refine ⟨p, 1, _, rfl, rfl, upd_same, by decide, by decide, Nat.le_of_ble_eq_true rfl, fun L hL => ?_⟩
      exact k L _ (s2.trans (new_same hL)) upd_same
    · exact h
/-- refused(lambda: ..) in the law -/
theorem pe_ref {q0 : Str} {c Pt fR : Addr} {oc kV doc pm cdv ct : Value} {od an : Option Addr} {osl : Array (Option Value)} {params : Arguments} {body : Expr} {scope : Scope} {t : XK → TE} {p lpos pos : Pos} (hq : X.env.qual = q0) (hg : Gl X "_law_refused") (gR : X.mg "_law_refused" = some (.ref fR)) (kR : PySem.W.keepIn X.K (.ref fR) = true)
    (lkR : X.K.lookup fR = some ⟨oc, od, .func (PySem.W.fnOf "_law_refused" "_law_refused" (defArgs sRefused) (defBody sRefused) (defScope sRefused) .none kV doc pm an cdv ct), osl⟩) (hcR : PySem.W.codeIn X.K cdv "_law_refused" = true)
    (bR : Binds X.K (PySem.W.fnOf "_law_refused" "_law_refused" (defArgs sRefused) (defBody sRefused) (defScope sRefused) .none kV doc pm an cdv ct) ["_law_call"] [])
    (T : Bx X.mg) (EN : EC X.prog X.K X.mg "InvalidNumber" CN xValueError (some "value")) (ET : EC X.prog X.K X.mg "InvalidTable" CT xValueError (some "value")) (gu : X.A.guards = some []) (TB : LamX.TabB X.base X.mg c Pt) (hcode : X.env.code = .ref c) (hr : Room 6 X.A) (L : LamX.LamS X.env.scope scope) (hdef : defaultsOf params X.env = ([], []))
    (hbind : ∀ (q : Str) (cl : List (Str × Addr)) (pm cv ctv : Value), bindArgs (PySem.W.kla_fn "<lambda>" q params body scope cl pm cv ctv) ⟨[], []⟩ = pure [])
    (hbody : ∀ (A : Around) (outer : List Env) (s : Shared) (H : Hp) (E : XK) (f c' : Addr), Room 4 (A.deeper (LamX.lamEnv X scope s.heap.objs.size f c')) → PE (LamX.lamCx X A outer s H E scope f c') body (t E)) :
    PE X (.Call (.Name "_law_refused" p) [.Lambda params body scope lpos] [] pos) (LamX.tLam [(Pt, q0 ++ "<lambda>")] (TRef CN) t) := by
  have z := LamX.pe_lamcall (T := [(Pt, X.env.qual ++ "<lambda>")]) (k := 4) (TT := TRef CN) (t := t) (p := p) (lpos := lpos) (pos := pos) hg gR kR lkR hcR bR scRefused rfl (.inl rfl) (refused_gives T EN ET gu (hr.mono (by decide))) TB hcode List.mem_cons_self (fun q hq _ => by rcases List.mem_singleton.mp hq with rfl; rfl) hr L hdef hbind hbody
  rw [hq] at z
  exact z
end
end VK

namespace VK
open PySem PySem.VK PySem.Spec PyProof.Rows L2
theorem int_show {i : Int} (h0 : 0 ≤ i) (h1 : i < 100000000000000000000) : (PyData.int i).showable = true ∧ (PyData.int i).shown.length ≤ 21 := by
  have hn : i.natAbs < 10 ^ 20 := by omega
  have h2 : i.natAbs < 2 ^ 67 := Nat.lt_of_lt_of_le hn (by decide)
  constructor
  · simp only [PyData.showable, decide_eq_true_eq]
    by_cases e : i.natAbs = 0
    · rw [e]
      decide
    · exact Nat.lt_of_lt_of_le ((Nat.log2_lt e).mpr h2) (by decide)
  · have q := int_text_length_le10 (a := i) (k := 20) (by decide) hn
    show (Str.ofString (toString i)).length ≤ 21
    rw [PySem.ofString_length]
    exact q
theorem sm_one {d : PyData} (h : Sm d) : d.showable = true ∧ d.shown.length ≤ 21 ∧ d.depth = 0 ∧ d.hasDict = false := by
  rcases h with rfl | ⟨i, rfl, h0, h1⟩
  · exact ⟨rfl, by decide +kernel, rfl, rfl⟩
  · obtain ⟨a, b⟩ := int_show h0 h1
    exact ⟨a, b, rfl, rfl⟩
theorem sm_show {d : PyData} (h : Sm d) : topDict (.list [d, d]) = true ∧ (PyData.list [d, d]).showable = true ∧ (PyData.list [d, d]).shown.length ≤ 10000 ∧ (PyData.list [d, d]).depth ≤ 60 := by
  obtain ⟨h1, h2, h3, h4⟩ := sm_one h
  refine ⟨?_, ?_, ?_, ?_⟩
  · simp only [topDict, PyData.hasDict, PyData.hasDictAll, h4]
    rfl
  · simp only [PyData.showable, PyData.showableAll, h1]
    rfl
  · show ((((Str.ofString "[" ++ Str.ofString "" ++ d.shown) ++ Str.ofString ", " ++ d.shown) ++ Str.ofString "]") : Str).length ≤ 10000
    rw [strLen_append, strLen_append, strLen_append, strLen_append, strLen_append]
    have e1 : (Str.ofString "[").length = 1 := by decide +kernel
    have e2 : (Str.ofString "").length = 0 := by decide +kernel
    have e3 : (Str.ofString ", ").length = 2 := by decide +kernel
    have e4 : (Str.ofString "]").length = 1 := by decide +kernel
    omega
  · simp only [PyData.depth, PyData.depthAll, h3]
    decide
end VK

namespace VK
open PySem PySem.VK PySem.Spec PyProof.Rows L2
abbrev sLaw : Stmt := topS 38
theorem scLaw : FnScope ["_law_script", "_law_pen_here", "_law_turn", "_law_rows_here", "_law_a", "_law_b", "_law_bad", "_law_size", "_law_table", "_law_worse"] ["_law_script"] (defScope sLaw) := ⟨rfl, rfl, rfl, by decide +kernel, rfl, by decide +kernel, by decide +kernel⟩
def qLaw : Str := (envOfC "law" (defScope sLaw) 0 0 .none).qual
def spLaw (K : PySem.W.Frag) (Pt : Addr) : Sp := fun vs H Q _ => ∃ (a : Addr) (ns : List Int), vs = [.ref a] ∧ SqL K H a (ns.map V.int) ∧ ns.length ≤ 63 ∧ LamX.Tabs [(Pt, qLaw ++ "<lambda>")] H ∧ ∀ H', Q (.bl true) H'
def kwG {α : Type} (us ws : List α) : List α := match us, ws with
  | [a], [b, c] => [a, c, b]
  | _, _ => []
def badL (n : Nat) : List PyData := [.int n, .int (-1), .bool true, .bool false, .none, .str "0", .tuple [.int 0], .list [], .int (10 ^ (30 : Int).toNat), .dict []]
def worL (n : Nat) : List PyData := [.int n, .none, .int 0]
theorem bad_ok : ∀ n, n < 6 → ∀ d ∈ badL n, topDict d = true ∧ d.showable = true ∧ d.shown.length ≤ 10000 ∧ d.depth ≤ 60 ∧ PyData.strOk d.shown = true ∧ btw d 0 ((n : Int) - 1) = false := by decide +kernel
theorem ed_varI {σ : L2.St} {i : Nat} {z : Int} (h : σ[i]? = some (some (.int z))) : EvD (tVar i) σ (.int z) := fun H _ k => ⟨_, h, k _ H (Same.refl H) (.int z) (fun _ q => nomatch q)⟩
theorem tabs_but {T : List (Addr × Str)} {H H2 : Hp} {p : Addr} {kvs : List (Key × V)} (t : LamX.Tabs T H) (hp : H p = some (.dK kvs)) (k : ∀ b o, H b = some o → b ≠ p → H2 b = some o) : LamX.Tabs T H2 := by
  intro q hq
  obtain ⟨ps, h1, h2, h3⟩ := t q hq
  refine ⟨ps, k _ _ h1 (fun z => ?_), h2, fun pos cv hc => ?_⟩
  · rw [z, hp] at h1
    cases h1
  · obtain ⟨c, e1, e2⟩ := h3 pos cv hc
    refine ⟨c, e1, k _ _ e2 fun z => ?_⟩
    rw [z, hp] at e2
    unfold LamX.CodeO at e2
    cases e2
section
variable {P : Program} {w : World} {K : PySem.W.Frag} {mg : Str → Option Value} {base : Heap} {C CN CT : Addr}
theorem ok_law {f f1 f2 f3 f4 fI fP fR cL Pt : Addr} {fd d1 d2 d3 d4 dI dP : FuncData} {oc kV doc pm cdv ct : Value} {od an : Option Addr} {osl : Array (Option Value)} (F : Fun K "law" "law" sLaw f fd) (T : Bx mg) (TT : Tt K mg C) (hcode : fd.code = .ref cL)
    (TB : ∀ p ∈ [(cL, Pt)], LamX.TabB base mg p.1 p.2)
    (F1 : Ld P w K mg base "_law_pen" 1 f1 d1 ["_law_script"] (spPen K)) (F2 : Ld P w K mg base "_law_draw" 1 f2 d2 ["_law_pen_here", "_law_size"] spDraw) (F3 : Ld P w K mg base "_law_pick" 2 f3 d3 ["_law_pen_here", "_law_options"] spPick) (F4 : Ld P w K mg base "_law_rows" 4 f4 d4 ["_law_pen_here", "_law_letters"] spLRows)
    (MT : Mk K C fI) (GI : FnOk P w K mg base CX0 5 fI dI ["self", "rows"] (spTInit C)) (bI : Binds K dI ["self", "rows"] [])
    (mP : Meth K C "price" fP) (GP : FnOk P w K mg base (L2.CX P w) 4 fP dP ["self", "first", "second"] (spPrice C CN)) (bP : Binds K dP ["self", "first", "second"] []) (kP : KBinds K dP ["self", "first", "second"] ["second", "first"] kwG kwG)
    (EN : EC P K mg "InvalidNumber" CN xValueError (some "value")) (ET : EC P K mg "InvalidTable" CT xValueError (some "value"))
    (gR : mg "_law_refused" = some (.ref fR)) (kR : PySem.W.keepIn K (.ref fR) = true) (lkR : K.lookup fR = some ⟨oc, od, .func (PySem.W.fnOf "_law_refused" "_law_refused" (defArgs sRefused) (defBody sRefused) (defScope sRefused) .none kV doc pm an cdv ct), osl⟩) (hcR : PySem.W.codeIn K cdv "_law_refused" = true)
    (bR : Binds K (PySem.W.fnOf "_law_refused" "_law_refused" (defArgs sRefused) (defBody sRefused) (defScope sRefused) .none kV doc pm an cdv ct) ["_law_call"] []) : FnG P w K mg base CX0 7 f fd ["_law_script"] (spLaw K Pt) := by
  refine FnG.by_bodyC F scLaw (fun vs H Q E h => ?_) (fun A outer s H vs Q E hr gu h => ?_)
  · obtain ⟨a, ns, rfl, _⟩ := h
    rfl
  · obtain ⟨a, ns, rfl, hS, hlen, tbs, k⟩ := h
    have hr1 := hr.mono (j := 1) (by decide)
    have hr2 := hr.mono (j := 2) (by decide)
    have hr4 := hr.mono (j := 4) (by decide)
    have hr6 := hr.mono (j := 6) (by decide)
    refine ⟨_, (pss_cons (ps_set (i := 1) scLaw.nd rfl (Or.inl rfl) (pe_call F1.G hr1 rfl F1.g F1.k F1.b .nil pass0 (pa_cons (pv 0) pa_nil)))
    (pss_cons (ps_for PassesOwn.never rfl (pi_range1 rfl T.n_range (pa_cons pe_int pa_nil)) (pg_name (i := 2) scLaw.nd rfl (Or.inl rfl)) (pss_cons (ps_set (i := 7) scLaw.nd rfl (Or.inr rfl) (pe_op op_add pe_int (pe_call F2.G hr1 rfl F2.g F2.k F2.b .nil pass0 (pa_cons (pv 1) (pa_cons pe_int pa_nil)))))
    (pss_cons (ps_set (i := 3) scLaw.nd rfl (Or.inl rfl) (pe_call F4.G hr4 rfl F4.g F4.k F4.b .nil pass0 (pa_cons (pv 1) (pa_cons (pv 7) pa_nil))))
    (pss_cons (ps_set (i := 8) scLaw.nd rfl (Or.inr rfl) (pe_make MT GI hr6 rfl TT.g bI .nil pass0 (pa_cons (pv 3) pa_nil)))
    (pss_cons (ps_for PassesOwn.never rfl (pi_range1 rfl T.n_range (pa_cons (pv 7) pa_nil)) (pg_name (i := 4) scLaw.nd rfl (Or.inl rfl)) (pss_one (ps_for PassesOwn.never rfl (pi_range1 rfl T.n_range (pa_cons (pv 7) pa_nil)) (pg_name (i := 5) scLaw.nd rfl (Or.inl rfl)) (pss_one (ps_if (pt_cmpR op_ne (pe_callB (call_repr gu hr.units) (by rfl) T.n_repr (by decide +kernel) (pa_cons (pe_lst (pa_cons (pe_meth (pv 8) TT.cl mP GP hr4 bP .nil passN (pa_cons (pv 4) (pa_cons (pv 5) pa_nil))) (pa_cons (pe_methK (pv 8) TT.cl mP GP hr4 kP passN (pk_cons (pv 5) (pk_cons (pv 4) pk_nil))) pa_nil))) pa_nil)) (pe_callB (call_repr gu hr.units) (by rfl) T.n_repr (by decide +kernel) (pa_cons (pe_op op_rep (pe_lst (pa_cons (pe_ix ix_list (pe_ix ix_list (pv 3) (pv 4) (fun _ _ => rfl)) (pv 5) (fun _ _ => rfl)) pa_nil)) pe_int) pa_nil)) (nomark _)) (pss_one (ps_ret pe_bl)) pss_nil)))))
    (pss_cons (ps_set (i := 6) scLaw.nd rfl (Or.inr rfl) (pe_call F3.G hr2 rfl F3.g F3.k F3.b .nil pass0 (pa_cons (pv 1) (pa_cons (pe_lst (pa_cons (pv 7) (pa_cons (pe_un un_neg pe_int) (pa_cons pe_bl (pa_cons pe_bl (pa_cons pe_non (pa_cons pe_str (pa_cons (pe_tup (pa_cons pe_int pa_nil)) (pa_cons (pe_lst pa_nil) (pa_cons (pe_op op_pow pe_int pe_int) (pa_cons pe_dnewK pa_nil))))))))))) pa_nil))))
    (pss_cons (ps_set (i := 9) scLaw.nd rfl (Or.inr rfl) (pe_call F3.G hr2 rfl F3.g F3.k F3.b .nil pass0 (pa_cons (pv 1) (pa_cons (pe_lst (pa_cons (pv 7) (pa_cons pe_non (pa_cons pe_int pa_nil)))) pa_nil))))
    (pss_cons (ps_if (pt_cmpR (op_neD hr.units) (pe_ref (q0 := qLaw) (CN := CN) (CT := CT) rfl (by rfl) gR kR lkR hcR bR T EN ET gu (TB _ List.mem_cons_self) hcode hr6 (LamX.lamS_by (sc := defScope sLaw) (by decide +kernel)) rfl (fun _ _ _ _ _ => rfl) (fun A2 o2 s2 H2 E2 f2 c2 hr' => pe_meth (pv 8) TT.cl mP GP hr' bP .nil (passes_call (takes_of rfl rfl rfl rfl) (fun _ _ _ _ z => z)) (pa_cons (pv 6) (pa_cons (pv 9) pa_nil)))) (pe_lst (pa_cons (pe_callB (call_repr gu hr.units) (by rfl) T.n_repr (by decide +kernel) (pa_cons (pv 6) pa_nil)) pa_nil)) (nomark _)) (pss_one (ps_ret pe_bl)) pss_nil)
    (pss_one (ps_if (pt_cmpR (op_neD hr.units) (pe_ref (q0 := qLaw) (CN := CN) (CT := CT) rfl (by rfl) gR kR lkR hcR bR T EN ET gu (TB _ List.mem_cons_self) hcode hr6 (LamX.lamS_by (sc := defScope sLaw) (by decide +kernel)) rfl (fun _ _ _ _ _ => rfl) (fun A2 o2 s2 H2 E2 f2 c2 hr' => pe_meth (pv 8) TT.cl mP GP hr' bP .nil (passes_call (takes_of rfl rfl rfl rfl) (fun _ _ _ _ z => z)) (pa_cons (pe_op op_sub (pv 7) pe_int) (pa_cons (pv 6) pa_nil)))) (pe_lst (pa_cons (pe_callB (call_repr gu hr.units) (by rfl) T.n_repr (by decide +kernel) (pa_cons (pv 6) pa_nil)) pa_nil)) (nomark _)) (pss_one (ps_ret pe_bl)) pss_nil))))))))))
    (pss_one (ps_ret pe_bl)))), ?_⟩
    refine ⟨_, rfl, a, ns, rfl, hS, hlen, fun p c H1 hp hc pen s1 => ?_⟩
    refine ⟨10, rfl, by decide, by decide, for_range (lo := 0) (n := 10) (fun i σ H2 => ∃ (t r : Int) (x2 x3 x4 x5 x6 x7 x8 x9 : Option V), σ = [some (.ref a), some (.ref p), x2, x3, x4, x5, x6, x7, x8, x9] ∧ PenAt H2 p c ns t r ∧ 0 ≤ t ∧ t ≤ 300 * (i : Int) ∧ 0 ≤ r ∧ LamX.Tabs [(Pt, qLaw ++ "<lambda>")] H2)
      ⟨0, 0, none, none, none, none, none, none, none, none, rfl, pen, by omega, by omega, by omega, tbs.ext s1⟩ ?_ fun σ H2 ⟨_, _, _, _, _, _, _, _, _, _, _⟩ => k H2⟩
    rintro i σ H2 hi ⟨t, r, x2, x3, x4, x5, x6, x7, x8, x9, rfl, pen2, ht0, ht1, hr0, tb2⟩
    -- size, rows, table
    refine ⟨_, rfl, p, c, ns, t, r, 5, rfl, pen2, hlen, ht0, by omega, hr0, by decide, by decide, fun i0 t3 r3 H3 a3 b3 c3 e3 f3 pen3 kp3 => ⟨_, _, rfl, rfl, ?_⟩⟩
    obtain ⟨n, hn⟩ : ∃ n : Nat, 1 + i0 = (n : Int) := ⟨(1 + i0).toNat, by omega⟩
    have n1 : 1 ≤ n := by omega
    have n5 : n ≤ 5 := by omega
    dsimp only
    rw [hn]
    have tb3 := tabs_but tb2 pen2.d kp3
    refine ⟨_, rfl, _, rfl, p, c, ns, t3, r3, n, rfl, pen3, hlen, by omega, by omega, f3, by omega, fun a4 rows t4 r4 H4 sm rat hf4 c4 e4 f4 pen4 kp4 => ?_⟩
    have tb4 := tabs_but tb3 pen3.d kp4
    have okr : OkRows n rows := ⟨sm.len, n1, n5, fun ps hps => ⟨(sm.row ps hps).1, fun q hq => ((sm.row ps hps).2 q hq).isP⟩⟩
    refine ⟨_, rfl, fun tb dx htb hdx hne => ?_⟩
    have s5 : Same H4 (upd (upd H4 dx (.own tb)) tb (.ins C dx [])) := fun b o e => by rw [upd_ne (ne_of_none e htb), upd_ne (ne_of_none e hdx)]; exact e
    refine ⟨tb, a4, dx, n, rows, rfl, upd_same, rat.ext fun b xs e => s5 _ _ e, okr, fun H6 tab kp6 => ⟨rfl, ?_⟩⟩
    have s6 : Same H4 H6 := fun b o e => kp6 b o (s5 b o e) (ne_of_none e htb)
    -- for a, for b
    refine ⟨_, rfl, (n : Int), rfl, by omega, by omega, for_range (lo := 0) (n := n) (fun _ σ H7 => ∃ x4 x5 : Option V, σ = [some (.ref a), some (.ref p), some (.int (0 + (i : Int))), some (.ref a4), x4, x5, x6, some (.int (n : Int)), some (.ref tb), x9] ∧ Same H6 H7)
      ⟨_, _, rfl, Same.refl _⟩ ?_ ?_⟩
    · rintro ia σ H7 hia ⟨y4, y5, rfl, s7⟩
      refine ⟨_, rfl, (n : Int), rfl, by omega, by omega, for_range (lo := 0) (n := n) (fun _ σ H8 => ∃ x5 : Option V, σ = [some (.ref a), some (.ref p), some (.int (0 + (i : Int))), some (.ref a4), some (.int (0 + (ia : Int))), x5, x6, some (.int (n : Int)), some (.ref tb), x9] ∧ Same H7 H8)
        ⟨_, rfl, Same.refl _⟩ ?_ fun σ H8 ⟨z5, e, s8⟩ => ⟨_, _, e, s7.trans s8⟩⟩
      rintro ib σ H8 hib ⟨z5, rfl, s8⟩
      have s68 : Same H6 H8 := s7.trans s8
      rw [show (0 : Int) + (ib : Int) = (ib : Int) from Int.zero_add _, show (0 : Int) + (ia : Int) = (ia : Int) from Int.zero_add _]
      have lra : ia < rows.length := by have := okr.len; omega
      obtain ⟨row, hra⟩ : ∃ row, rows[ia]? = some row := ⟨_, List.getElem?_eq_getElem lra⟩
      obtain ⟨lps, hps⟩ := sm.row row (List.mem_of_getElem? hra)
      have lrb : ib < row.length := by omega
      obtain ⟨pd, hpb⟩ : ∃ pd, row[ib]? = some pd := ⟨_, List.getElem?_eq_getElem lrb⟩
      have hsm : Sm pd := hps pd (List.mem_of_getElem? hpb)
      have bta : btw (.int (ia : Int)) 0 ((n : Int) - 1) = true := by
        show (decide ((0 : Int) ≤ (ia : Int)) && decide ((ia : Int) ≤ (n : Int) - 1)) = true
        rw [decide_eq_true (by omega), decide_eq_true (by omega)]
        rfl
      have btb : btw (.int (ib : Int)) 0 ((n : Int) - 1) = true := by
        show (decide ((0 : Int) ≤ (ib : Int)) && decide ((ib : Int) ≤ (n : Int) - 1)) = true
        rw [decide_eq_true (by omega), decide_eq_true (by omega)]
        rfl
      have tab8 := tab.ext (H' := H8) fun b o e _ _ => s68 b o e
      obtain ⟨tdx, tr, trs, th, _⟩ := id tab8
      -- price(a, b)
      refine ⟨_, rfl, tb, tdx, _, rfl, th, rfl, _, rfl, _, rfl, tb, n, rows, .int (ia : Int), .int (ib : Int), .int (ia : Int), .int (ib : Int), rfl, tab8, okr, .int _, .int _, fun _ _ i1 j1 ps1 p1 v1 H9 e1 e2 h1 h2 fl1 s9 => ?_, (fun z => absurd z (by rw [bta]; decide)), fun _ z => absurd z (by rw [btb]; decide)⟩
      have tab9 := tab8.ext (H' := H9) fun b o e _ _ => s9 b o e
      -- price(second=b, first=a)
      refine ⟨_, rfl, tb, tdx, _, rfl, s9 _ _ th, rfl, _, rfl, _, rfl, tb, n, rows, .int (ia : Int), .int (ib : Int), .int (ia : Int), .int (ib : Int), rfl, tab9, okr, .int _, .int _, fun _ _ i2 j2 ps2 p2 v2 H10 e3 e4 h3 h4 fl2 s10 => ?_, (fun z => absurd z (by rw [bta]; decide)), fun _ z => absurd z (by rw [btb]; decide)⟩
      have q1 : p1 = pd := by
        have z1 : ia = i1 := by injection e1 with z; omega
        have z2 : ib = j1 := by injection e2 with z; omega
        subst z1 z2
        rw [hra] at h1
        cases h1
        rw [hpb] at h2
        cases h2
        rfl
      have q2 : p2 = pd := by
        have z1 : ia = i2 := by injection e3 with z; omega
        have z2 : ib = j2 := by injection e4 with z; omega
        subst z1 z2
        rw [hra] at h3
        cases h3
        rw [hpb] at h4
        cases h4
        rfl
      rw [q1] at fl1
      rw [q2] at fl2
      obtain ⟨m1, m2, m3, m4⟩ := sm_show hsm
      refine ⟨Nat.le_of_ble_eq_true rfl, fun l hl => ?_⟩
      have dl : Dt (upd H10 l (.lst [v1, v2])) (.ref l) (.list [pd, pd]) := .lst upd_same (.cons fl1.dt (.cons fl2.dt .nil))
      refine ⟨.ref l, _, rfl, dl.dr m1, m2, Nat.le_trans m3 (by decide), m4, ?_⟩
      have s11 : Same H6 (upd H10 l (.lst [v1, v2])) := ((s68.trans s9).trans s10).trans (new_same hl)
      obtain ⟨rs, hra4, hrp⟩ := (rat.ext (H' := H6) fun b xs e => s6 _ _ e).ext (H' := upd H10 l (.lst [v1, v2])) fun b xs e => s11 _ _ e
      obtain ⟨rr, hrr, cells, hcell, hfl⟩ := Paired.atR hrp hra
      obtain ⟨v3, hv3, fl3⟩ := Paired.atR hfl hpb
      refine ⟨_, rfl, _, rfl, a4, _, _, .ref rr, rfl, rfl, SqL.of hra4, atI_nat (by rw [List.getElem?_map, hrr]; rfl), _, rfl, rr, cells, _, v3, rfl, rfl, SqL.of hcell, atI_nat hv3, ?_⟩
      refine ⟨Nat.le_of_ble_eq_true rfl, fun l2 hl2 => ?_⟩
      refine ⟨l2, 2, _, rfl, rfl, upd_same, by decide, by decide, Nat.le_of_ble_eq_true rfl, fun l3 hl3 => ?_⟩
      have dl3 : Dt (upd (upd (upd H10 l (.lst [v1, v2])) l2 (.lst [v3])) l3 (.lst (List.replicate (2 : Int).toNat [v3]).flatten)) (.ref l3) (.list [pd, pd]) := .lst upd_same (.cons fl3.dt (.cons fl3.dt .nil))
      refine ⟨.ref l3, _, rfl, dl3.dr m1, m2, Nat.le_trans m3 (by decide), m4, ?_⟩
      refine ⟨rfl, ?_⟩
      rw [decide_eq_true rfl]
      exact ⟨_, rfl, iteF ⟨_, rfl, s8.trans (s9.trans (s10.trans ((new_same hl).trans ((new_same hl2).trans (new_same hl3)))))⟩⟩
    · rintro σ H7 ⟨y4, y5, rfl, s7⟩
      have s47 : Same H4 H7 := s6.trans s7
      have pen7 : PenAt H7 p c ns t4 r4 := ⟨s47 _ _ pen4.d, s47 _ _ pen4.l⟩
      have tb7 := tb4.ext s47
      have tab7 := tab.ext (H' := H7) fun b o e _ _ => s7 b o e
      -- bad
      refine ⟨_, rfl, ?_⟩
      refine lst_evds (ds := badL n) (eds_cons (ed_varI rfl) (eds_cons (ed_neg 1) (eds_cons (ed_bl true) (eds_cons (ed_bl false) (eds_cons ed_non (eds_cons (ed_str _) (eds_cons (ed_tup (eds_cons (ed_int 0) eds_nil)) (eds_cons (ed_lst eds_nil) (eds_cons (ed_pow 10 30 ⟨by decide, by decide, by decide⟩) (eds_cons ed_dict0 eds_nil)))))))))) (Nat.le_of_ble_eq_true rfl) fun l xs H8 _ s8 hxl hxs _ => ?_
      have lx : xs.length = 10 := hxs.length
      refine ⟨p, c, l, ns, t4, r4, xs, rfl, ⟨s8 _ _ pen7.d, s8 _ _ pen7.l⟩, hlen, by omega, by omega, f4, hxl, by omega, by omega, fun vb t9 r9 H9 hvb c9 e9 f9 pen9 kp9 => ?_⟩
      obtain ⟨db, hdb, dvb⟩ := hxs.mem vb hvb
      have pen8 : PenAt H8 p c ns t4 r4 := ⟨s8 _ _ pen7.d, s8 _ _ pen7.l⟩
      have leanP : ∀ {Ha : Hp} {ta ra : Int} {b o}, PenAt Ha p c ns ta ra → Ha b = some o → Leans o → b ≠ p := fun {Ha ta ra b o} pn e le z => by
        subst z
        rw [pn.d] at e
        cases e
        exact le _ List.mem_cons_self c rfl
      have dvb9 : Dt H9 vb db := Dt.keep (fun b o e le => kp9 b o e (leanP pen8 e le)) db vb dvb
      have tb9 := tabs_but (tb7.ext s8) pen8.d kp9
      have tab9 := (tab7.ext (H' := H8) fun b o e _ _ => s8 b o e).ext (H' := H9) fun b o e _ nd => kp9 b o e fun z => by
        subst z
        rw [pen8.d] at e
        cases e
        exact nd _ rfl
      -- worse
      refine ⟨_, rfl, ?_⟩
      refine lst_evds (ds := worL n) (eds_cons (ed_varI rfl) (eds_cons ed_non (eds_cons (ed_int 0) eds_nil))) (Nat.le_of_ble_eq_true rfl) fun l2 ys H10 _ s10 hyl hys _ => ?_
      have ly : ys.length = 3 := hys.length
      have pen10 : PenAt H10 p c ns t9 r9 := ⟨s10 _ _ pen9.d, s10 _ _ pen9.l⟩
      refine ⟨p, c, l2, ns, t9, r9, ys, rfl, pen10, hlen, by omega, by omega, f9, hyl, by omega, by omega, fun vw t11 r11 H11 hvw c11 e11 f11 pen11 kp11 => ?_⟩
      obtain ⟨dw, _, dvw⟩ := hys.mem vw hvw
      have dvb11 : Dt H11 vb db := Dt.keep (fun b o e le => kp11 b o e (leanP pen10 e le)) db vb (dvb9.same s10)
      have dvw11 : Dt H11 vw dw := Dt.keep (fun b o e le => kp11 b o e (leanP pen10 e le)) dw vw dvw
      have tb11 := tabs_but (tb9.ext s10) pen10.d kp11
      have tab11 := (tab9.ext (H' := H10) fun b o e _ _ => s10 b o e).ext (H' := H11) fun b o e _ nd => kp11 b o e fun z => by
        subst z
        rw [pen10.d] at e
        cases e
        exact nd _ rfl
      obtain ⟨m1, m2, m3, m4, m5, m6⟩ := bad_ok n (by omega) db hdb
      -- refused(lambda: table.price(bad, worse))
      refine ⟨tb11, fun H12 ex12 tb12 => ?_⟩
      have ltb : ∀ {b o}, H11 b = some o → Leans o → H12 b = some o := fun {b o} e le => ex12 b o e fun ps z => by
        subst z
        exact le
      have tab12 := tab11.ext (H' := H12) fun b o e nt _ => ex12 b o e nt
      have pen12 : PenAt H12 p c ns t11 r11 := ⟨ex12 _ _ pen11.d (fun _ z => nomatch z), ex12 _ _ pen11.l (fun _ z => nomatch z)⟩
      have dvb12 : Dt H12 vb db := Dt.keep (fun b o e le => ltb e le) db vb dvb11
      have dvw12 : Dt H12 vw dw := Dt.keep (fun b o e le => ltb e le) dw vw dvw11
      obtain ⟨tdx, tr, trs, th12, _⟩ := id tab12
      refine ⟨_, rfl, tb, tdx, _, rfl, th12, rfl, _, rfl, _, rfl, tb, n, rows, vb, vw, db, dw, rfl, tab12, okr, dvb12, dvw12, (fun z => absurd z (by rw [m6]; decide)), (fun _ d H13 s13 hd => ?_), (fun z => absurd z (by rw [m6]; decide))⟩
      refine ⟨d, vb, db, rfl, rfl, hd, dvb12.same s13, m1, m2, Nat.le_trans m3 (by decide), m4, fun L H14 s14 hL => ?_⟩
      have s124 : Same H12 H14 := s13.trans s14
      have dvb14 := dvb12.same s124
      refine ⟨_, rfl, vb, db, rfl, dvb14.dr m1, m2, Nat.le_trans m3 (by decide), m4, Nat.le_of_ble_eq_true rfl, fun l5 hl5 => ?_⟩
      have s15 : Same H14 (upd H14 l5 (.lst [.str db.shown])) := new_same hl5
      refine ne_strs (ss := [db.shown]) (fun z hz => by rw [List.mem_singleton.mp hz]; exact m5) (s15 _ _ hL) upd_same ?_
      refine ⟨false, rfl, iteF ?_⟩
      -- refused(lambda: table.price(size - 1, bad))
      have sA := s124.trans s15
      refine ⟨tb12.ext sA, fun H16 ex16 tb16 => ?_⟩
      have tab16 := (tab12.ext (H' := upd H14 l5 (.lst [.str db.shown])) fun b o e _ _ => sA b o e).ext (H' := H16) fun b o e nt _ => ex16 b o e nt
      have pen16 : PenAt H16 p c ns t11 r11 := ⟨ex16 _ _ (sA _ _ pen12.d) (fun _ z => nomatch z), ex16 _ _ (sA _ _ pen12.l) (fun _ z => nomatch z)⟩
      have dvb16 : Dt H16 vb db := Dt.keep (fun b o e le => ex16 b o e fun ps z => by
        subst z
        exact le) db vb (dvb12.same sA)
      obtain ⟨tdx2, tr2, trs2, th16, _⟩ := id tab16
      have btn : btw (.int ((n : Int) - 1)) 0 ((n : Int) - 1) = true := by
        show (decide ((0 : Int) ≤ (n : Int) - 1) && decide ((n : Int) - 1 ≤ (n : Int) - 1)) = true
        rw [decide_eq_true (by omega), decide_eq_true (by omega)]
        rfl
      refine ⟨_, rfl, tb, tdx2, _, rfl, th16, rfl, _, rfl, _, _, rfl, rfl, _, rfl, tb, n, rows, .int ((n : Int) - 1), vb, .int ((n : Int) - 1), db, rfl, tab16, okr, .int _, dvb16, (fun _ z => absurd z (by rw [m6]; decide)), (fun z => absurd z (by rw [btn]; decide)), fun _ _ d2 H17 s17 hd2 => ?_⟩
      refine ⟨d2, vb, db, rfl, rfl, hd2, dvb16.same s17, m1, m2, Nat.le_trans m3 (by decide), m4, fun L2 H18 s18 hL2 => ?_⟩
      have s168 : Same H16 H18 := s17.trans s18
      refine ⟨_, rfl, vb, db, rfl, (dvb16.same s168).dr m1, m2, Nat.le_trans m3 (by decide), m4, Nat.le_of_ble_eq_true rfl, fun l6 hl6 => ?_⟩
      have s19 : Same H18 (upd H18 l6 (.lst [.str db.shown])) := new_same hl6
      refine ne_strs (ss := [db.shown]) (fun z hz => by rw [List.mem_singleton.mp hz]; exact m5) (s19 _ _ hL2) upd_same ?_
      have sB := s168.trans s19
      exact ⟨false, rfl, iteF ⟨t11, r11, _, _, _, _, _, _, _, _, rfl, ⟨sB _ _ pen16.d, sB _ _ pen16.l⟩, by omega, by omega, f11, tb16.ext sB⟩⟩

end
end VK

namespace VK
open PySem PySem.VK PySem.Spec PyProof.Rows L2
/-- a def of the top, a method -/
def Fq (K : PySem.W.Frag) (nm q : Str) (st : Stmt) (ps : List Str) (f : Addr) (fd : FuncData) : Prop := Fun K nm q st f fd ∧ Binds K fd ps [] ∧ PySem.W.keepIn K (.ref f) = true
def Fd (K : PySem.W.Frag) (mg : Str → Option Value) (nm : Str) (st : Stmt) (ps : List Str) : Prop := ∃ (f : Addr) (fd : FuncData), Fq K nm nm st ps f fd ∧ mg nm = some (.ref f)
theorem fq_mk {K : PySem.W.Frag} {nm q : Str} {st : Stmt} {ps : List Str} {f : Addr} {oc : Value} {od an : Option Addr} {osl : Array (Option Value)} {kV doc pm cdv ct : Value}
    (hb : ∀ (kV doc pm : Value) (an : Option Addr) (cdv ct : Value) (us : List Value), us.length = ps.length → bindArgs (PySem.W.fnOf nm q (defArgs st) (defBody st) (defScope st) .none kV doc pm an cdv ct) ⟨us, []⟩ = pure (ps.zip us))
    (l : K.lookup f = some ⟨oc, od, .func (PySem.W.fnOf nm q (defArgs st) (defBody st) (defScope st) .none kV doc pm an cdv ct), osl⟩)
    (c : PySem.W.codeIn K cdv q = true) (k : PySem.W.keepIn K (.ref f) = true) : Fq K nm q st ps f (PySem.W.fnOf nm q (defArgs st) (defBody st) (defScope st) .none kV doc pm an cdv ct) :=
  ⟨fun_mk l c k, (fun_mk l c k).binds hb, k⟩
theorem fd_mk {K : PySem.W.Frag} {mg : Str → Option Value} {h : Heap} (X : K.In h) (G : h.Ns mainGlobals mg) {nm : Str} {st : Stmt} {ps : List Str} {f : Addr} {oc : Value} {od an : Option Addr} {osl : Array (Option Value)} {kV doc pm cdv ct : Value}
    (hb : ∀ (kV doc pm : Value) (an : Option Addr) (cdv ct : Value) (us : List Value), us.length = ps.length → bindArgs (PySem.W.fnOf nm nm (defArgs st) (defBody st) (defScope st) .none kV doc pm an cdv ct) ⟨us, []⟩ = pure (ps.zip us))
    (a : PySem.W.nsIn K mainGlobals nm = some (some (.ref f))) (l : K.lookup f = some ⟨oc, od, .func (PySem.W.fnOf nm nm (defArgs st) (defBody st) (defScope st) .none kV doc pm an cdv ct), osl⟩)
    (c : PySem.W.codeIn K cdv nm = true) (k : PySem.W.keepIn K (.ref f) = true) : Fd K mg nm st ps :=
  ⟨f, _, fq_mk hb l c k, PySem.W.mg_of X G a⟩
/-- the class Table -/
structure TabC (K : PySem.W.Frag) (mg : Str → Option Value) (C fI pL fL fP : Addr) (dI dL dP : FuncData) : Prop where
  tt : Tt K mg C
  mk0 : Mk K C fI
  fi : Fq K "__init__" "Table.__init__" sTInit ["self", "rows"] fI dI
  pl : PropOf K C "letters" pL fL
  fl : Fq K "letters" "Table.letters" sLetters ["self"] fL dL
  mp : Meth K C "price" fP
  fp : Fq K "price" "Table.price" sPrice ["self", "first", "second"] fP dP
  kp : KBinds K dP ["self", "first", "second"] ["second", "first"] kwG kwG
theorem kwG_rel {vs : List V} {us : List Value} {zs : List V} {ws : List Value} (h1 : Vals vs us) (h2 : Vals zs ws) : Vals (kwG vs zs) (kwG us ws) := by
  cases h1 with
  | nil => exact .nil
  | cons a t =>
    cases t with
    | cons _ _ => exact .nil
    | nil =>
      cases h2 with
      | nil => exact .nil
      | cons b u =>
        cases u with
        | nil => exact .nil
        | cons c v =>
          cases v with
          | cons _ _ => exact .nil
          | nil => exact .cons a (.cons c (.cons b .nil))
theorem price_kw {K : PySem.W.Frag} {kV doc pm cdv ct : Value} {an : Option Addr} : KBinds K (PySem.W.fnOf "price" "Table.price" (defArgs sPrice) (defBody sPrice) (defScope sPrice) .none kV doc pm an cdv ct) ["self", "first", "second"] ["second", "first"] kwG kwG where
  to := fun s us ws _ hl => by
    rcases us with _ | ⟨u0, _ | ⟨u1, ur⟩⟩
    · cases hl
    · rcases ws with _ | ⟨w0, _ | ⟨w1, _ | ⟨w2, wr⟩⟩⟩
      · cases hl
      · cases hl
      · exact .of_eq rfl
      · cases hl
    · cases hl
  rel := kwG_rel
theorem tab_mk {K : PySem.W.Frag} {mg : Str → Option Value} {h : Heap} (X : K.In h) (G : h.Ns mainGlobals mg) {C fI pL fL fP : Addr} {ocI kI docI pmI cdI ctI ocL kL docL pmL cdL ctL ocP kP docP pmP cdP ctP : Value} {odI anI odL anL odP anP : Option Addr} {slI slL slP : Array (Option Value)} {tk : Tok} {rest : List Value}
    (aC : PySem.W.nsIn K mainGlobals "Table" = some (some (.ref C))) (pg : PySem.W.plainGet K C Str.empty = true) (hd : PySem.W.hasDictIn K C = true) (po : PySem.W.plainOver K C = true) (sa : PySem.W.findIn K (.ref C) "__setattr__" = some (some (.builtin "object.__setattr__"))) (nR : PySem.W.findIn K (.ref C) "_rows" = some none)
    (ga : PySem.W.specialIn K (.ref C) "__getattribute__" = some (some (.builtin "type.__getattribute__"))) (rd : PySem.W.readsIn K C (.type "type") = true) (ml : PySem.W.findCls K (.ref C) (.type "type") "MOST_LETTERS" = some (.val (.int 5 tk)))
    (mk : PySem.W.makesIn K C = true) (kc : PySem.W.keepIn K (.ref C) = true)
    (aI : PySem.W.findIn K (.ref C) "__init__" = some (some (.ref fI))) (iI : PySem.W.isFn K (.ref fI) = true) (lI : K.lookup fI = some ⟨ocI, odI, .func (PySem.W.fnOf "__init__" "Table.__init__" (defArgs sTInit) (defBody sTInit) (defScope sTInit) .none kI docI pmI anI cdI ctI), slI⟩) (cI : PySem.W.codeIn K cdI "Table.__init__" = true) (hI : PySem.W.keepIn K (.ref fI) = true)
    (aL : PySem.W.findIn K (.ref C) "letters" = some (some (.ref pL))) (gL : PySem.W.specialIn K (.ref pL) "__get__" = some (some (.builtin "property.__get__"))) (tL : PySem.W.takesIn K (.ref pL) = some true) (rL : PySem.W.recIn K pL "property" = some (.ref fL :: rest))
    (lL : K.lookup fL = some ⟨ocL, odL, .func (PySem.W.fnOf "letters" "Table.letters" (defArgs sLetters) (defBody sLetters) (defScope sLetters) .none kL docL pmL anL cdL ctL), slL⟩) (cL : PySem.W.codeIn K cdL "Table.letters" = true) (hL : PySem.W.keepIn K (.ref fL) = true)
    (aP : PySem.W.findIn K (.ref C) "price" = some (some (.ref fP))) (iP : PySem.W.isFn K (.ref fP) = true) (lP : K.lookup fP = some ⟨ocP, odP, .func (PySem.W.fnOf "price" "Table.price" (defArgs sPrice) (defBody sPrice) (defScope sPrice) .none kP docP pmP anP cdP ctP), slP⟩) (cP : PySem.W.codeIn K cdP "Table.price" = true) (hP : PySem.W.keepIn K (.ref fP) = true) :
    ∃ C fI pL fL fP dI dL dP, TabC K mg C fI pL fL fP dI dL dP :=
  ⟨C, fI, pL, fL, fP, _, _, _, TabC.mk (Tt.mk ⟨pg, hd, po, sa⟩ nR (PySem.W.mg_of X G aC) ⟨.type "type", _, ⟨rd, ga⟩, ⟨ml, ⟨_, rfl⟩⟩⟩) ⟨mk, aI, iI, kc⟩ (fq_mk (fun _ _ _ _ _ _ us hl => match us, hl with | [_, _], _ => rfl) lI cI hI)
    ⟨aL, gL, tL, ⟨_, rL⟩⟩ (fq_mk (fun _ _ _ _ _ _ us hl => match us, hl with | [_], _ => rfl) lL cL hL) ⟨aP, iP, hP⟩ (fq_mk (fun _ _ _ _ _ _ us hl => match us, hl with | [_, _, _], _ => rfl) lP cP hP) price_kw⟩
/-- refused -/
def Rd (K : PySem.W.Frag) (mg : Str → Option Value) : Prop := ∃ (fR : Addr) (oc kV doc pm cdv ct : Value) (od an : Option Addr) (osl : Array (Option Value)), mg "_law_refused" = some (.ref fR) ∧ PySem.W.keepIn K (.ref fR) = true ∧
  K.lookup fR = some ⟨oc, od, .func (PySem.W.fnOf "_law_refused" "_law_refused" (defArgs sRefused) (defBody sRefused) (defScope sRefused) .none kV doc pm an cdv ct), osl⟩ ∧ PySem.W.codeIn K cdv "_law_refused" = true
theorem rd_mk {K : PySem.W.Frag} {mg : Str → Option Value} {h : Heap} (X : K.In h) (G : h.Ns mainGlobals mg) {fR : Addr} {oc kV doc pm cdv ct : Value} {od an : Option Addr} {osl : Array (Option Value)} (a : PySem.W.nsIn K mainGlobals "_law_refused" = some (some (.ref fR)))
    (l : K.lookup fR = some ⟨oc, od, .func (PySem.W.fnOf "_law_refused" "_law_refused" (defArgs sRefused) (defBody sRefused) (defScope sRefused) .none kV doc pm an cdv ct), osl⟩) (c : PySem.W.codeIn K cdv "_law_refused" = true) (k : PySem.W.keepIn K (.ref fR) = true) : Rd K mg :=
  ⟨fR, oc, kV, doc, pm, cdv, ct, od, an, osl, PySem.W.mg_of X G a, k, l, c⟩
/-- the law's def and its table of code objects -/
def Wd (K : PySem.W.Frag) (mg : Str → Option Value) : Prop := ∃ (f : Addr) (fd : FuncData) (c Pt : Addr), Fun K "law" "law" sLaw f fd ∧ mg "law" = some (.ref f) ∧ fd.code = .ref c ∧ PySem.W.tabIn K "law" = some (c, Pt) ∧ K.lookup Pt = none
theorem wd_mk {K : PySem.W.Frag} {mg : Str → Option Value} {h : Heap} (X : K.In h) (G : h.Ns mainGlobals mg) {f c Pt : Addr} {oc cc kV doc pm ct : Value} {od an cdd : Option Addr} {osl ccs : Array (Option Value)} {vs : Array Value} (a : PySem.W.nsIn K mainGlobals "law" = some (some (.ref f)))
    (l : K.lookup f = some ⟨oc, od, .func (PySem.W.fnOf "law" "law" (defArgs sLaw) (defBody sLaw) (defScope sLaw) .none kV doc pm an (.ref c) ct), osl⟩) (cd : PySem.W.codeIn K (.ref c) "law" = true) (k : PySem.W.keepIn K (.ref f) = true)
    (lc : K.lookup c = some ⟨cc, cdd, .fields vs, ccs⟩) (hv : vs[11]? = some (.ref Pt)) (nP : K.lookup Pt = none) : Wd K mg := by
  refine ⟨f, _, c, Pt, fun_mk l cd k, PySem.W.mg_of X G a, rfl, ?_, nP⟩
  unfold PySem.W.tabIn
  simp only [a, l, lc, hv]
structure Top (P : Program) (K : PySem.W.Frag) (mg : Str → Option Value) : Prop where
  d0 : Fd K mg "is_whole" sWhole ["value"]
  d1 : Fd K mg "is_between" sBtw ["value", "low", "high"]
  d2 : Fd K mg "is_price" sIsP ["value"]
  d3 : Fd K mg "is_letter" sLetter ["value", "letters"]
  d4 : Fd K mg "are_prices" sPrices ["value", "many"]
  d5 : Fd K mg "are_rows" sRows ["value"]
  d6 : Fd K mg "_law_pen" sPen ["_law_script"]
  d7 : Fd K mg "_law_draw" sDraw ["_law_pen_here", "_law_size"]
  d8 : Fd K mg "_law_pick" sPick ["_law_pen_here", "_law_options"]
  d9 : Fd K mg "_law_wide" sWide ["_law_pen_here", "_law_size"]
  d10 : Fd K mg "_law_price" sPr ["_law_pen_here"]
  d11 : Fd K mg "_law_rows" sLRows ["_law_pen_here", "_law_letters"]
  tab : ∃ C fI pL fL fP dI dL dP, TabC K mg C fI pL fL fP dI dL dP
  rf : Rd K mg
  lw : Wd K mg
  en : ∃ C, EC P K mg "InvalidNumber" C xValueError (some "value")
  et : ∃ C, EC P K mg "InvalidTable" C xValueError (some "value")
  z_isinstance : mg "isinstance" = none
  z_all : mg "all" = none
  z_len : mg "len" = none
  z_tuple : mg "tuple" = none
  z_list : mg "list" = none
  z_int : mg "int" = none
  z_bool : mg "bool" = none
  z_range : mg "range" = none
  z_repr : mg "repr" = none
  z_ValueError : mg "ValueError" = none
  z_super : mg "super" = none
  z_abs : mg "abs" = none
  top : (P.main.scope.names.lookup ("super" : Str)).isSome = false
theorem bind_sWhole (kV doc pm : Value) (an : Option Addr) (cdv ct : Value) (us : List Value) (hl : us.length = (["value"] : List Str).length) : bindArgs (PySem.W.fnOf "is_whole" "is_whole" (defArgs sWhole) (defBody sWhole) (defScope sWhole) .none kV doc pm an cdv ct) ⟨us, []⟩ = pure ((["value"] : List Str).zip us) := match us, hl with | [_], _ => rfl
theorem bind_sBtw (kV doc pm : Value) (an : Option Addr) (cdv ct : Value) (us : List Value) (hl : us.length = (["value", "low", "high"] : List Str).length) : bindArgs (PySem.W.fnOf "is_between" "is_between" (defArgs sBtw) (defBody sBtw) (defScope sBtw) .none kV doc pm an cdv ct) ⟨us, []⟩ = pure ((["value", "low", "high"] : List Str).zip us) := match us, hl with | [_, _, _], _ => rfl
theorem bind_sIsP (kV doc pm : Value) (an : Option Addr) (cdv ct : Value) (us : List Value) (hl : us.length = (["value"] : List Str).length) : bindArgs (PySem.W.fnOf "is_price" "is_price" (defArgs sIsP) (defBody sIsP) (defScope sIsP) .none kV doc pm an cdv ct) ⟨us, []⟩ = pure ((["value"] : List Str).zip us) := match us, hl with | [_], _ => rfl
theorem bind_sLetter (kV doc pm : Value) (an : Option Addr) (cdv ct : Value) (us : List Value) (hl : us.length = (["value", "letters"] : List Str).length) : bindArgs (PySem.W.fnOf "is_letter" "is_letter" (defArgs sLetter) (defBody sLetter) (defScope sLetter) .none kV doc pm an cdv ct) ⟨us, []⟩ = pure ((["value", "letters"] : List Str).zip us) := match us, hl with | [_, _], _ => rfl
theorem bind_sPrices (kV doc pm : Value) (an : Option Addr) (cdv ct : Value) (us : List Value) (hl : us.length = (["value", "many"] : List Str).length) : bindArgs (PySem.W.fnOf "are_prices" "are_prices" (defArgs sPrices) (defBody sPrices) (defScope sPrices) .none kV doc pm an cdv ct) ⟨us, []⟩ = pure ((["value", "many"] : List Str).zip us) := match us, hl with | [_, _], _ => rfl
theorem bind_sRows (kV doc pm : Value) (an : Option Addr) (cdv ct : Value) (us : List Value) (hl : us.length = (["value"] : List Str).length) : bindArgs (PySem.W.fnOf "are_rows" "are_rows" (defArgs sRows) (defBody sRows) (defScope sRows) .none kV doc pm an cdv ct) ⟨us, []⟩ = pure ((["value"] : List Str).zip us) := match us, hl with | [_], _ => rfl
theorem bind_sPen (kV doc pm : Value) (an : Option Addr) (cdv ct : Value) (us : List Value) (hl : us.length = (["_law_script"] : List Str).length) : bindArgs (PySem.W.fnOf "_law_pen" "_law_pen" (defArgs sPen) (defBody sPen) (defScope sPen) .none kV doc pm an cdv ct) ⟨us, []⟩ = pure ((["_law_script"] : List Str).zip us) := match us, hl with | [_], _ => rfl
theorem bind_sDraw (kV doc pm : Value) (an : Option Addr) (cdv ct : Value) (us : List Value) (hl : us.length = (["_law_pen_here", "_law_size"] : List Str).length) : bindArgs (PySem.W.fnOf "_law_draw" "_law_draw" (defArgs sDraw) (defBody sDraw) (defScope sDraw) .none kV doc pm an cdv ct) ⟨us, []⟩ = pure ((["_law_pen_here", "_law_size"] : List Str).zip us) := match us, hl with | [_, _], _ => rfl
theorem bind_sPick (kV doc pm : Value) (an : Option Addr) (cdv ct : Value) (us : List Value) (hl : us.length = (["_law_pen_here", "_law_options"] : List Str).length) : bindArgs (PySem.W.fnOf "_law_pick" "_law_pick" (defArgs sPick) (defBody sPick) (defScope sPick) .none kV doc pm an cdv ct) ⟨us, []⟩ = pure ((["_law_pen_here", "_law_options"] : List Str).zip us) := match us, hl with | [_, _], _ => rfl
theorem bind_sWide (kV doc pm : Value) (an : Option Addr) (cdv ct : Value) (us : List Value) (hl : us.length = (["_law_pen_here", "_law_size"] : List Str).length) : bindArgs (PySem.W.fnOf "_law_wide" "_law_wide" (defArgs sWide) (defBody sWide) (defScope sWide) .none kV doc pm an cdv ct) ⟨us, []⟩ = pure ((["_law_pen_here", "_law_size"] : List Str).zip us) := match us, hl with | [_, _], _ => rfl
theorem bind_sPr (kV doc pm : Value) (an : Option Addr) (cdv ct : Value) (us : List Value) (hl : us.length = (["_law_pen_here"] : List Str).length) : bindArgs (PySem.W.fnOf "_law_price" "_law_price" (defArgs sPr) (defBody sPr) (defScope sPr) .none kV doc pm an cdv ct) ⟨us, []⟩ = pure ((["_law_pen_here"] : List Str).zip us) := match us, hl with | [_], _ => rfl
theorem bind_sLRows (kV doc pm : Value) (an : Option Addr) (cdv ct : Value) (us : List Value) (hl : us.length = (["_law_pen_here", "_law_letters"] : List Str).length) : bindArgs (PySem.W.fnOf "_law_rows" "_law_rows" (defArgs sLRows) (defBody sLRows) (defScope sLRows) .none kV doc pm an cdv ct) ⟨us, []⟩ = pure ((["_law_pen_here", "_law_letters"] : List Str).zip us) := match us, hl with | [_, _], _ => rfl
theorem top_ok {l : PySem.W.OpenLaw} {w : World} {K : PySem.W.Frag} {h : Heap} {mg : Str → Option Value} {fa : Addr} {q : Program} {d0 : DefRec} (hfa : mg "law" = some (.ref fa)) (T : Top l.prog K mg) (hq : (recsOf q).find? (fun e => e.name == ("law" : Str)) = some d0)
    (tab : ∀ (d : DefRec) (x : Str) (c P : Addr), (recsOf q).find? (fun e => e.name == x) = some d → PySem.W.tabIn K x = some (c, P) → PySem.W.CodeHd h c P ∧ h.get? P = some { cls := .none, data := .fields #[] }) :
    LawG l w K 7 63 "_law_script" mg fa h := by
  obtain ⟨f0, e0, ⟨F0, b0, k0⟩, g0⟩ := T.d0
  obtain ⟨f1, e1, ⟨F1, b1, k1⟩, g1⟩ := T.d1
  obtain ⟨f2, e2, ⟨F2, b2, k2⟩, g2⟩ := T.d2
  obtain ⟨f3, e3, ⟨F3, b3, k3⟩, g3⟩ := T.d3
  obtain ⟨f4, e4, ⟨F4, b4, k4⟩, g4⟩ := T.d4
  obtain ⟨f5, e5, ⟨F5, b5, k5⟩, g5⟩ := T.d5
  obtain ⟨f6, e6, ⟨F6, b6, k6⟩, g6⟩ := T.d6
  obtain ⟨f7, e7, ⟨F7, b7, k7⟩, g7⟩ := T.d7
  obtain ⟨f8, e8, ⟨F8, b8, k8⟩, g8⟩ := T.d8
  obtain ⟨f9, e9, ⟨F9, b9, k9⟩, g9⟩ := T.d9
  obtain ⟨f10, e10, ⟨F10, b10, k10⟩, g10⟩ := T.d10
  obtain ⟨f11, e11, ⟨F11, b11, k11⟩, g11⟩ := T.d11
  obtain ⟨C, fI, pL, fL, fP, dI, dL, dP, TC⟩ := T.tab
  obtain ⟨fR, oc, kV, doc, pm, cdv, ct, od, an, osl, gR, kR, lR, cR⟩ := T.rf
  obtain ⟨f, fd, c, Pt, F, gl, hc, ht, nP⟩ := T.lw
  obtain ⟨CN, EN⟩ := T.en
  obtain ⟨CT, ET⟩ := T.et
  obtain ⟨FI, bI, kI⟩ := TC.fi
  obtain ⟨FL, bL, kL⟩ := TC.fl
  obtain ⟨FP, bP, kP⟩ := TC.fp
  have e := hfa.symm.trans gl
  cases e
  obtain ⟨hC, hT⟩ := tab _ _ _ _ hq ht
  have X : Bx mg := { n_isinstance := T.z_isinstance, n_all := T.z_all, n_len := T.z_len, n_tuple := T.z_tuple, n_list := T.z_list, n_int := T.z_int, n_bool := T.z_bool, n_range := T.z_range, n_repr := T.z_repr, n_ValueError := T.z_ValueError, n_super := T.z_super }
  have N : PenT mg := { n_list := T.z_list, n_int := T.z_int, n_len := T.z_len, n_abs := T.z_abs }
  refine ⟨fd, [(c, Pt)], spLaw K Pt, fun p hp => ?_, fun p hp => ?_, fun p hp => ?_, fun s v => ?_, fun H a ns hl hH hS => ⟨a, ns, rfl, hS, hl, fun p hp => ?_, fun _ => rfl⟩, fun base _ _ TB => ?_⟩
  · rcases List.mem_singleton.mp hp with rfl
    exact hT
  · rcases List.mem_singleton.mp hp with rfl
    exact nP
  · rcases List.mem_singleton.mp hp with rfl
    exact hC
  · obtain ⟨oc, od, kV, doc, pm, an, cdv, ct, osl, rfl, lk, hcd⟩ := F.ex
    exact .of_eq rfl
  · rcases List.mem_singleton.mp hp with rfl
    exact LamX.TabS.nil (hH _ List.mem_cons_self)
  · have G0 : Ld l.prog w K mg base "is_whole" 1 f0 e0 ["value"] spWhole := ⟨okWhole F0 X, b0, g0, k0⟩
    have G1 : Ld l.prog w K mg base "is_between" 2 f1 e1 ["value", "low", "high"] spBtw := ⟨okBtw F1 X G0, b1, g1, k1⟩
    have G2 : Ld l.prog w K mg base "is_price" 2 f2 e2 ["value"] spIsP := ⟨okIsP F2 X G0, b2, g2, k2⟩
    have G3 : Ld l.prog w K mg base "is_letter" 3 f3 e3 ["value", "letters"] spLetter := ⟨okLetter F3 X G1, b3, g3, k3⟩
    have G4 : Ld l.prog w K mg base "are_prices" 3 f4 e4 ["value", "many"] spPrices := ⟨okPrices F4 X G2, b4, g4, k4⟩
    have G5 : Ld l.prog w K mg base "are_rows" 4 f5 e5 ["value"] spRows := ⟨okRows F5 X TC.tt G4, b5, g5, k5⟩
    have G6 : Ld l.prog w K mg base "_law_pen" 1 f6 e6 ["_law_script"] (spPen K) := ⟨ok_pen F6 N, b6, g6, k6⟩
    have G7 : Ld l.prog w K mg base "_law_draw" 1 f7 e7 ["_law_pen_here", "_law_size"] spDraw := ⟨ok_draw F7 N, b7, g7, k7⟩
    have G8 : Ld l.prog w K mg base "_law_pick" 2 f8 e8 ["_law_pen_here", "_law_options"] spPick := ⟨ok_pick F8 N F7 b7 g7 k7, b8, g8, k8⟩
    have G9 : Ld l.prog w K mg base "_law_wide" 2 f9 e9 ["_law_pen_here", "_law_size"] spWide := ⟨okWide F9 X G7, b9, g9, k9⟩
    have G10 : Ld l.prog w K mg base "_law_price" 3 f10 e10 ["_law_pen_here"] spPr := ⟨okPr F10 X G7 G9, b10, g10, k10⟩
    have G11 : Ld l.prog w K mg base "_law_rows" 4 f11 e11 ["_law_pen_here", "_law_letters"] spLRows := ⟨okLRows F11 X G10, b11, g11, k11⟩
    have GI : FnOk l.prog w K mg base CX0 5 fI dI ["self", "rows"] (spTInit C) := okTInit FI X TC.tt G5
    have GL : FnOk l.prog w K mg base CX0 1 fL dL ["self"] (spLetters C) := okLetters FL X TC.tt
    have GP : FnOk l.prog w K mg base (L2.CX l.prog w) 4 fP dP ["self", "first", "second"] (spPrice C CN) := okPrice FP X TC.tt EN T.top G3 GL bL TC.pl
    exact ok_law F X TC.tt hc TB G6 G7 G8 G11 TC.mk0 GI bI TC.mp GP bP TC.kp EN ET gR kR lR cR ((fun_mk lR cR kR).binds (ps := ["_law_call"]) fun _ _ _ _ _ _ us hl => match us, hl with | [_], _ => rfl)
theorem walk {l : PySem.W.OpenLaw} {q : Program} {loose : List Str} {XP : (Str → Option Value) → Heap → Prop} {YP : World → Heap → Prop} {d : DefRec} {K : Params → PySem.W.Frag} {d0 : DefRec} (hn : l.most = some 63) (hdf : d.params.defaults = []) (hd : d.name = "law")
    (hq : (recsOf q).find? (fun e => e.name == ("law" : Str)) = some d0) (hY : ∀ (w : World) (h : Heap), YP w h → (K w.params).In h)
    (F : ∀ (w : World) (mg : Str → Option Value) (h : Heap), (K w.params).In h → h.Ns mainGlobals mg → Top l.prog (K w.params) mg) :
    PySem.W.WalkO q loose XP YP l.row.toRowW d [] (fun f vs => PySem.call f vs) :=
  walk_GT (n := 63) (k := 7) (x := "_law_script") hn (by decide) hdf ⟨rfl, by decide, by decide⟩ hY
    (fun w mg fa h KX G hm tab => top_ok (by rw [hd] at hm; exact hm) (F w mg h KX G) hq tab)
end VK

open PySem PySem.W PyProof.Rows
set_option maxRecDepth 100000 in
set_option maxHeartbeats 0 in
theorem PySem.Challenge.cw_echofold_k04_prices_of_pairs_holds : PySem.Challenge.rw_echofold_k04_prices_of_pairs.Holds := by
  w_on; o_law; k_head; (case hw => w_witness2)
  k_fill
  refine VK.walk (l := PySem.Challenge.rw_echofold_k04_prices_of_pairs) rfl rfl rfl (by first | rfl | kernel_rfl) (fun w h Y => PySem.W.km_in_of Y) ?F
  case F =>
    intro w mg h KX G
    refine' VK.Top.mk ?d0 ?d1 ?d2 ?d3 ?d4 ?d5 ?d6 ?d7 ?d8 ?d9 ?d10 ?d11 ?tab ?rf ?lw ?en ?et ?z0 ?z1 ?z2 ?z3 ?z4 ?z5 ?z6 ?z7 ?z8 ?z9 ?z10 ?z11 ?top
    case d0 =>
      refine' VK.fd_mk KX G VK.bind_sWhole ?a ?l ?c ?k
      (case a => k_is); (case l => k_is); (case c => k_is); (case k => k_is)
    case d1 =>
      refine' VK.fd_mk KX G VK.bind_sBtw ?a ?l ?c ?k
      (case a => k_is); (case l => k_is); (case c => k_is); (case k => k_is)
    case d2 =>
      refine' VK.fd_mk KX G VK.bind_sIsP ?a ?l ?c ?k
      (case a => k_is); (case l => k_is); (case c => k_is); (case k => k_is)
    case d3 =>
      refine' VK.fd_mk KX G VK.bind_sLetter ?a ?l ?c ?k
      (case a => k_is); (case l => k_is); (case c => k_is); (case k => k_is)
    case d4 =>
      refine' VK.fd_mk KX G VK.bind_sPrices ?a ?l ?c ?k
      (case a => k_is); (case l => k_is); (case c => k_is); (case k => k_is)
    case d5 =>
      refine' VK.fd_mk KX G VK.bind_sRows ?a ?l ?c ?k
      (case a => k_is); (case l => k_is); (case c => k_is); (case k => k_is)
    case d6 =>
      refine' VK.fd_mk KX G VK.bind_sPen ?a ?l ?c ?k
      (case a => k_is); (case l => k_is); (case c => k_is); (case k => k_is)
    case d7 =>
      refine' VK.fd_mk KX G VK.bind_sDraw ?a ?l ?c ?k
      (case a => k_is); (case l => k_is); (case c => k_is); (case k => k_is)
    case d8 =>
      refine' VK.fd_mk KX G VK.bind_sPick ?a ?l ?c ?k
      (case a => k_is); (case l => k_is); (case c => k_is); (case k => k_is)
    case d9 =>
      refine' VK.fd_mk KX G VK.bind_sWide ?a ?l ?c ?k
      (case a => k_is); (case l => k_is); (case c => k_is); (case k => k_is)
    case d10 =>
      refine' VK.fd_mk KX G VK.bind_sPr ?a ?l ?c ?k
      (case a => k_is); (case l => k_is); (case c => k_is); (case k => k_is)
    case d11 =>
      refine' VK.fd_mk KX G VK.bind_sLRows ?a ?l ?c ?k
      (case a => k_is); (case l => k_is); (case c => k_is); (case k => k_is)
    case tab =>
      refine' VK.tab_mk KX G ?aC ?pg ?hd ?po ?sa ?nR ?ga ?rd ?ml ?mk ?kc ?aI ?iI ?lI ?cI ?hI ?aL ?gL ?tL ?rL ?lL ?cL ?hL ?aP ?iP ?lP ?cP ?hP
      (case aC => k_is); (case pg => k_is); (case hd => k_is); (case po => k_is); (case sa => k_is); (case nR => k_is); (case ga => k_is); (case rd => k_is); (case ml => k_is); (case mk => k_is); (case kc => k_is); (case aI => k_is); (case iI => k_is); (case lI => k_is); (case cI => k_is); (case hI => k_is); (case aL => k_is); (case gL => k_is); (case tL => k_is); (case rL => k_is); (case lL => k_is); (case cL => k_is); (case hL => k_is); (case aP => k_is); (case iP => k_is); (case lP => k_is); (case cP => k_is); (case hP => k_is)
    case rf =>
      refine' VK.rd_mk KX G ?a ?l ?c ?k
      (case a => k_is); (case l => k_is); (case c => k_is); (case k => k_is)
    case lw =>
      refine' VK.wd_mk KX G ?a ?l ?cd ?k ?lc ?hv ?nP
      (case a => k_is); (case l => k_is); (case cd => k_is); (case k => k_is); (case lc => k_is); (case hv => exact rfl); (case nP => kernel_rfl)
    case en =>
      refine' ⟨?Cen, ?Een⟩
      case Een =>
        refine' VK.ec1_mk KX G (cn := "InvalidNumber") (x := "value") VK.xb_ValueError ?aC ?lk ?hm ?hs ?hd ?hh ?hn ?n1 ?n2 ?n3 ?n4 ?kp ?thr ?spG ?spT ?hx ?n5 ?at_ ?fn ?lf ?ci ?lc ?hv ?hf ?ll ?hp
        (case aC => k_is); (case lk => k_is); (case hm => exact rfl); (case hs => exact rfl); (case hd => exact rfl); (case hh => exact rfl); (case hn => exact rfl); (case n1 => k_is); (case n2 => k_is); (case n3 => k_is); (case n4 => k_is); (case kp => k_is); (case thr => k_is); (case spG => k_is); (case spT => k_is); (case hx => exact by decide +kernel); (case n5 => k_is); (case at_ => k_is); (case fn => k_is); (case lf => k_is); (case ci => k_is); (case lc => k_is); (case hv => exact rfl); (case hf => exact by decide +kernel); (case ll => k_is); (case hp => exact rfl)
    case et =>
      refine' ⟨?Cet, ?Eet⟩
      case Eet =>
        refine' VK.ec1_mk KX G (cn := "InvalidTable") (x := "value") VK.xb_ValueError ?aC ?lk ?hm ?hs ?hd ?hh ?hn ?n1 ?n2 ?n3 ?n4 ?kp ?thr ?spG ?spT ?hx ?n5 ?at_ ?fn ?lf ?ci ?lc ?hv ?hf ?ll ?hp
        (case aC => k_is); (case lk => k_is); (case hm => exact rfl); (case hs => exact rfl); (case hd => exact rfl); (case hh => exact rfl); (case hn => exact rfl); (case n1 => k_is); (case n2 => k_is); (case n3 => k_is); (case n4 => k_is); (case kp => k_is); (case thr => k_is); (case spG => k_is); (case spT => k_is); (case hx => exact by decide +kernel); (case n5 => k_is); (case at_ => k_is); (case fn => k_is); (case lf => k_is); (case ci => k_is); (case lc => k_is); (case hv => exact rfl); (case hf => exact by decide +kernel); (case ll => k_is); (case hp => exact rfl)
    case z0 =>
      refine' PySem.W.mg_none_of KX G ?z
      (case z => k_is)
    case z1 =>
      refine' PySem.W.mg_none_of KX G ?z
      (case z => k_is)
    case z2 =>
      refine' PySem.W.mg_none_of KX G ?z
      (case z => k_is)
    case z3 =>
      refine' PySem.W.mg_none_of KX G ?z
      (case z => k_is)
    case z4 =>
      refine' PySem.W.mg_none_of KX G ?z
      (case z => k_is)
    case z5 =>
      refine' PySem.W.mg_none_of KX G ?z
      (case z => k_is)
    case z6 =>
      refine' PySem.W.mg_none_of KX G ?z
      (case z => k_is)
    case z7 =>
      refine' PySem.W.mg_none_of KX G ?z
      (case z => k_is)
    case z8 =>
      refine' PySem.W.mg_none_of KX G ?z
      (case z => k_is)
    case z9 =>
      refine' PySem.W.mg_none_of KX G ?z
      (case z => k_is)
    case z10 =>
      refine' PySem.W.mg_none_of KX G ?z
      (case z => k_is)
    case z11 =>
      refine' PySem.W.mg_none_of KX G ?z
      (case z => k_is)
    case top => decide +kernel

