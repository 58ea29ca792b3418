import PyProof.Rows.All
import Wide.All
import OpenK.AllK
import Wide.FinOn
import HandS.ForMost
import HandS.Exc
import HandS.ExcOwn
import HandS.ExcValue
import KE.KExcSuper
import KE.KExcIs
import HandS.Wide
import HandS.Evl
import HandS.IsInst
import HandS.WordsExc
import HandS.Property
import HandS.TupAny
import HandS.TupMul
import HandS.Iter
import HandS.Text
import HandS.ClsMeth
import HandS.Star
import KE.GoesMore
import HandS.OwnEq
import KE.KOpsOwn
import HandS.Deep
import HandS.SortRule
import HandS.Defaults
import HandS.Zip
import KE.KDictZip
import HandS.MethStar
import HandS.Conv
import KE.DataMinMax
import HandS.SlotsOwn
import PyProof.InstEq
import HandS.Style
import HandS.Call
import HandS.Lambda
import HandS.EndTab
import HandS.ExcIs
import PyProof.ListMulRoad
import PyProof.FactsAll.tuple_2
import PyProof.ReprLen
import PySem.Challenge.RW_echofold_k02_likeness_silence_pairs
set_option Elab.async false
set_option linter.all false
set_option maxRecDepth 100000
set_option maxHeartbeats 4000000
namespace DL
open PySem PySem.Spec PyProof.Rows L2
/-! # The data layer: what a def does, as a function of data -/
inductive D where
  | non | bl (b : Bool) | int (i : Int) | str (x : Str)
  | lst (l : List D) | tup (l : List D) | dct (l : List (Key × D))
  | obj (C : Addr) (l : List (Str × D))
  | hd (a : Addr) | ty (n : String)
def SqLv (_ : PySem.W.Frag) (av : Addr → Prop) (H : Hp) (a : Addr) (xs : List V) : Prop := H a = some (.lst xs) ∧ ¬ av a
def SqTv (_ : PySem.W.Frag) (av : Addr → Prop) (H : Hp) (a : Addr) (xs : List V) : Prop := H a = some (.tup xs) ∧ ¬ av a
mutual
inductive Dt (K : PySem.W.Frag) (av : Addr → Prop) (H : Hp) : V → D → Prop
  | non : Dt K av H .non .non
  | bl (b : Bool) : Dt K av H (.bl b) (.bl b)
  | int (i : Int) : Dt K av H (.int i) (.int i)
  | str (x : Str) : Dt K av H (.str x) (.str x)
  | hd (a : Addr) : Dt K av H (.ref a) (.hd a)
  | ty (n : String) : Dt K av H (.ty n) (.ty n)
  | lst {a : Addr} {xs : List V} {ds : List D} : SqLv K av H a xs → DtAll K av H xs ds → Dt K av H (.ref a) (.lst ds)
  | tup {a : Addr} {xs : List V} {ds : List D} : SqTv K av H a xs → DtAll K av H xs ds → Dt K av H (.ref a) (.tup ds)
  | dct {a : Addr} {xs : List (Key × V)} {ds : List (Key × D)} : Rd H a (.dK xs) → ¬ av a → DtKV K av H xs ds → Dt K av H (.ref a) (.dct ds)
  | obj {a C dx : Addr} {xs : List (Str × V)} {ds : List (Str × D)} : H a = some (.ins C dx xs) → ¬ av a → DtFs K av H xs ds → Dt K av H (.ref a) (.obj C ds)
inductive DtAll (K : PySem.W.Frag) (av : Addr → Prop) (H : Hp) : List V → List D → Prop
  | nil : DtAll K av H [] []
  | cons {v : V} {vs : List V} {d : D} {ds : List D} : Dt K av H v d → DtAll K av H vs ds → DtAll K av H (v :: vs) (d :: ds)
inductive DtKV (K : PySem.W.Frag) (av : Addr → Prop) (H : Hp) : List (Key × V) → List (Key × D) → Prop
  | nil : DtKV K av H [] []
  | cons {k : Key} {v : V} {vs : List (Key × V)} {d : D} {ds : List (Key × D)} : Dt K av H v d → DtKV K av H vs ds → DtKV K av H ((k, v) :: vs) ((k, d) :: ds)
inductive DtFs (K : PySem.W.Frag) (av : Addr → Prop) (H : Hp) : List (Str × V) → List (Str × D) → Prop
  | nil : DtFs K av H [] []
  | cons {k : Str} {v : V} {vs : List (Str × V)} {d : D} {ds : List (Str × D)} : Dt K av H v d → DtFs K av H vs ds → DtFs K av H ((k, v) :: vs) ((k, d) :: ds)
end
section
variable {K : PySem.W.Frag} {av av' : Addr → Prop} {H H' : Hp}
theorem SqLv.seq {a : Addr} {xs : List V} (h : SqLv K av H a xs) : SqL K H a xs := SqL.of h.1
theorem SqTv.seq {a : Addr} {xs : List V} (h : SqTv K av H a xs) : SqT K H a xs := SqT.of h.1
theorem SqLv.keep {a : Addr} {xs : List V} (k : ∀ b o, H b = some o → ¬ av b → H' b = some o ∧ ¬ av' b) (h : SqLv K av H a xs) : SqLv K av' H' a xs := k _ _ h.1 h.2
theorem SqTv.keep {a : Addr} {xs : List V} (k : ∀ b o, H b = some o → ¬ av b → H' b = some o ∧ ¬ av' b) (h : SqTv K av H a xs) : SqTv K av' H' a xs := k _ _ h.1 h.2
theorem SqLv.of {a : Addr} {xs : List V} (h : H a = some (.lst xs)) (n : ¬ av a) : SqLv K av H a xs := ⟨h, n⟩
theorem SqTv.of {a : Addr} {xs : List V} (h : H a = some (.tup xs)) (n : ¬ av a) : SqTv K av H a xs := ⟨h, n⟩
theorem rd_keep {a : Addr} {u : HO} (k : ∀ b o, H b = some o → ¬ av b → H' b = some o ∧ ¬ av' b) (n : ¬ av a) (h : Rd H a u) : Rd H' a u ∧ ¬ av' a := by
  rcases h with h | ⟨o, h⟩
  · exact ⟨.inl (k _ _ h n).1, (k _ _ h n).2⟩
  · exact ⟨.inr ⟨o, (k _ _ h n).1⟩, (k _ _ h n).2⟩
mutual
theorem Dt.keep (k : ∀ b o, H b = some o → ¬ av b → H' b = some o ∧ ¬ av' b) : ∀ {v : V} {d : D}, Dt K av H v d → Dt K av' H' v d
  | _, _, .non => .non
  | _, _, .bl b => .bl b
  | _, _, .int i => .int i
  | _, _, .str x => .str x
  | _, _, .hd a => .hd a
  | _, _, .ty a => .ty a
  | _, _, .lst h r => .lst (h.keep k) (DtAll.keep k r)
  | _, _, .tup h r => .tup (h.keep k) (DtAll.keep k r)
  | _, _, .dct h n r => .dct (rd_keep k n h).1 (rd_keep k n h).2 (DtKV.keep k r)
  | _, _, .obj h n r => .obj (k _ _ h n).1 (k _ _ h n).2 (DtFs.keep k r)
theorem DtAll.keep (k : ∀ b o, H b = some o → ¬ av b → H' b = some o ∧ ¬ av' b) : ∀ {v : List V} {d : List D}, DtAll K av H v d → DtAll K av' H' v d
  | _, _, .nil => .nil
  | _, _, .cons h r => .cons (Dt.keep k h) (DtAll.keep k r)
theorem DtKV.keep (k : ∀ b o, H b = some o → ¬ av b → H' b = some o ∧ ¬ av' b) : ∀ {v : List (Key × V)} {d : List (Key × D)}, DtKV K av H v d → DtKV K av' H' v d
  | _, _, .nil => .nil
  | _, _, .cons h r => .cons (Dt.keep k h) (DtKV.keep k r)
theorem DtFs.keep (k : ∀ b o, H b = some o → ¬ av b → H' b = some o ∧ ¬ av' b) : ∀ {v : List (Str × V)} {d : List (Str × D)}, DtFs K av H v d → DtFs K av' H' v d
  | _, _, .nil => .nil
  | _, _, .cons h r => .cons (Dt.keep k h) (DtFs.keep k r)
end
theorem DtAll.length : ∀ {vs : List V} {ds : List D}, DtAll K av H vs ds → vs.length = ds.length
  | _, _, .nil => rfl
  | _, _, .cons _ t => congrArg (· + 1) (DtAll.length t)
theorem DtAll.app : ∀ {vs ws : List V} {ds es : List D}, DtAll K av H vs ds → DtAll K av H ws es → DtAll K av H (vs ++ ws) (ds ++ es)
  | _, _, _, _, .nil, h => h
  | _, _, _, _, .cons a t, h => .cons a (DtAll.app t h)
theorem DtAll.atL : ∀ {vs : List V} {ds : List D} {i : Nat} {v : V}, DtAll K av H vs ds → vs[i]? = some v → ∃ d, ds[i]? = some d ∧ Dt K av H v d
  | _, _, i, _, .nil, e => by simp at e
  | _, _, 0, _, .cons r _, e => by
    simp only [List.getElem?_cons_zero, Option.some.injEq] at e
    subst e
    exact ⟨_, rfl, r⟩
  | _, _, i + 1, _, .cons _ t, e => by
    obtain ⟨b, h1, h2⟩ := DtAll.atL (i := i) t (by simpa using e)
    exact ⟨b, by simpa using h1, h2⟩
theorem DtAll.atR : ∀ {vs : List V} {ds : List D} {i : Nat} {d : D}, DtAll K av H vs ds → ds[i]? = some d → ∃ v, vs[i]? = some v ∧ Dt K av H v d
  | _, _, i, _, .nil, e => by simp at e
  | _, _, 0, _, .cons r _, e => by
    simp only [List.getElem?_cons_zero, Option.some.injEq] at e
    subst e
    exact ⟨_, rfl, r⟩
  | _, _, i + 1, _, .cons _ t, e => by
    obtain ⟨b, h1, h2⟩ := DtAll.atR (i := i) t (by simpa using e)
    exact ⟨b, by simpa using h1, h2⟩
end
/-! ## outcomes -/
inductive Rr (α β : Type) where
  | ok (x : β) (g : α) | err (C : Addr) (fs : List (Str × D)) (g : α) | bad
def Rr.bind {α β γ : Type} (r : Rr α β) (k : β → α → Rr α γ) : Rr α γ := match r with
  | .ok x g => k x g
  | .err C fs g => .err C fs g
  | .bad => .bad
@[simp] theorem bind_ok {α β γ : Type} (x : β) (g : α) (k : β → α → Rr α γ) : (Rr.ok x g).bind k = k x g := rfl
@[simp] theorem bind_err {α β γ : Type} (C : Addr) (fs : List (Str × D)) (g : α) (k : β → α → Rr α γ) : (Rr.err C fs g : Rr α β).bind k = .err C fs g := rfl
@[simp] theorem bind_bad {α β γ : Type} (k : β → α → Rr α γ) : (Rr.bad : Rr α β).bind k = .bad := rfl
/-- the one thing that changes: what is told of it, what may be changed -/
structure Rs where
  α : Type
  ix : Type
  G : PySem.W.Frag → ix → α → (Addr → Prop) → Hp → Prop
  mu : ix → Addr → Prop
  stab : ∀ {K i g} {av av' : Addr → Prop} {H H' : Hp}, (∀ b o, H b = some o → ¬ av b → H' b = some o ∧ ¬ av' b) → G K i g av H → G K i g av' H'
  trk : ∀ {K i g av H a}, G K i g av H → mu i a → H a ≠ none
inductive MO where
  | lst (l : List D) | dct (l : List (Key × D)) | obj (C : Addr) (l : List (Str × D))
def MO.d : MO → D
  | .lst l => .lst l
  | .dct l => .dct l
  | .obj C l => .obj C l
def MoAt (K : PySem.W.Frag) (sf : Addr) (av : Addr → Prop) (H : Hp) (a : Addr) : MO → Prop
  | .lst l => ∃ vs, H a = some (.lst vs) ∧ DtAll K av H vs l
  | .dct l => ∃ vs, H a = some (.dK vs) ∧ DtKV K av H vs l
  | .obj C l => a = sf ∧ ∃ dx vs, H a = some (.ins C dx vs) ∧ DtFs K av H vs l
theorem MoAt.at {K : PySem.W.Frag} {sf : Addr} {av : Addr → Prop} {H : Hp} {a : Addr} {m : MO} (h : MoAt K sf av H a m) : ∃ o, H a = some o := by
  cases m with
  | lst l => obtain ⟨vs, h, _⟩ := h; exact ⟨_, h⟩
  | dct l => obtain ⟨vs, h, _⟩ := h; exact ⟨_, h⟩
  | obj C l => obtain ⟨_, dx, vs, h, _⟩ := h; exact ⟨_, h⟩
theorem MoAt.keep {K : PySem.W.Frag} {sf : Addr} {av av' : Addr → Prop} {H H' : Hp} {a : Addr} {m : MO} (k : ∀ b o, H b = some o → ¬ av b → H' b = some o ∧ ¬ av' b) (ka : ∀ o, H a = some o → H' a = some o) (h : MoAt K sf av H a m) : MoAt K sf av' H' a m := by
  cases m with
  | lst l => obtain ⟨vs, h, r⟩ := h; exact ⟨vs, ka _ h, r.keep k⟩
  | dct l => obtain ⟨vs, h, r⟩ := h; exact ⟨vs, ka _ h, r.keep k⟩
  | obj C l => obtain ⟨e, dx, vs, h, r⟩ := h; exact ⟨e, dx, vs, ka _ h, r.keep k⟩
inductive SV where
  | un | dat (d : D) | mu (m : MO)
/-- the frame of a def's run -/
structure Gm (R : Rs) where
  K : PySem.W.Frag
  sf : Addr
  ix : R.ix
  av0 : Addr → Prop
  H0 : Hp
  hav : ∀ a, av0 a → H0 a ≠ none
  hmu : ∀ a, R.mu ix a → H0 a ≠ none
def own (sl : List SV) (ow : List (Addr × MO)) (σ : L2.St) (a : Addr) : Prop := (∃ (i : Nat) (m : MO), sl[i]? = some (SV.mu m) ∧ σ[i]? = some (some (V.ref a))) ∨ ∃ m : MO, (a, m) ∈ ow
def Gm.avG {R : Rs} (Γ : Gm R) (sl : List SV) (ow : List (Addr × MO)) (σ : L2.St) (a : Addr) : Prop := Γ.av0 a ∨ own sl ow σ a
def Gm.av {R : Rs} (Γ : Gm R) (sl : List SV) (ow : List (Addr × MO)) (σ : L2.St) (a : Addr) : Prop := R.mu Γ.ix a ∨ Γ.av0 a ∨ own sl ow σ a
def SlotOk (K : PySem.W.Frag) (sf : Addr) (av : Addr → Prop) (H : Hp) (o : Option (Option V)) : SV → Prop
  | .un => True
  | .dat d => ∃ v, o = some (some v) ∧ Dt K av H v d
  | .mu m => ∃ a, o = some (some (.ref a)) ∧ MoAt K sf av H a m
structure SRel {R : Rs} (Γ : Gm R) (sl : List SV) (tm : List (V × D)) (ow : List (Addr × MO)) (g : R.α) (σ : L2.St) (H : Hp) : Prop where
  len : sl.length = σ.length
  frame : ∀ b o, Γ.H0 b = some o → ¬ R.mu Γ.ix b → H b = some o
  res : R.G Γ.K Γ.ix g (Γ.avG sl ow σ) H
  slots : ∀ (i : Nat) (s : SV), sl[i]? = some s → SlotOk Γ.K Γ.sf (Γ.av sl ow σ) H σ[i]? s
  tms : ∀ v d, (v, d) ∈ tm → Dt Γ.K (Γ.av sl ow σ) H v d
  ows : ∀ a m, (a, m) ∈ ow → MoAt Γ.K Γ.sf (Γ.av sl ow σ) H a m
  ofr : ∀ a, own sl ow σ a → Γ.H0 a = none
  uq1 : ∀ (i j : Nat) (a : Addr) (m m' : MO), sl[i]? = some (SV.mu m) → sl[j]? = some (SV.mu m') → σ[i]? = some (some (V.ref a)) → σ[j]? = some (some (V.ref a)) → i = j
  uq2 : ∀ (i : Nat) (a : Addr) (m m' : MO), sl[i]? = some (SV.mu m) → σ[i]? = some (some (V.ref a)) → (a, m') ∉ ow
  uq3 : (ow.map (·.1)).Nodup
section
variable {R : Rs} {Γ : Gm R} {sl : List SV} {tm : List (V × D)} {ow : List (Addr × MO)} {g : R.α} {σ : L2.St} {H H' : Hp}
/-- what is avoided is there -/
theorem SRel.avd (S : SRel Γ sl tm ow g σ H) {a : Addr} (h : Γ.av sl ow σ a) : H a ≠ none := by
  rcases h with h | h | h
  · exact R.trk S.res h
  · intro z
    by_cases hm : R.mu Γ.ix a
    · exact R.trk S.res hm z
    · cases q : Γ.H0 a with
      | none => exact Γ.hav a h q
      | some o =>
        rw [S.frame a o q hm] at z
        cases z
  · rcases h with ⟨i, m, h1, h2⟩ | ⟨m, h1⟩
    · obtain ⟨b, e, q⟩ := S.slots i _ h1
      rw [h2] at e
      cases e
      obtain ⟨o, q⟩ := q.at
      rw [q]
      nofun
    · obtain ⟨o, q⟩ := (S.ows a m h1).at
      rw [q]
      nofun
/-- all that is tracked is kept -/
theorem SRel.ext (S : SRel Γ sl tm ow g σ H) (k : ∀ b o, H b = some o → H' b = some o) : SRel Γ sl tm ow g σ H' := by
  have k2 : ∀ b o, H b = some o → ¬ Γ.av sl ow σ b → H' b = some o ∧ ¬ Γ.av sl ow σ b := fun b o e n => ⟨k b o e, n⟩
  refine ⟨S.len, fun b o e n => k b o (S.frame b o e n), R.stab (fun b o e n => ⟨k b o e, n⟩) S.res, fun i s e => ?_, fun v d e => (S.tms v d e).keep k2, fun a m e => (S.ows a m e).keep k2 (fun o q => k a o q), S.ofr, S.uq1, S.uq2, S.uq3⟩
  have q := S.slots i s e
  cases s with
  | un => trivial
  | dat d => obtain ⟨v, e1, e2⟩ := q; exact ⟨v, e1, e2.keep k2⟩
  | mu m => obtain ⟨a, e1, e2⟩ := q; exact ⟨a, e1, e2.keep k2 (fun o z => k a o z)⟩
theorem SRel.push (S : SRel Γ sl tm ow g σ H) {v : V} {d : D} (h : Dt Γ.K (Γ.av sl ow σ) H v d) : SRel Γ sl ((v, d) :: tm) ow g σ H :=
  ⟨S.len, S.frame, S.res, S.slots, fun v' d' e => by
    rcases List.mem_cons.mp e with e | e
    · cases e; exact h
    · exact S.tms v' d' e, S.ows, S.ofr, S.uq1, S.uq2, S.uq3⟩
theorem SRel.sub {tm' : List (V × D)} (S : SRel Γ sl tm ow g σ H) (h : ∀ p, p ∈ tm' → p ∈ tm) : SRel Γ sl tm' ow g σ H :=
  ⟨S.len, S.frame, S.res, S.slots, fun v d e => S.tms v d (h _ e), S.ows, S.ofr, S.uq1, S.uq2, S.uq3⟩
theorem SRel.pop {p : V × D} (S : SRel Γ sl (p :: tm) ow g σ H) : SRel Γ sl tm ow g σ H := S.sub fun _ h => List.mem_cons_of_mem _ h
theorem SRel.top {v : V} {d : D} (S : SRel Γ sl ((v, d) :: tm) ow g σ H) : Dt Γ.K (Γ.av sl ow σ) H v d := S.tms v d List.mem_cons_self
theorem SRel.top2 {p : V × D} {v : V} {d : D} (S : SRel Γ sl (p :: (v, d) :: tm) ow g σ H) : Dt Γ.K (Γ.av sl ow σ) H v d := S.tms v d (List.mem_cons_of_mem _ List.mem_cons_self)
theorem SRel.slot {i : Nat} {d : D} (S : SRel Γ sl tm ow g σ H) (h : sl[i]? = some (.dat d)) : ∃ v, σ[i]? = some (some v) ∧ Dt Γ.K (Γ.av sl ow σ) H v d := S.slots i _ h
theorem upd_keep {p : Addr} {o : HO} (hp : H p = none) : ∀ b u, H b = some u → upd H p o b = some u := fun b u e => by
  rw [upd_ne (ne_of_none e hp)]
  exact e
/-- a new list, a new tuple of data -/
theorem SRel.newL {vs : List V} {ds : List D} {p : Addr} (S : SRel Γ sl tm ow g σ H) (h : DtAll Γ.K (Γ.av sl ow σ) H vs ds) (hp : H p = none) : SRel Γ sl ((.ref p, .lst ds) :: tm) ow g σ (upd H p (.lst vs)) :=
  (S.ext (upd_keep hp)).push (.lst (SqLv.of upd_same fun z => S.avd z hp) (h.keep fun b o e n => ⟨upd_keep hp b o e, n⟩))
theorem SRel.newT {vs : List V} {ds : List D} {p : Addr} (S : SRel Γ sl tm ow g σ H) (h : DtAll Γ.K (Γ.av sl ow σ) H vs ds) (hp : H p = none) : SRel Γ sl ((.ref p, .tup ds) :: tm) ow g σ (upd H p (.tup vs)) :=
  (S.ext (upd_keep hp)).push (.tup (SqTv.of upd_same fun z => S.avd z hp) (h.keep fun b o e n => ⟨upd_keep hp b o e, n⟩))
end
end DL

set_option maxHeartbeats 4000000
namespace DL
open PySem PySem.Spec PyProof.Rows L2
/-! ## expressions -/
def XAt (K : PySem.W.Frag) (av : Addr → Prop) (H : Hp) : Option Addr → List (Str × D) → Prop
  | none, fs => fs = []
  | some x, fs => ∃ xs, H x = some (.xd xs) ∧ DtFs K av H xs fs
abbrev FE (R : Rs) := List SV → R.α → Rr R.α D
abbrev FA (R : Rs) := List SV → R.α → Rr R.α (List D)
abbrev FT (R : Rs) := List SV → R.α → Rr R.α Bool
section
variable {R : Rs} (Γ : Gm R) (sl : List SV) (tm : List (V × D)) (ow : List (Addr × MO)) (σ : L2.St) (E : XK)
def OkX (C : Addr) (fs : List (Str × D)) (g : R.α) : Prop := ∀ x H, SRel Γ sl tm ow g σ H → XAt Γ.K (Γ.av sl ow σ) H x fs → E (.ref C) x H
def OkV (Q : VK) : Rr R.α D → Prop
  | .ok d g => ∀ v H, SRel Γ sl tm ow g σ H → Dt Γ.K (Γ.av sl ow σ) H v d → Q v H
  | .err C fs g => OkX Γ sl tm ow σ E C fs g
  | .bad => False
def OkA (Q : List V → Hp → Prop) : Rr R.α (List D) → Prop
  | .ok d g => ∀ v H, SRel Γ sl tm ow g σ H → DtAll Γ.K (Γ.av sl ow σ) H v d → Q v H
  | .err C fs g => OkX Γ sl tm ow σ E C fs g
  | .bad => False
def OkT (Q : Bool → Hp → Prop) : Rr R.α Bool → Prop
  | .ok b g => ∀ H, SRel Γ sl tm ow g σ H → Q b H
  | .err C fs g => OkX Γ sl tm ow σ E C fs g
  | .bad => False
end
def ED {R : Rs} {ι : Type} (X : ι → Cx) (E : XK) (Γ : Gm R) (e : Expr) (f : FE R) : Prop := ∃ te, (∀ j, PE (X j) e te) ∧ ∀ sl tm ow g σ H Q, SRel Γ sl tm ow g σ H → OkV Γ sl tm ow σ E Q (f sl g) → te σ H Q
def EA {R : Rs} {ι : Type} (X : ι → Cx) (E : XK) (Γ : Gm R) (es : List Expr) (f : FA R) : Prop := ∃ ta, (∀ j, PA (X j) es ta) ∧ ∀ sl tm ow g σ H Q, SRel Γ sl tm ow g σ H → OkA Γ sl tm ow σ E Q (f sl g) → ta σ H Q
def ET {R : Rs} {ι : Type} (X : ι → Cx) (E : XK) (Γ : Gm R) (e : Expr) (f : FT R) : Prop := ∃ tt, (∀ j, PT (X j) e tt) ∧ ∀ sl tm ow g σ H Q, SRel Γ sl tm ow g σ H → OkT Γ sl tm ow σ E Q (f sl g) → tt σ H Q
def EW {R : Rs} {ι : Type} (X : ι → Cx) (E : XK) (Γ : Gm R) (e : Expr) (f : FT R) : Prop := ∃ tt, (∀ j, PW (X j) e tt) ∧ ∀ sl tm ow g σ H Q, SRel Γ sl tm ow g σ H → OkT Γ sl tm ow σ E Q (f sl g) → tt σ H Q
/-! ### the functions -/
section
variable {R : Rs}
def fVar (i : Nat) : FE R := fun sl g => match sl[i]? with
  | some (.dat d) => .ok d g
  | _ => .bad
def fC (d : D) : FE R := fun _ g => .ok d g
def lift2 (o : D → D → Option D) (x y : D) (g : R.α) : Rr R.α D := match o x y with
  | some z => .ok z g
  | none => .bad
def lift1 (o : D → Option D) (x : D) (g : R.α) : Rr R.α D := match o x with
  | some z => .ok z g
  | none => .bad
def liftL (o : List D → Option D) (x : List D) (g : R.α) : Rr R.α D := match o x with
  | some z => .ok z g
  | none => .bad
def fOp (o : D → D → Option D) (a b : FE R) : FE R := fun sl g => (a sl g).bind fun x g => (b sl g).bind fun y g => lift2 o x y g
def fUn (o : D → Option D) (a : FE R) : FE R := fun sl g => (a sl g).bind fun x g => lift1 o x g
def fNil : FA R := fun _ g => .ok [] g
def fCons (a : FE R) (r : FA R) : FA R := fun sl g => (a sl g).bind fun x g => (r sl g).bind fun xs g => .ok (x :: xs) g
def fLst (a : FA R) : FE R := fun sl g => (a sl g).bind fun xs g => if xs.length ≤ 100000 then .ok (.lst xs) g else .bad
def fTup (a : FA R) : FE R := fun sl g => (a sl g).bind fun xs g => if xs.length ≤ 100000 then .ok (.tup xs) g else .bad
def fCallL (o : List D → Option D) (a : FA R) : FE R := fun sl g => (a sl g).bind fun xs g => liftL o xs g
def fNot (a : FE R) : FE R := fun sl g => (a sl g).bind fun x g => match x with
  | .bl b => .ok (.bl (!b)) g
  | _ => .bad
def fAnd (a b : FE R) : FE R := fun sl g => (a sl g).bind fun x g => match x with
  | .bl true => b sl g
  | .bl false => .ok (.bl false) g
  | _ => .bad
def fOr (a b : FE R) : FE R := fun sl g => (a sl g).bind fun x g => match x with
  | .bl true => .ok (.bl true) g
  | .bl false => b sl g
  | _ => .bad
def fIf (t : FT R) (a b : FE R) : FE R := fun sl g => (t sl g).bind fun x g => if x = true then a sl g else b sl g
def fChain (o o' : D → D → Option D) (a b c : FE R) : FE R := fun sl g => (a sl g).bind fun x g => (b sl g).bind fun y g => match o x y with
  | some (.bl true) => (c sl g).bind fun z g => lift2 o' y z g
  | some (.bl false) => .ok (.bl false) g
  | _ => .bad
/-- tests -/
def tVal (a : FE R) : FT R := fun sl g => (a sl g).bind fun x g => match x with
  | .bl b => .ok b g
  | _ => .bad
def tNotF (a : FT R) : FT R := fun sl g => (a sl g).bind fun b g => .ok (!b) g
def tAndF (a b : FT R) : FT R := fun sl g => (a sl g).bind fun x g => if x = true then b sl g else .ok false g
def tOrF (a b : FT R) : FT R := fun sl g => (a sl g).bind fun x g => if x = true then .ok true g else b sl g
end
/-! ### the operations -/
def dI (f : Int → Int → D) : D → D → Option D
  | .int i, .int j => some (f i j)
  | _, _ => none
def dIc (c : Int → Int → Bool) (f : Int → Int → D) : D → D → Option D
  | .int i, .int j => if c i j = true then some (f i j) else none
  | _, _ => none
section
variable {R : Rs} (Γ : Gm R)
def OpS (r : R2) (o : D → D → Option D) : Prop := ∀ sl tm ow g σ H x y d e z Q, SRel Γ sl tm ow g σ H → Dt Γ.K (Γ.av sl ow σ) H x d → Dt Γ.K (Γ.av sl ow σ) H y e → o d e = some z →
  (∀ v H', SRel Γ sl tm ow g σ H' → (∀ b u, H b = some u → H' b = some u) → Dt Γ.K (Γ.av sl ow σ) H' v z → Q v H') → r x y H Q
def UnS (r : V → Hp → VK → Prop) (o : D → Option D) : Prop := ∀ sl tm ow g σ H x d z Q, SRel Γ sl tm ow g σ H → Dt Γ.K (Γ.av sl ow σ) H x d → o d = some z →
  (∀ v H', SRel Γ sl tm ow g σ H' → (∀ b u, H b = some u → H' b = some u) → Dt Γ.K (Γ.av sl ow σ) H' v z → Q v H') → r x H Q
def CallS (r : List V → Hp → VK → Prop) (o : List D → Option D) : Prop := ∀ sl tm ow g σ H xs ds z Q, SRel Γ sl tm ow g σ H → DtAll Γ.K (Γ.av sl ow σ) H xs ds → o ds = some z →
  (∀ v H', SRel Γ sl tm ow g σ H' → (∀ b u, H b = some u → H' b = some u) → Dt Γ.K (Γ.av sl ow σ) H' v z → Q v H') → r xs H Q
end
section
variable {R : Rs} {Γ : Gm R} {ι : Type} {X : ι → Cx} {E : XK}
theorem DtAll.push {sl tm ow g σ H} {xs : List V} {ds : List D} (S : SRel Γ sl tm ow g σ H) (h : DtAll Γ.K (Γ.av sl ow σ) H xs ds) : SRel Γ sl (xs.zip ds ++ tm) ow g σ H :=
  match xs, ds, h with
  | [], [], .nil => S
  | v :: vs, d :: ds, .cons h r => (DtAll.push S r).push h
theorem DtAll.back {sl ow g σ H} {tm : List (V × D)} : ∀ {xs : List V} {ds : List D}, xs.length = ds.length → SRel Γ sl (xs.zip ds ++ tm) ow g σ H → DtAll Γ.K (Γ.av sl ow σ) H xs ds
  | [], [], _, _ => .nil
  | v :: vs, d :: ds, h, S => .cons S.top (DtAll.back (by simpa using h) S.pop)
  | [], d :: ds, h, _ => by cases h
  | v :: vs, [], h, _ => by cases h
theorem DtAll.drop {sl ow g σ H} {tm : List (V × D)} : ∀ {xs : List V} {ds : List D}, SRel Γ sl (xs.zip ds ++ tm) ow g σ H → SRel Γ sl tm ow g σ H := fun S => S.sub fun _ h => List.mem_append_right _ h
theorem ed_var (i : Nat) {x : Str} {pos : Pos} (h : ∀ j, PE (X j) (.Name x pos) (tVar i)) : ED X E Γ (.Name x pos) (fVar i) := ⟨_, h, fun sl tm ow g σ H Q S h => by
  unfold fVar at h
  split at h
  · rename_i d e
    obtain ⟨v, e1, e2⟩ := S.slot e
    exact ⟨v, e1, h v H S e2⟩
  · exact h.elim⟩
/-- the name that stands in the i-th slot -/
theorem dv (i : Nat) {x : Str} {pos : Pos} (hN : ∀ j, (X j).N[i]? = some x := by intro _; rfl) (hv : ∀ j, Vis (X j).env.scope x := by intro _; first | exact Or.inl rfl | exact Or.inr (Or.inl rfl) | exact Or.inr (Or.inr rfl)) (hd : (x == ("__debug__" : Str)) = false := by decide)
    (hcd : (x == ("__classdict__" : Str)) = false := by decide) : ED X E Γ (.Name x pos) (fVar i) := ed_var i fun j => pe_var (hN j) (hv j) hd hcd
theorem ed_c {e : Expr} {v : V} {d : D} (h : ∀ j, PE (X j) e (tC v)) (hd : ∀ av H, Dt Γ.K av H v d) : ED X E Γ e (fC d) := ⟨_, h, fun sl tm ow g σ H Q S h => h v H S (hd _ _)⟩
theorem ed_int {i : Int} {j pos} : ED X E Γ (.Constant (.int i) j pos) (fC (.int i)) := ed_c (fun _ => pe_int) fun _ _ => .int i
theorem ed_bl {b : Bool} {j pos} : ED X E Γ (.Constant (.bool b) j pos) (fC (.bl b)) := ed_c (fun _ => pe_bl) fun _ _ => .bl b
theorem ed_non {j pos} : ED X E Γ (.Constant .none j pos) (fC .non) := ed_c (fun _ => pe_non) fun _ _ => .non
theorem ed_str {x : Str} {j pos} : ED X E Γ (.Constant (.str x) j pos) (fC (.str x)) := ed_c (fun _ => pe_str) fun _ _ => .str x
/-- going on behind an outcome -/
theorem OkV.bind {sl tm ow σ Q} {β : Type} {r : Rr R.α D} {k : D → R.α → Rr R.α D} {P : VK} (h : OkV Γ sl tm ow σ E Q (r.bind k)) (hk : ∀ d g, r = .ok d g → OkV Γ sl tm ow σ E Q (k d g) → ∀ v H, SRel Γ sl tm ow g σ H → Dt Γ.K (Γ.av sl ow σ) H v d → P v H) :
    OkV Γ sl tm ow σ E P r := by
  cases r with
  | ok d g => exact hk d g rfl h
  | err C fs g => exact h
  | bad => exact h
theorem ed_op {op : Operator} {r : R2} {o : D → D → Option D} {a b : Expr} {fa fb : FE R} {pos : Pos} (ho : ∀ j, OpR (X j) (binaryOp op) r) (so : OpS Γ r o) (ha : ED X E Γ a fa) (hb : ED X E Γ b fb) : ED X E Γ (.BinOp a op b pos) (fOp o fa fb) := by
  obtain ⟨ta, pa, sa⟩ := ha
  obtain ⟨tb, pb, sb⟩ := hb
  refine ⟨_, fun j => pe_op (ho j) (pa j) (pb j), fun sl tm ow g σ H Q S h => ?_⟩
  unfold fOp at h
  refine sa sl tm ow g σ H _ S ?_
  cases ea : fa sl g with
  | bad => rw [ea] at h; exact h
  | err C fs g1 => rw [ea] at h; exact h
  | ok x g1 =>
    rw [ea] at h
    intro v H1 S1 d1
    refine sb sl ((v, x) :: tm) ow g1 σ H1 _ (S1.push d1) ?_
    dsimp only [bind_ok] at h
    cases eb : fb sl g1 with
    | bad => rw [eb] at h; exact h
    | err C fs g2 => rw [eb] at h; exact fun y H2 S2 x2 => h y H2 S2.pop x2
    | ok y g2 =>
      rw [eb] at h
      dsimp only [bind_ok, lift2] at h
      intro u H2 S2 d2
      cases eo : o x y with
      | none => rw [eo] at h; exact h.elim
      | some z =>
        rw [eo] at h
        exact so sl tm ow g2 σ H2 v u x y z Q S2.pop S2.top d2 eo fun w H3 S3 _ d3 => h w H3 S3 d3
theorem ed_cmp {op : CmpOp} {r : R2} {o : D → D → Option D} {a b : Expr} {fa fb : FE R} {pos : Pos} (ho : ∀ j, OpR (X j) (compareOp op) r) (so : OpS Γ r o) (ha : ED X E Γ a fa) (hb : ED X E Γ b fb) (hm : behindInMarks op b = false) : ED X E Γ (.Compare a [op] [b] pos) (fOp o fa fb) := by
  obtain ⟨ta, pa, sa⟩ := ha
  obtain ⟨tb, pb, sb⟩ := hb
  refine ⟨_, fun j => pe_cmpR (ho j) (pa j) (pb j) hm, fun sl tm ow g σ H Q S h => ?_⟩
  unfold fOp at h
  refine sa sl tm ow g σ H _ S ?_
  cases ea : fa sl g with
  | bad => rw [ea] at h; exact h
  | err C fs g1 => rw [ea] at h; exact h
  | ok x g1 =>
    rw [ea] at h
    intro v H1 S1 d1
    refine sb sl ((v, x) :: tm) ow g1 σ H1 _ (S1.push d1) ?_
    dsimp only [bind_ok] at h
    cases eb : fb sl g1 with
    | bad => rw [eb] at h; exact h
    | err C fs g2 => rw [eb] at h; exact fun y H2 S2 x2 => h y H2 S2.pop x2
    | ok y g2 =>
      rw [eb] at h
      dsimp only [bind_ok, lift2] at h
      intro u H2 S2 d2
      cases eo : o x y with
      | none => rw [eo] at h; exact h.elim
      | some z =>
        rw [eo] at h
        exact so sl tm ow g2 σ H2 v u x y z Q S2.pop S2.top d2 eo fun w H3 S3 _ d3 => h w H3 S3 d3
theorem ed_un {op : UnaryOp} {r : V → Hp → VK → Prop} {o : D → Option D} {a : Expr} {fa : FE R} {pos : Pos} (ho : ∀ j, UnR (X j) (unaryOp op) r) (so : UnS Γ r o) (ha : ED X E Γ a fa) : ED X E Γ (.UnaryOp op a pos) (fUn o fa) := by
  obtain ⟨ta, pa, sa⟩ := ha
  refine ⟨_, fun j => pe_un (ho j) (pa j), fun sl tm ow g σ H Q S h => ?_⟩
  unfold fUn at h
  refine sa sl tm ow g σ H _ S ?_
  cases ea : fa sl g with
  | bad => rw [ea] at h; exact h
  | err C fs g1 => rw [ea] at h; exact h
  | ok x g1 =>
    rw [ea] at h
    dsimp only [bind_ok, lift1] at h
    intro v H1 S1 d1
    cases eo : o x with
    | none => rw [eo] at h; exact h.elim
    | some z =>
      rw [eo] at h
      exact so sl tm ow g1 σ H1 v x z Q S1 d1 eo fun w H3 S3 _ d3 => h w H3 S3 d3
/-! ### lists of arguments -/
theorem ea_nil : EA X E Γ [] fNil := ⟨_, fun _ => pa_nil, fun sl tm ow g σ H Q S h => h [] H S .nil⟩
theorem ea_cons {e : Expr} {es : List Expr} {fa : FE R} {fr : FA R} (ha : ED X E Γ e fa) (hr : EA X E Γ es fr) (hs : ∀ j, starEach (e :: es) (X j).env = (false, eval e (X j).env) :: starEach es (X j).env := by intro _; rfl) : EA X E Γ (e :: es) (fCons fa fr) := by
  obtain ⟨ta, pa, sa⟩ := ha
  obtain ⟨tr, pr, sr⟩ := hr
  refine ⟨_, fun j => pa_cons (pa j) (pr j) (hs j), fun sl tm ow g σ H Q S h => ?_⟩
  unfold fCons at h
  refine sa sl tm ow g σ H _ S ?_
  cases ea : fa sl g with
  | bad => rw [ea] at h; exact h
  | err C fs g1 => rw [ea] at h; exact h
  | ok x g1 =>
    rw [ea] at h
    intro v H1 S1 d1
    refine sr sl ((v, x) :: tm) ow g1 σ H1 _ (S1.push d1) ?_
    dsimp only [bind_ok] at h
    cases eb : fr sl g1 with
    | bad => rw [eb] at h; exact h
    | err C fs g2 => rw [eb] at h; exact fun y H2 S2 x2 => h y H2 S2.pop x2
    | ok y g2 =>
      rw [eb] at h
      intro u H2 S2 d2
      exact h (v :: u) H2 S2.pop (.cons S2.top d2)
theorem lim_ok {n : Nat} (h : n ≤ 100000) : n ≤ sizeLine := Nat.le_trans h (by decide)
theorem ed_lst {es : List Expr} {fa : FA R} {pos : Pos} (ha : EA X E Γ es fa) : ED X E Γ (.List es pos) (fLst fa) := by
  obtain ⟨ta, pa, sa⟩ := ha
  refine ⟨_, fun j => pe_lst (pa j), fun sl tm ow g σ H Q S h => ?_⟩
  unfold fLst at h
  refine sa sl tm ow g σ H _ S ?_
  cases ea : fa sl g with
  | bad => rw [ea] at h; exact h
  | err C fs g1 => rw [ea] at h; exact h
  | ok x g1 =>
    rw [ea] at h
    dsimp only [bind_ok] at h
    intro v H1 S1 d1
    by_cases hl : x.length ≤ 100000
    · rw [if_pos hl] at h
      refine ⟨by rw [d1.length]; exact lim_ok hl, fun p hp => ?_⟩
      have S2 := S1.newL d1 hp
      exact h _ _ S2.pop S2.top
    · rw [if_neg hl] at h
      exact h.elim
theorem ed_tup {es : List Expr} {fa : FA R} {pos : Pos} {k} (ha : EA X E Γ es fa) : ED X E Γ (.Tuple es k pos) (fTup fa) := by
  obtain ⟨ta, pa, sa⟩ := ha
  refine ⟨_, fun j => pe_tup (pa j), fun sl tm ow g σ H Q S h => ?_⟩
  unfold fTup at h
  refine sa sl tm ow g σ H _ S ?_
  cases ea : fa sl g with
  | bad => rw [ea] at h; exact h
  | err C fs g1 => rw [ea] at h; exact h
  | ok x g1 =>
    rw [ea] at h
    dsimp only [bind_ok] at h
    intro v H1 S1 d1
    by_cases hl : x.length ≤ 100000
    · rw [if_pos hl] at h
      refine ⟨by rw [d1.length]; exact lim_ok hl, fun p hp => ?_⟩
      have S2 := S1.newT d1 hp
      exact h _ _ S2.pop S2.top
    · rw [if_neg hl] at h
      exact h.elim
/-! ### and, or, not, if -/
theorem ed_one {op} {a : Expr} {fa : FE R} {pos : Pos} (h : ED X E Γ a fa) : ED X E Γ (.BoolOp op [a] pos) fa := by
  obtain ⟨ta, pa, sa⟩ := h
  exact ⟨_, fun j => pe_one (pa j), sa⟩
theorem ed_and {a b : Expr} {rest : List Expr} {fa fb : FE R} {pos : Pos} (ha : ED X E Γ a fa) (hb : ED X E Γ (.BoolOp .And (b :: rest) pos) fb) : ED X E Γ (.BoolOp .And (a :: b :: rest) pos) (fAnd fa fb) := by
  obtain ⟨ta, pa, sa⟩ := ha
  obtain ⟨tb, pb, sb⟩ := hb
  refine ⟨_, fun j => pe_and (pa j) (pb j), fun sl tm ow g σ H Q S h => ?_⟩
  unfold fAnd at h
  refine sa sl tm ow g σ H _ S ?_
  cases ea : fa sl g with
  | bad => rw [ea] at h; exact h
  | err C fs g1 => rw [ea] at h; exact h
  | ok x g1 =>
    rw [ea] at h
    dsimp only [bind_ok] at h
    intro v H1 S1 d1
    cases d1 with
    | bl c =>
      cases c with
      | true => exact ⟨true, rfl, sb sl tm ow g1 σ H1 Q S1 h⟩
      | false => exact ⟨false, rfl, h _ _ S1 (.bl false)⟩
    | _ => exact h.elim
theorem ed_or {a b : Expr} {rest : List Expr} {fa fb : FE R} {pos : Pos} (ha : ED X E Γ a fa) (hb : ED X E Γ (.BoolOp .Or (b :: rest) pos) fb) : ED X E Γ (.BoolOp .Or (a :: b :: rest) pos) (fOr fa fb) := by
  obtain ⟨ta, pa, sa⟩ := ha
  obtain ⟨tb, pb, sb⟩ := hb
  refine ⟨_, fun j => pe_or (pa j) (pb j), fun sl tm ow g σ H Q S h => ?_⟩
  unfold fOr at h
  refine sa sl tm ow g σ H _ S ?_
  cases ea : fa sl g with
  | bad => rw [ea] at h; exact h
  | err C fs g1 => rw [ea] at h; exact h
  | ok x g1 =>
    rw [ea] at h
    dsimp only [bind_ok] at h
    intro v H1 S1 d1
    cases d1 with
    | bl c =>
      cases c with
      | false => exact ⟨false, rfl, sb sl tm ow g1 σ H1 Q S1 h⟩
      | true => exact ⟨true, rfl, h _ _ S1 (.bl true)⟩
    | _ => exact h.elim
theorem ed_not {a : Expr} {fa : FE R} {pos : Pos} (ha : ED X E Γ a fa) : ED X E Γ (.UnaryOp .Not a pos) (fNot fa) := by
  obtain ⟨ta, pa, sa⟩ := ha
  refine ⟨_, fun j => pe_not (pa j), fun sl tm ow g σ H Q S h => ?_⟩
  unfold fNot at h
  refine sa sl tm ow g σ H _ S ?_
  cases ea : fa sl g with
  | bad => rw [ea] at h; exact h
  | err C fs g1 => rw [ea] at h; exact h
  | ok x g1 =>
    rw [ea] at h
    dsimp only [bind_ok] at h
    intro v H1 S1 d1
    cases d1 with
    | bl c => exact ⟨c, rfl, h _ _ S1 (.bl _)⟩
    | _ => exact h.elim
theorem et_val {e : Expr} {f : FE R} (h : ED X E Γ e f) (he : ∀ j, ∀ whole, isTrue e (X j).env whole = (do let v ← whole; standAt e.pos; holding [v] (truthy v)) := by intro _ _; rfl) : ET X E Γ e (tVal f) := by
  obtain ⟨ta, pa, sa⟩ := h
  refine ⟨_, fun j => pt_val (pa j) (he j), fun sl tm ow g σ H Q S h => ?_⟩
  unfold tVal at h
  refine sa sl tm ow g σ H _ S ?_
  cases ea : f sl g with
  | bad => rw [ea] at h; exact h
  | err C fs g1 => rw [ea] at h; exact h
  | ok x g1 =>
    rw [ea] at h
    dsimp only [bind_ok] at h
    intro v H1 S1 d1
    cases d1 with
    | bl c => exact ⟨c, rfl, h _ S1⟩
    | _ => exact h.elim
theorem et_not {a : Expr} {fa : FT R} {pos : Pos} (ha : ET X E Γ a fa) : ET X E Γ (.UnaryOp .Not a pos) (tNotF fa) := by
  obtain ⟨ta, pa, sa⟩ := ha
  refine ⟨_, fun j => pt_not (pa j), fun sl tm ow g σ H Q S h => ?_⟩
  unfold tNotF at h
  refine sa sl tm ow g σ H _ S ?_
  cases ea : fa sl g with
  | bad => rw [ea] at h; exact h
  | err C fs g1 => rw [ea] at h; exact h
  | ok x g1 =>
    rw [ea] at h
    exact h
theorem ew_and1 {a : Expr} {fa : FT R} {pos : Pos} (ha : ET X E Γ a fa) : EW X E Γ (.BoolOp .And [a] pos) fa := by
  obtain ⟨ta, pa, sa⟩ := ha
  exact ⟨_, fun j => pw_and1 (pa j), sa⟩
theorem ew_or1 {a : Expr} {fa : FT R} {pos : Pos} (ha : ET X E Γ a fa) : EW X E Γ (.BoolOp .Or [a] pos) fa := by
  obtain ⟨ta, pa, sa⟩ := ha
  exact ⟨_, fun j => pw_or1 (pa j), sa⟩
theorem ew_and {a b : Expr} {rest : List Expr} {fa fb : FT R} {pos : Pos} (ha : ET X E Γ a fa) (hb : EW X E Γ (.BoolOp .And (b :: rest) pos) fb) : EW X E Γ (.BoolOp .And (a :: b :: rest) pos) (tAndF fa fb) := by
  obtain ⟨ta, pa, sa⟩ := ha
  obtain ⟨tb, pb, sb⟩ := hb
  refine ⟨_, fun j => pw_and (pa j) (pb j), fun sl tm ow g σ H Q S h => ?_⟩
  unfold tAndF at h
  refine sa sl tm ow g σ H _ S ?_
  cases ea : fa sl g with
  | bad => rw [ea] at h; exact h
  | err C fs g1 => rw [ea] at h; exact h
  | ok x g1 =>
    rw [ea] at h
    dsimp only [bind_ok] at h
    intro H1 S1
    cases x with
    | true => exact sb sl tm ow g1 σ H1 Q S1 h
    | false => exact h _ S1
theorem ew_or {a b : Expr} {rest : List Expr} {fa fb : FT R} {pos : Pos} (ha : ET X E Γ a fa) (hb : EW X E Γ (.BoolOp .Or (b :: rest) pos) fb) : EW X E Γ (.BoolOp .Or (a :: b :: rest) pos) (tOrF fa fb) := by
  obtain ⟨ta, pa, sa⟩ := ha
  obtain ⟨tb, pb, sb⟩ := hb
  refine ⟨_, fun j => pw_or (pa j) (pb j), fun sl tm ow g σ H Q S h => ?_⟩
  unfold tOrF at h
  refine sa sl tm ow g σ H _ S ?_
  cases ea : fa sl g with
  | bad => rw [ea] at h; exact h
  | err C fs g1 => rw [ea] at h; exact h
  | ok x g1 =>
    rw [ea] at h
    dsimp only [bind_ok] at h
    intro H1 S1
    cases x with
    | false => exact sb sl tm ow g1 σ H1 Q S1 h
    | true => exact h _ S1
theorem et_w {e : Expr} {f : FT R} (h : EW X E Γ e f) : ET X E Γ e f := by
  obtain ⟨ta, pa, sa⟩ := h
  exact ⟨_, fun j => (pa j).pt, sa⟩
/-- a comparison as a test -/
theorem et_cmp {op : CmpOp} {r : R2} {o : D → D → Option D} {a b : Expr} {fa fb : FE R} {pos : Pos} (ho : ∀ j, OpR (X j) (compareOp op) r) (so : OpS Γ r o) (ha : ED X E Γ a fa) (hb : ED X E Γ b fb) (hm : behindInMarks op b = false) : ET X E Γ (.Compare a [op] [b] pos) (tVal (fOp o fa fb)) := by
  obtain ⟨ta, pa, sa⟩ := ha
  obtain ⟨tb, pb, sb⟩ := hb
  refine ⟨_, fun j => pt_cmpR (ho j) (pa j) (pb j) hm, fun sl tm ow g σ H Q S h => ?_⟩
  unfold tVal fOp at h
  refine sa sl tm ow g σ H _ S ?_
  cases ea : fa sl g with
  | bad => rw [ea] at h; exact h
  | err C fs g1 => rw [ea] at h; exact h
  | ok x g1 =>
    rw [ea] at h
    intro v H1 S1 d1
    refine sb sl ((v, x) :: tm) ow g1 σ H1 _ (S1.push d1) ?_
    dsimp only [bind_ok] at h
    cases eb : fb sl g1 with
    | bad => rw [eb] at h; exact h
    | err C fs g2 => rw [eb] at h; exact fun y H2 S2 x2 => h y H2 S2.pop x2
    | ok y g2 =>
      rw [eb] at h
      dsimp only [bind_ok, lift2] at h
      intro u H2 S2 d2
      cases eo : o x y with
      | none => rw [eo] at h; exact h.elim
      | some z =>
        rw [eo] at h
        dsimp only [bind_ok] at h
        refine so sl tm ow g2 σ H2 v u x y z _ S2.pop S2.top d2 eo fun w H3 S3 _ d3 => ?_
        cases d3 with
        | bl c => exact ⟨c, rfl, h _ S3⟩
        | _ => exact h.elim
theorem ed_if {c a b : Expr} {t : FT R} {fa fb : FE R} {pos : Pos} (hc : ET X E Γ c t) (ha : ED X E Γ a fa) (hb : ED X E Γ b fb) : ED X E Γ (.IfExp c a b pos) (fIf t fa fb) := by
  obtain ⟨tc, pc, sc⟩ := hc
  obtain ⟨ta, pa, sa⟩ := ha
  obtain ⟨tb, pb, sb⟩ := hb
  refine ⟨_, fun j => pe_ifExp (pc j) (pa j) (pb j), fun sl tm ow g σ H Q S h => ?_⟩
  unfold fIf at h
  refine sc sl tm ow g σ H _ S ?_
  cases ea : t sl g with
  | bad => rw [ea] at h; exact h
  | err C fs g1 => rw [ea] at h; exact h
  | ok x g1 =>
    rw [ea] at h
    dsimp only [bind_ok] at h
    intro H1 S1
    cases x with
    | true => exact iteT (sa sl tm ow g1 σ H1 Q S1 h)
    | false => exact iteF (sb sl tm ow g1 σ H1 Q S1 h)
theorem ed_chain {op op' : CmpOp} {r r' : R2} {o o' : D → D → Option D} {a b c : Expr} {fa fb fc : FE R} {pos : Pos} (ho : ∀ j, OpR (X j) (compareOp op) r) (ho' : ∀ j, OpR (X j) (compareOp op') r') (so : OpS Γ r o) (so' : OpS Γ r' o') (ha : ED X E Γ a fa) (hb : ED X E Γ b fb) (hc : ED X E Γ c fc)
    (pe : ∀ {ta tb tc} j, PE (X j) a ta → PE (X j) b tb → PE (X j) c tc → PE (X j) (.Compare a [op, op'] [b, c] pos) (tChain r r' ta tb tc)) : ED X E Γ (.Compare a [op, op'] [b, c] pos) (fChain o o' fa fb fc) := by
  obtain ⟨ta, pa, sa⟩ := ha
  obtain ⟨tb, pb, sb⟩ := hb
  obtain ⟨tc, pc, sc⟩ := hc
  refine ⟨_, fun j => pe j (pa j) (pb j) (pc j), fun sl tm ow g σ H Q S h => ?_⟩
  unfold fChain at h
  refine sa sl tm ow g σ H _ S ?_
  cases ea : fa sl g with
  | bad => rw [ea] at h; exact h
  | err C fs g1 => rw [ea] at h; exact h
  | ok x g1 =>
    rw [ea] at h
    intro v H1 S1 d1
    refine sb sl ((v, x) :: tm) ow g1 σ H1 _ (S1.push d1) ?_
    dsimp only [bind_ok] at h
    cases eb : fb sl g1 with
    | bad => rw [eb] at h; exact h
    | err C fs g2 => rw [eb] at h; exact fun y H2 S2 x2 => h y H2 S2.pop x2
    | ok y g2 =>
      rw [eb] at h
      dsimp only [bind_ok] at h
      intro u H2 S2 d2
      cases eo : o x y with
      | none => rw [eo] at h; exact h.elim
      | some z =>
        rw [eo] at h
        refine so sl ((u, y) :: tm) ow g2 σ H2 v u x y z _ (S2.pop.push d2) S2.top d2 eo fun w H3 S3 _ d3 => ?_
        cases d3 with
        | bl k =>
          cases k with
          | false => exact ⟨false, rfl, h _ _ S3.pop (.bl false)⟩
          | true =>
            refine ⟨true, rfl, sc sl ((u, y) :: tm) ow g2 σ H3 _ S3 ?_⟩
            dsimp only at h
            cases ec : fc sl g2 with
            | bad => rw [ec] at h; exact h
            | err C fs g3 => rw [ec] at h; exact fun y H2 S2 x2 => h y H2 S2.pop x2
            | ok z g3 =>
              rw [ec] at h
              dsimp only [bind_ok, lift2] at h
              intro q H4 S4 d4
              cases eo' : o' y z with
              | none => rw [eo'] at h; exact h.elim
              | some zz =>
                rw [eo'] at h
                exact so' sl tm ow g3 σ H4 u q y z zz Q S4.pop S4.top d4 eo' fun w H3 S3 _ d3 => h w H3 S3 d3
        | _ => exact h.elim
/-! ### operations of ints, scalars -/
theorem opS_I0 {f : Int → Int → V} {fd : Int → Int → D} (h : ∀ i j av H, Dt Γ.K av H (f i j) (fd i j)) : OpS Γ (rI0 f) (dI fd) := by
  intro sl tm ow g σ H x y d e z Q S d1 d2 eo k
  cases d1 <;> cases d2 <;> first | (cases eo; done) | skip
  simp only [dI, Option.some.injEq] at eo
  subst eo
  exact ⟨_, _, rfl, rfl, k _ _ S (fun _ _ e => e) (h _ _ _ _)⟩
theorem opS_I {C : Int → Int → Prop} {c : Int → Int → Bool} {f : Int → Int → V} {fd : Int → Int → D} (hc : ∀ i j, c i j = true → C i j) (h : ∀ i j av H, Dt Γ.K av H (f i j) (fd i j)) : OpS Γ (rI C f) (dIc c fd) := by
  intro sl tm ow g σ H x y d e z Q S d1 d2 eo k
  cases d1 <;> cases d2 <;> first | (cases eo; done) | skip
  rename_i i j
  simp only [dIc] at eo
  by_cases hh : c i j = true
  · rw [if_pos hh] at eo
    cases eo
    exact ⟨_, _, rfl, rfl, hc _ _ hh, k _ _ S (fun _ _ e => e) (h _ _ _ _)⟩
  · rw [if_neg hh] at eo
    cases eo
end
abbrev addI := dI fun i j => .int (i + j)
abbrev subI := dI fun i j => .int (i - j)
abbrev ltI := dI fun i j => .bl (decide (i < j))
abbrev leI := dI fun i j => .bl (decide (i ≤ j))
abbrev gtI := dI fun i j => .bl (decide (j < i))
abbrev geI := dI fun i j => .bl (decide (j ≤ i))
section
variable {R : Rs} {Γ : Gm R} {ι : Type} {X : ι → Cx} {E : XK}
theorem s_add : OpS Γ (rI0 fun i j => .int (i + j)) addI := opS_I0 fun _ _ _ _ => .int _
theorem s_sub : OpS Γ (rI0 fun i j => .int (i - j)) subI := opS_I0 fun _ _ _ _ => .int _
theorem s_lt : OpS Γ (rI0 fun i j => .bl (decide (i < j))) ltI := opS_I0 fun _ _ _ _ => .bl _
theorem s_le : OpS Γ (rI0 fun i j => .bl (decide (i ≤ j))) leI := opS_I0 fun _ _ _ _ => .bl _
theorem s_gt : OpS Γ (rI0 fun i j => .bl (decide (j < i))) gtI := opS_I0 fun _ _ _ _ => .bl _
theorem s_ge : OpS Γ (rI0 fun i j => .bl (decide (j ≤ i))) geI := opS_I0 fun _ _ _ _ => .bl _
end
end DL

set_option maxHeartbeats 4000000
namespace DL
open PySem PySem.Spec PyProof.Rows L2
/-! ## slots -/
section
variable {R : Rs} {Γ : Gm R} {sl : List SV} {tm : List (V × D)} {ow : List (Addr × MO)} {g : R.α} {σ : L2.St} {H H' : Hp}
theorem set_get {α : Type} {l : List α} {i j : Nat} {x y : α} (h : (l.set i x)[j]? = some y) : (j = i ∧ y = x ∧ i < l.length) ∨ (j ≠ i ∧ l[j]? = some y) := by
  by_cases e : j = i
  · subst e
    by_cases hl : j < l.length
    · rw [List.getElem?_set_self hl] at h
      exact .inl ⟨rfl, (Option.some.inj h).symm, hl⟩
    · rw [List.getElem?_eq_none (by rw [List.length_set]; omega)] at h
      cases h
  · rw [List.getElem?_set_ne (Ne.symm e)] at h
    exact .inr ⟨e, h⟩
theorem own_set {i : Nat} {s : SV} {v : Option V} {a : Addr} (hs : ∀ m, s ≠ .mu m) (h : own (sl.set i s) ow (σ.set i v) a) : own sl ow σ a := by
  rcases h with ⟨j, m, h1, h2⟩ | h
  · rcases set_get h1 with ⟨e, e2, hl⟩ | ⟨e, e2⟩
    · exact absurd e2.symm (hs m)
    · rw [List.getElem?_set_ne (Ne.symm e)] at h2
      exact .inl ⟨j, m, e2, h2⟩
  · exact .inr h
/-- a slot is stored: data -/
theorem SRel.set {i : Nat} {s : SV} {v : Option V} (S : SRel Γ sl tm ow g σ H) (hs : s = .un ∨ ∃ d w, s = .dat d ∧ v = some w ∧ Dt Γ.K (Γ.av sl ow σ) H w d) : SRel Γ (sl.set i s) tm ow g (σ.set i v) H := by
  have nm : ∀ m, s ≠ .mu m := by
    rcases hs with e | ⟨d, w, e, _⟩ <;> rw [e] <;> nofun
  have hv : ∀ a, Γ.av (sl.set i s) ow (σ.set i v) a → Γ.av sl ow σ a := fun a h => by
    rcases h with h | h | h
    · exact .inl h
    · exact .inr (.inl h)
    · exact .inr (.inr (own_set nm h))
  have hvG : ∀ a, Γ.avG (sl.set i s) ow (σ.set i v) a → Γ.avG sl ow σ a := fun a h => by
    rcases h with h | h
    · exact .inl h
    · exact .inr (own_set nm h)
  have k2 : ∀ b o, H b = some o → ¬ Γ.av sl ow σ b → H b = some o ∧ ¬ Γ.av (sl.set i s) ow (σ.set i v) b := fun b o e n => ⟨e, fun z => n (hv b z)⟩
  have mus : ∀ {j : Nat} {a : Addr} {m : MO}, (sl.set i s)[j]? = some (SV.mu m) → (σ.set i v)[j]? = some (some (V.ref a)) → sl[j]? = some (SV.mu m) ∧ σ[j]? = some (some (V.ref a)) := fun {j a m} h1 h2 => by
    rcases set_get h1 with ⟨e, e2, hl⟩ | ⟨e, e2⟩
    · exact absurd e2.symm (nm m)
    · rw [List.getElem?_set_ne (Ne.symm e)] at h2
      exact ⟨e2, h2⟩
  refine ⟨by rw [List.length_set, List.length_set]; exact S.len, S.frame, R.stab (fun b o e n => ⟨e, fun z => n (hvG b z)⟩) S.res, fun j q hj => ?_, fun v d e => (S.tms v d e).keep k2, fun a m e => (S.ows a m e).keep k2 (fun o q => q), fun a h => S.ofr a (own_set nm h), fun j k a m m' h1 h2 h3 h4 => ?_, fun j a m m' h1 h2 => ?_, S.uq3⟩
  · rcases set_get hj with ⟨e, e2, hl⟩ | ⟨e, e2⟩
    · subst e2
      rw [e, List.getElem?_set_self (by rw [← S.len]; exact hl)]
      rcases hs with rfl | ⟨d, w, rfl, rfl, hd⟩
      · trivial
      · exact ⟨w, rfl, hd.keep k2⟩
    · rw [List.getElem?_set_ne (Ne.symm e)]
      have q := S.slots j _ e2
      cases hq : (‹SV› : SV) with
      | un => trivial
      | dat d => rw [hq] at q; obtain ⟨v, e1, e2⟩ := q; exact ⟨v, e1, e2.keep k2⟩
      | mu m => rw [hq] at q; obtain ⟨a, e1, e2⟩ := q; exact ⟨a, e1, e2.keep k2 (fun o z => z)⟩
  · obtain ⟨p1, p2⟩ := mus h1 h3
    obtain ⟨p3, p4⟩ := mus h2 h4
    exact S.uq1 j k a m m' p1 p3 p2 p4
  · obtain ⟨p1, p2⟩ := mus h1 h2
    exact S.uq2 j a m m' p1 p2
/-- a slot is stored: a new thing of its own -/
theorem SRel.setNew {i : Nat} {m : MO} {p : Addr} {o : HO} (S : SRel Γ sl tm ow g σ H) (hp : H p = none) (hm : MoAt Γ.K Γ.sf (fun a => Γ.av sl ow σ a ∨ a = p) (upd H p o) p m) : SRel Γ (sl.set i (.mu m)) tm ow g (σ.set i (some (.ref p))) (upd H p o) := by
  have tr : ∀ a, own sl ow σ a → a ≠ p := fun a h z => S.avd (.inr (.inr h)) (by rw [z]; exact hp)
  have ho : ∀ a, own (sl.set i (.mu m)) ow (σ.set i (some (.ref p))) a → own sl ow σ a ∨ a = p := fun a h => by
    rcases h with ⟨j, m', h1, h2⟩ | h
    · rcases set_get h1 with ⟨e, e2, hl⟩ | ⟨e, e2⟩
      · rw [e, List.getElem?_set_self (by rw [← S.len]; exact hl)] at h2
        cases h2
        exact .inr rfl
      · rw [List.getElem?_set_ne (Ne.symm e)] at h2
        exact .inl (.inl ⟨j, m', e2, h2⟩)
    · exact .inl (.inr h)
  have hv : ∀ a, Γ.av (sl.set i (.mu m)) ow (σ.set i (some (.ref p))) a → Γ.av sl ow σ a ∨ a = p := fun a h => by
    rcases h with h | h | h
    · exact .inl (.inl h)
    · exact .inl (.inr (.inl h))
    · rcases ho a h with z | z
      · exact .inl (.inr (.inr z))
      · exact .inr z
  have k2 : ∀ b u, H b = some u → ¬ Γ.av sl ow σ b → upd H p o b = some u ∧ ¬ Γ.av (sl.set i (.mu m)) ow (σ.set i (some (.ref p))) b := fun b u e n => ⟨upd_keep hp b u e, fun z => by
    rcases hv b z with z | z
    · exact n z
    · exact ne_of_none e hp z⟩
  have mus : ∀ {j : Nat} {a : Addr} {m' : MO}, (sl.set i (.mu m))[j]? = some (SV.mu m') → (σ.set i (some (.ref p)))[j]? = some (some (V.ref a)) → (j = i ∧ a = p) ∨ (j ≠ i ∧ sl[j]? = some (SV.mu m') ∧ σ[j]? = some (some (V.ref a))) := fun {j a m'} h1 h2 => by
    rcases set_get h1 with ⟨e, e2, hl⟩ | ⟨e, e2⟩
    · rw [e, List.getElem?_set_self (by rw [← S.len]; exact hl)] at h2
      cases h2
      exact .inl ⟨e, rfl⟩
    · rw [List.getElem?_set_ne (Ne.symm e)] at h2
      exact .inr ⟨e, e2, h2⟩
  refine ⟨by rw [List.length_set, List.length_set]; exact S.len, fun b u e n => upd_keep hp b u (S.frame b u e n), ?_, fun j q hj => ?_, fun v d e => (S.tms v d e).keep k2, fun a m e => (S.ows a m e).keep k2 (fun u q => upd_keep hp a u q), fun a h => ?_, fun j k a m m' h1 h2 h3 h4 => ?_, fun j a m m' h1 h2 => ?_, S.uq3⟩
  · refine R.stab (fun b u e n => ⟨upd_keep hp b u e, fun h => ?_⟩) S.res
    rcases h with h | h
    · exact n (.inl h)
    · rcases ho b h with z | z
      · exact n (.inr z)
      · exact ne_of_none e hp z
  · rcases set_get hj with ⟨e, e2, hl⟩ | ⟨e, e2⟩
    · subst e2
      rw [e, List.getElem?_set_self (by rw [← S.len]; exact hl)]
      refine ⟨p, rfl, hm.keep (fun b u e n => ⟨e, fun z => n (hv b z)⟩) fun _ z => z⟩
    · rw [List.getElem?_set_ne (Ne.symm e)]
      have q := S.slots j _ e2
      cases hq : (‹SV› : SV) with
      | un => trivial
      | dat d => rw [hq] at q; obtain ⟨v, e1, e2⟩ := q; exact ⟨v, e1, e2.keep k2⟩
      | mu m => rw [hq] at q; obtain ⟨a, e1, e2⟩ := q; exact ⟨a, e1, e2.keep k2 (fun o z => upd_keep hp a o z)⟩
  · rcases ho a h with z | z
    · exact S.ofr a z
    · subst z
      cases q : Γ.H0 a with
      | none => rfl
      | some u =>
        exfalso
        by_cases hmu : R.mu Γ.ix a
        · exact R.trk S.res hmu hp
        · have := S.frame a u q hmu
          rw [hp] at this
          cases this
  · rcases mus h1 h3 with ⟨e1, e2⟩ | ⟨e1, p1, p2⟩ <;> rcases mus h2 h4 with ⟨e3, e4⟩ | ⟨e3, p3, p4⟩
    · rw [e1, e3]
    · exact absurd e2 (tr a (.inl ⟨_, _, p3, p4⟩))
    · exact absurd e4 (tr a (.inl ⟨_, _, p1, p2⟩))
    · exact S.uq1 j k a _ _ p1 p3 p2 p4
  · rcases mus h1 h2 with ⟨e1, e2⟩ | ⟨e1, p1, p2⟩
    · intro z
      exact tr a (.inr ⟨_, z⟩) e2
    · exact S.uq2 j a _ _ p1 p2
/-- a thing of a slot's own is changed -/
theorem SRel.change {i : Nat} {m m' : MO} {a : Addr} {o : HO} (S : SRel Γ sl tm ow g σ H) (hi : sl[i]? = some (SV.mu m)) (ha : σ[i]? = some (some (.ref a))) (hm : MoAt Γ.K Γ.sf (Γ.av sl ow σ) (upd H a o) a m') : SRel Γ (sl.set i (.mu m')) tm ow g σ (upd H a o) := by
  have hil : i < sl.length := (List.getElem?_eq_some_iff.mp hi).1
  have oa : own sl ow σ a := .inl ⟨i, m, hi, ha⟩
  have ho : ∀ b, own (sl.set i (.mu m')) ow σ b ↔ own sl ow σ b := fun b => by
    constructor
    · rintro (⟨j, m2, h1, h2⟩ | h)
      · rcases set_get h1 with ⟨e, e2, hl⟩ | ⟨e, e2⟩
        · rw [e] at h2
          exact .inl ⟨i, m, hi, h2⟩
        · exact .inl ⟨j, m2, e2, h2⟩
      · exact .inr h
    · rintro (⟨j, m2, h1, h2⟩ | h)
      · by_cases e : j = i
        · exact .inl ⟨i, m', by rw [List.getElem?_set_self hil], by rw [← e]; exact h2⟩
        · exact .inl ⟨j, m2, by rw [List.getElem?_set_ne (Ne.symm e)]; exact h1, h2⟩
      · exact .inr h
  have hv : ∀ b, Γ.av (sl.set i (.mu m')) ow σ b ↔ Γ.av sl ow σ b := fun b => by
    unfold Gm.av
    rw [ho]
  have ne : ∀ b, ¬ Γ.av sl ow σ b → b ≠ a := fun b n z => n (by rw [z]; exact .inr (.inr oa))
  have k2 : ∀ b u, H b = some u → ¬ Γ.av sl ow σ b → upd H a o b = some u ∧ ¬ Γ.av (sl.set i (.mu m')) ow σ b := fun b u e n => ⟨by rw [upd_ne (ne b n)]; exact e, fun z => n ((hv b).mp z)⟩
  have mus : ∀ {j : Nat} {b : Addr} {m2 : MO}, (sl.set i (.mu m'))[j]? = some (SV.mu m2) → σ[j]? = some (some (V.ref b)) → ∃ m3, sl[j]? = some (SV.mu m3) := fun {j b m2} h1 h2 => by
    rcases set_get h1 with ⟨e, e2, hl⟩ | ⟨e, e2⟩
    · exact ⟨m, by rw [e]; exact hi⟩
    · exact ⟨m2, e2⟩
  refine ⟨by rw [List.length_set]; exact S.len, fun b u e n => ?_, R.stab (fun b u e n => ⟨?_, fun h => ?_⟩) S.res, fun j q hj => ?_, fun v d e => (S.tms v d e).keep k2, fun b m2 e => (S.ows b m2 e).keep k2 (fun u q => ?_), fun b h => S.ofr b ((ho b).mp h), fun j k b m1 m2 h1 h2 h3 h4 => ?_, fun j b m1 m2 h1 h2 => ?_, S.uq3⟩
  · have : b ≠ a := fun z => by
      have := S.ofr a oa
      rw [← z, e] at this
      cases this
    rw [upd_ne this]
    exact S.frame b u e n
  · have : b ≠ a := fun z => n (by rw [z]; exact .inr oa)
    rw [upd_ne this]
    exact e
  · rcases h with h | h
    · exact n (.inl h)
    · exact n (.inr ((ho b).mp h))
  · rcases set_get hj with ⟨e, e2, hl⟩ | ⟨e, e2⟩
    · subst e2
      rw [e]
      exact ⟨a, ha, hm.keep (fun b u e n => ⟨e, fun z => n ((hv b).mp z)⟩) fun _ z => z⟩
    · have q := S.slots j _ e2
      cases hq : (‹SV› : SV) with
      | un => trivial
      | dat d => rw [hq] at q; obtain ⟨v, e1, e2⟩ := q; exact ⟨v, e1, e2.keep k2⟩
      | mu m2 =>
        rw [hq] at q
        obtain ⟨b, e1, e3⟩ := q
        refine ⟨b, e1, e3.keep k2 fun u z => ?_⟩
        have : b ≠ a := fun w => e (S.uq1 j i a m2 m (by rw [← hq]; exact e2) hi (by rw [← w]; exact e1) ha)
        rw [upd_ne this]
        exact z
  · have : b ≠ a := fun w => S.uq2 i a m m2 hi ha (by rw [← w]; exact e)
    rw [upd_ne this]
    exact q
  · obtain ⟨m3, p1⟩ := mus h1 h3
    obtain ⟨m4, p2⟩ := mus h2 h4
    exact S.uq1 j k b m3 m4 p1 p2 h3 h4
  · obtain ⟨m3, p1⟩ := mus h1 h2
    exact S.uq2 j b m3 m2 p1 h2
/-- a hidden thing of our own: laid, changed, given out -/
theorem SRel.hide {m : MO} {p : Addr} {o : HO} (S : SRel Γ sl tm ow g σ H) (hp : H p = none) (hm : MoAt Γ.K Γ.sf (fun a => Γ.av sl ow σ a ∨ a = p) (upd H p o) p m) : SRel Γ sl tm ((p, m) :: ow) g σ (upd H p o) := by
  have tr : ∀ a, own sl ow σ a → a ≠ p := fun a h z => S.avd (.inr (.inr h)) (by rw [z]; exact hp)
  have ho : ∀ a, own sl ((p, m) :: ow) σ a → own sl ow σ a ∨ a = p := fun a h => by
    rcases h with h | ⟨m', h⟩
    · exact .inl (.inl h)
    · rcases List.mem_cons.mp h with z | z
      · cases z
        exact .inr rfl
      · exact .inl (.inr ⟨m', z⟩)
  have hv : ∀ a, Γ.av sl ((p, m) :: ow) σ a → Γ.av sl ow σ a ∨ a = p := fun a h => by
    rcases h with h | h | h
    · exact .inl (.inl h)
    · exact .inl (.inr (.inl h))
    · rcases ho a h with z | z
      · exact .inl (.inr (.inr z))
      · exact .inr z
  have k2 : ∀ b u, H b = some u → ¬ Γ.av sl ow σ b → upd H p o b = some u ∧ ¬ Γ.av sl ((p, m) :: ow) σ b := fun b u e n => ⟨upd_keep hp b u e, fun z => by
    rcases hv b z with z | z
    · exact n z
    · exact ne_of_none e hp z⟩
  refine ⟨S.len, fun b u e n => upd_keep hp b u (S.frame b u e n), R.stab (fun b u e n => ⟨upd_keep hp b u e, fun h => ?_⟩) S.res, fun j q hj => ?_, fun v d e => (S.tms v d e).keep k2, fun a m' e => ?_, fun a h => ?_, S.uq1, fun j a m1 m2 h1 h2 z => ?_, ?_⟩
  · rcases h with h | h
    · exact n (.inl h)
    · rcases ho b h with z | z
      · exact n (.inr z)
      · exact ne_of_none e hp z
  · have q := S.slots j _ hj
    cases hq : (‹SV› : SV) with
    | un => trivial
    | dat d => rw [hq] at q; obtain ⟨v, e1, e2⟩ := q; exact ⟨v, e1, e2.keep k2⟩
    | mu m => rw [hq] at q; obtain ⟨a, e1, e2⟩ := q; exact ⟨a, e1, e2.keep k2 (fun o z => upd_keep hp a o z)⟩
  · rcases List.mem_cons.mp e with z | z
    · cases z
      exact hm.keep (fun b u e n => ⟨e, fun z => n (hv b z)⟩) fun _ z => z
    · exact (S.ows a m' z).keep k2 fun u q => upd_keep hp a u q
  · rcases ho a h with z | z
    · exact S.ofr a z
    · subst z
      cases q : Γ.H0 a with
      | none => rfl
      | some u =>
        exfalso
        by_cases hmu : R.mu Γ.ix a
        · exact R.trk S.res hmu hp
        · have := S.frame a u q hmu
          rw [hp] at this
          cases this
  · rcases List.mem_cons.mp z with z | z
    · cases z
      exact tr p (.inl ⟨j, m1, h1, h2⟩) rfl
    · exact S.uq2 j a m1 m2 h1 h2 z
  · rw [List.map_cons, List.nodup_cons]
    refine ⟨fun z => ?_, S.uq3⟩
    obtain ⟨⟨b, m2⟩, z1, z2⟩ := List.mem_map.mp z
    dsimp only at z2
    subst z2
    exact tr b (.inr ⟨m2, z1⟩) rfl
theorem SRel.hidden {m m' : MO} {p : Addr} {o : HO} (S : SRel Γ sl tm ((p, m) :: ow) g σ H) (hm : MoAt Γ.K Γ.sf (Γ.av sl ((p, m) :: ow) σ) (upd H p o) p m') : SRel Γ sl tm ((p, m') :: ow) g σ (upd H p o) := by
  have op : own sl ((p, m) :: ow) σ p := .inr ⟨m, List.mem_cons_self⟩
  have ho : ∀ b, own sl ((p, m') :: ow) σ b ↔ own sl ((p, m) :: ow) σ b := fun b => by
    constructor
    · rintro (h | ⟨m2, h⟩)
      · exact .inl h
      · rcases List.mem_cons.mp h with z | z
        · cases z
          exact op
        · exact .inr ⟨m2, List.mem_cons_of_mem _ z⟩
    · rintro (h | ⟨m2, h⟩)
      · exact .inl h
      · rcases List.mem_cons.mp h with z | z
        · cases z
          exact .inr ⟨m', List.mem_cons_self⟩
        · exact .inr ⟨m2, List.mem_cons_of_mem _ z⟩
  have hv : ∀ b, Γ.av sl ((p, m') :: ow) σ b ↔ Γ.av sl ((p, m) :: ow) σ b := fun b => by
    unfold Gm.av
    rw [ho]
  have ne : ∀ b, ¬ Γ.av sl ((p, m) :: ow) σ b → b ≠ p := fun b n z => n (by rw [z]; exact .inr (.inr op))
  have k2 : ∀ b u, H b = some u → ¬ Γ.av sl ((p, m) :: ow) σ b → upd H p o b = some u ∧ ¬ Γ.av sl ((p, m') :: ow) σ b := fun b u e n => ⟨by rw [upd_ne (ne b n)]; exact e, fun z => n ((hv b).mp z)⟩
  refine ⟨S.len, fun b u e n => ?_, R.stab (fun b u e n => ⟨?_, fun h => ?_⟩) S.res, fun j q hj => ?_, fun v d e => (S.tms v d e).keep k2, fun b m2 e => ?_, fun b h => S.ofr b ((ho b).mp h), S.uq1, fun j b m1 m2 h1 h2 z => ?_, S.uq3⟩
  · have : b ≠ p := fun z => by
      have := S.ofr p op
      rw [← z, e] at this
      cases this
    rw [upd_ne this]
    exact S.frame b u e n
  · have : b ≠ p := fun z => n (by rw [z]; exact .inr op)
    rw [upd_ne this]
    exact e
  · rcases h with h | h
    · exact n (.inl h)
    · exact n (.inr ((ho b).mp h))
  · have q := S.slots j _ hj
    cases hq : (‹SV› : SV) with
    | un => trivial
    | dat d => rw [hq] at q; obtain ⟨v, e1, e2⟩ := q; exact ⟨v, e1, e2.keep k2⟩
    | mu m2 =>
      rw [hq] at q hj
      obtain ⟨b, e1, e3⟩ := q
      refine ⟨b, e1, e3.keep k2 fun u z => ?_⟩
      have : b ≠ p := fun w => S.uq2 j p m2 m hj (by rw [← w]; exact e1) List.mem_cons_self
      rw [upd_ne this]
      exact z
  · rcases List.mem_cons.mp e with z | z
    · cases z
      exact hm.keep (fun b u e n => ⟨e, fun z => n ((hv b).mp z)⟩) fun _ z => z
    · have nb : b ≠ p := fun w => by
        have := S.uq3
        rw [List.map_cons, List.nodup_cons] at this
        exact this.1 (List.mem_map.mpr ⟨(b, m2), z, w⟩)
      exact (S.ows b m2 (List.mem_cons_of_mem _ z)).keep k2 fun u q => by rw [upd_ne nb]; exact q
  · rcases List.mem_cons.mp z with z | z
    · cases z
      exact S.uq2 j _ m1 m h1 h2 List.mem_cons_self
    · exact S.uq2 j b m1 m2 h1 h2 (List.mem_cons_of_mem _ z)
theorem moD {K : PySem.W.Frag} {sf : Addr} {av av' : Addr → Prop} {a : Addr} {m : MO} (h : MoAt K sf av H a m) (hs : ∀ b, av' b → av b) (n : ¬ av' a) : Dt K av' H (.ref a) m.d := by
  have k : ∀ b o, H b = some o → ¬ av b → H b = some o ∧ ¬ av' b := fun b o e q => ⟨e, fun z => q (hs b z)⟩
  cases m with
  | lst l => obtain ⟨vs, h, r⟩ := h; exact .lst (.of h n) (r.keep k)
  | dct l => obtain ⟨vs, h, r⟩ := h; exact .dct (.inl h) n (r.keep k)
  | obj C l => obtain ⟨_, dx, vs, h, r⟩ := h; exact .obj h n (r.keep k)
theorem SRel.unhide {m : MO} {p : Addr} (S : SRel Γ sl tm ((p, m) :: ow) g σ H) : SRel Γ sl ((.ref p, m.d) :: tm) ow g σ H := by
  have op : own sl ((p, m) :: ow) σ p := .inr ⟨m, List.mem_cons_self⟩
  have hs : ∀ b, own sl ow σ b → own sl ((p, m) :: ow) σ b := fun b h => by
    rcases h with h | ⟨m2, h⟩
    · exact .inl h
    · exact .inr ⟨m2, List.mem_cons_of_mem _ h⟩
  have hv : ∀ b, Γ.av sl ow σ b → Γ.av sl ((p, m) :: ow) σ b := fun b h => by
    rcases h with h | h | h
    · exact .inl h
    · exact .inr (.inl h)
    · exact .inr (.inr (hs b h))
  have k2 : ∀ b u, H b = some u → ¬ Γ.av sl ((p, m) :: ow) σ b → H b = some u ∧ ¬ Γ.av sl ow σ b := fun b u e n => ⟨e, fun z => n (hv b z)⟩
  have np : ¬ Γ.av sl ow σ p := by
    have h0 := S.ofr p op
    rintro (h | h | h)
    · exact Γ.hmu p h h0
    · exact Γ.hav p h h0
    · rcases h with ⟨i, m1, h1, h2⟩ | ⟨m2, h⟩
      · exact S.uq2 i p m1 m h1 h2 List.mem_cons_self
      · have := S.uq3
        rw [List.map_cons, List.nodup_cons] at this
        exact this.1 (List.mem_map.mpr ⟨(p, m2), h, rfl⟩)
  have S2 : SRel Γ sl tm ow g σ H := by
    refine ⟨S.len, S.frame, R.stab (fun b u e n => ⟨e, fun h => n ?_⟩) S.res, fun j q hj => ?_, fun v d e => (S.tms v d e).keep k2, fun b m2 e => (S.ows b m2 (List.mem_cons_of_mem _ e)).keep k2 fun _ z => z, fun b h => S.ofr b (hs b h), S.uq1, fun j b m1 m2 h1 h2 z => S.uq2 j b m1 m2 h1 h2 (List.mem_cons_of_mem _ z), ?_⟩
    · rcases h with h | h
      · exact .inl h
      · exact .inr (hs b h)
    · have q := S.slots j _ hj
      cases hq : (‹SV› : SV) with
      | un => trivial
      | dat d => rw [hq] at q; obtain ⟨v, e1, e2⟩ := q; exact ⟨v, e1, e2.keep k2⟩
      | mu m2 => rw [hq] at q; obtain ⟨b, e1, e3⟩ := q; exact ⟨b, e1, e3.keep k2 fun _ z => z⟩
    · have := S.uq3
      rw [List.map_cons, List.nodup_cons] at this
      exact this.2
  exact S2.push (moD (S.ows p m List.mem_cons_self) hv np)
/-- a slot's own thing becomes data -/
theorem SRel.freeze {i : Nat} {m : MO} (S : SRel Γ sl tm ow g σ H) (hi : sl[i]? = some (SV.mu m)) : SRel Γ (sl.set i (.dat m.d)) tm ow g σ H := by
  obtain ⟨a, ha, hm⟩ := S.slots i _ hi
  have hil : i < sl.length := (List.getElem?_eq_some_iff.mp hi).1
  have oa : own sl ow σ a := .inl ⟨i, m, hi, ha⟩
  have mus : ∀ {j : Nat} {m2 : MO}, (sl.set i (.dat m.d))[j]? = some (SV.mu m2) → j ≠ i ∧ sl[j]? = some (SV.mu m2) := fun {j m2} h1 => by
    rcases set_get h1 with ⟨e, e2, hl⟩ | ⟨e, e2⟩
    · cases e2
    · exact ⟨e, e2⟩
  have hs : ∀ b, own (sl.set i (.dat m.d)) ow σ b → own sl ow σ b := fun b h => by
    rcases h with ⟨j, m2, h1, h2⟩ | h
    · exact .inl ⟨j, m2, (mus h1).2, h2⟩
    · exact .inr h
  have hv : ∀ b, Γ.av (sl.set i (.dat m.d)) ow σ b → Γ.av sl ow σ b := fun b h => by
    rcases h with h | h | h
    · exact .inl h
    · exact .inr (.inl h)
    · exact .inr (.inr (hs b h))
  have k2 : ∀ b u, H b = some u → ¬ Γ.av sl ow σ b → H b = some u ∧ ¬ Γ.av (sl.set i (.dat m.d)) ow σ b := fun b u e n => ⟨e, fun z => n (hv b z)⟩
  have np : ¬ Γ.av (sl.set i (.dat m.d)) ow σ a := by
    have h0 := S.ofr a oa
    rintro (h | h | h)
    · exact Γ.hmu a h h0
    · exact Γ.hav a h h0
    · rcases h with ⟨j, m2, h1, h2⟩ | ⟨m2, h⟩
      · exact (mus h1).1 (S.uq1 j i a m2 m (mus h1).2 hi h2 ha)
      · exact S.uq2 i a m m2 hi ha h
  refine ⟨by rw [List.length_set]; exact S.len, S.frame, R.stab (fun b u e n => ⟨e, fun h => n ?_⟩) S.res, fun j q hj => ?_, fun v d e => (S.tms v d e).keep k2, fun b m2 e => (S.ows b m2 e).keep k2 fun _ z => z, fun b h => S.ofr b (hs b h), fun j k b m1 m2 h1 h2 h3 h4 => S.uq1 j k b m1 m2 (mus h1).2 (mus h2).2 h3 h4, fun j b m1 m2 h1 h2 => S.uq2 j b m1 m2 (mus h1).2 h2, S.uq3⟩
  · rcases h with h | h
    · exact .inl h
    · exact .inr (hs b h)
  · rcases set_get hj with ⟨e, e2, hl⟩ | ⟨e, e2⟩
    · subst e2
      rw [e]
      exact ⟨_, ha, moD hm hv np⟩
    · have q := S.slots j _ e2
      cases hq : (‹SV› : SV) with
      | un => trivial
      | dat d => rw [hq] at q; obtain ⟨v, e1, e2⟩ := q; exact ⟨v, e1, e2.keep k2⟩
      | mu m2 => rw [hq] at q; obtain ⟨b, e1, e3⟩ := q; exact ⟨b, e1, e3.keep k2 fun _ z => z⟩
/-- behind a call: all but what may change is kept -/
theorem SRel.called {g' : R.α} (S : SRel Γ sl tm ow g σ H) (k : ∀ b o, H b = some o → ¬ R.mu Γ.ix b → H' b = some o) (hg : R.G Γ.K Γ.ix g' (Γ.avG sl ow σ) H') : SRel Γ sl tm ow g' σ H' := by
  have k2 : ∀ b u, H b = some u → ¬ Γ.av sl ow σ b → H' b = some u ∧ ¬ Γ.av sl ow σ b := fun b u e n => ⟨k b u e fun z => n (.inl z), n⟩
  have nmu : ∀ a, own sl ow σ a → ¬ R.mu Γ.ix a := fun a h z => Γ.hmu a z (S.ofr a h)
  refine ⟨S.len, fun b o e n => k b o (S.frame b o e n) n, hg, fun j q hj => ?_, fun v d e => (S.tms v d e).keep k2, fun b m2 e => (S.ows b m2 e).keep k2 fun u z => k b u z (nmu b (.inr ⟨_, e⟩)), S.ofr, S.uq1, S.uq2, S.uq3⟩
  have q := S.slots j _ hj
  cases hq : (‹SV› : SV) with
  | un => trivial
  | dat d => rw [hq] at q; obtain ⟨v, e1, e2⟩ := q; exact ⟨v, e1, e2.keep k2⟩
  | mu m2 =>
    rw [hq] at q hj
    obtain ⟨b, e1, e3⟩ := q
    exact ⟨b, e1, e3.keep k2 fun u z => k b u z (nmu b (.inl ⟨j, m2, hj, e1⟩))⟩
theorem SRel.setD {i : Nat} {d : D} {v : V} (S : SRel Γ sl tm ow g σ H) (hd : Dt Γ.K (Γ.av sl ow σ) H v d) : SRel Γ (sl.set i (.dat d)) tm ow g (σ.set i (some v)) H := S.set (.inr ⟨d, v, rfl, rfl, hd⟩)
/-- a comprehension's own slot: taken away, given back -/
theorem SRel.wiped {i : Nat} (S : SRel Γ sl tm ow g σ H) : SRel Γ (sl.set i .un) tm ow g (σ.set i none) H := S.set (.inl rfl)
theorem SRel.back {i : Nat} {s : SV} (S : SRel Γ (sl.set i .un) tm ow g (σ.set i none) H) (hi : sl[i]? = some s) (hs : s = .un ∨ ∃ d v, s = .dat d ∧ σ[i]? = some (some v) ∧ (v, d) ∈ tm) : SRel Γ sl tm ow g σ H := by
  have hil : i < sl.length := (List.getElem?_eq_some_iff.mp hi).1
  have e1 : (sl.set i .un).set i s = sl := by
    rw [List.set_set]
    have := (List.getElem?_eq_some_iff.mp hi).2
    rw [← this]
    exact List.set_getElem_self hil
  have hl := S.len
  rw [List.length_set, List.length_set] at hl
  have his : i < σ.length := by omega
  have e2 : (σ.set i none).set i σ[i] = σ := by
    rw [List.set_set]
    exact List.set_getElem_self his
  have S2 := S.set (i := i) (s := s) (v := σ[i]) (by
    rcases hs with h | ⟨d, v, h1, h2, h3⟩
    · exact .inl h
    · exact .inr ⟨d, v, h1, (by rw [List.getElem?_eq_getElem his] at h2; exact Option.some.inj h2), S.tms v d h3⟩)
  rw [e1, e2] at S2
  exact S2
end
end DL

set_option maxHeartbeats 4000000
namespace DL
open PySem PySem.Spec PyProof.Rows L2
/-! ## statements -/
inductive Ro (R : Rs) where
  | nx (sl : List SV) (g : R.α) | rt (d : D) (g : R.α) | bk (sl : List SV) (g : R.α) | ct (sl : List SV) (g : R.α)
  | err (C : Addr) (fs : List (Str × D)) (g : R.α) | bad
abbrev FS (R : Rs) := List SV → R.α → Ro R
def Ro.seq {R : Rs} (o : Ro R) (k : FS R) : Ro R := match o with
  | .nx sl g => k sl g
  | o => o
section
variable {R : Rs} (Γ : Gm R) (tm : List (V × D)) (ow : List (Addr × MO)) (E : XK) (Dn : Ends)
def Gm.avR (a : Addr) : Prop := R.mu Γ.ix a ∨ Γ.av0 a
/-- what a caller is told -/
structure RRel (g : R.α) (H : Hp) : Prop where
  frame : ∀ b o, Γ.H0 b = some o → ¬ R.mu Γ.ix b → H b = some o
  res : R.G Γ.K Γ.ix g Γ.av0 H
def OkS : Ro R → Prop
  | .nx sl g => ∀ σ H, SRel Γ sl tm ow g σ H → Dn.nx σ H
  | .bk sl g => ∀ σ H, SRel Γ sl tm ow g σ H → Dn.bk σ H
  | .ct sl g => ∀ σ H, SRel Γ sl tm ow g σ H → Dn.ct σ H
  | .rt d g => ∀ v H, RRel Γ g H → Dt Γ.K Γ.avR H v d → Dn.rt v H
  | .err C fs g => ∀ x H, RRel Γ g H → XAt Γ.K Γ.avR H x fs → E (.ref C) x H
  | .bad => False
end
def ES {R : Rs} {ι : Type} (X : ι → Cx) (E : XK) (Γ : Gm R) (st : Stmt) (f : FS R) : Prop := ∃ t, (∀ j, PS (X j) st t) ∧ ∀ sl tm ow g σ H Dn, SRel Γ sl tm ow g σ H → OkS Γ tm ow E Dn (f sl g) → t Dn σ H
def ESs {R : Rs} {ι : Type} (X : ι → Cx) (E : XK) (Γ : Gm R) (st : List Stmt) (f : FS R) : Prop := ∃ t, (∀ j, PSs (X j) st t) ∧ ∀ sl tm ow g σ H Dn, SRel Γ sl tm ow g σ H → OkS Γ tm ow E Dn (f sl g) → t Dn σ H
section
variable {R : Rs} {Γ : Gm R} {sl : List SV} {tm : List (V × D)} {ow : List (Addr × MO)} {g : R.α} {σ : L2.St} {H H' : Hp} {ι : Type} {X : ι → Cx} {E : XK}
theorem SRel.rrel (S : SRel Γ sl tm ow g σ H) : RRel Γ g H := ⟨S.frame, R.stab (fun b o e n => ⟨e, fun z => n (.inl z)⟩) S.res⟩
theorem av_ret (a : Addr) (h : Γ.avR a) : Γ.av sl ow σ a := by
  rcases h with h | h
  · exact .inl h
  · exact .inr (.inl h)
theorem Dt.ret {v : V} {d : D} (h : Dt Γ.K (Γ.av sl ow σ) H v d) : Dt Γ.K Γ.avR H v d := h.keep fun b o e n => ⟨e, fun z => n (av_ret b z)⟩
theorem DtFs.ret {v : List (Str × V)} {d : List (Str × D)} (h : DtFs Γ.K (Γ.av sl ow σ) H v d) : DtFs Γ.K Γ.avR H v d := h.keep fun b o e n => ⟨e, fun z => n (av_ret b z)⟩
theorem XAt.ret {x : Option Addr} {fs : List (Str × D)} (h : XAt Γ.K (Γ.av sl ow σ) H x fs) : XAt Γ.K Γ.avR H x fs := by
  cases x with
  | none => exact h
  | some x => obtain ⟨xs, e, q⟩ := h; exact ⟨xs, e, q.ret⟩
theorem OkX.of {C : Addr} {fs : List (Str × D)} (h : ∀ x H, RRel Γ g H → XAt Γ.K Γ.avR H x fs → E (.ref C) x H) : OkX Γ sl tm ow σ E C fs g := fun x H S q => h x H S.rrel q.ret
/-! ### blocks -/
def sNx : FS R := fun sl g => .nx sl g
def sSeq (a b : FS R) : FS R := fun sl g => (a sl g).seq b
theorem ess_nil : ESs X E Γ [] sNx := ⟨_, fun _ => pss_nil, fun sl tm ow g σ H Dn S h => h σ H S⟩
theorem ess_one {st : Stmt} {f : FS R} (h : ES X E Γ st f) : ESs X E Γ [st] f := by
  obtain ⟨t, p, s⟩ := h
  exact ⟨_, fun j => pss_one (p j), s⟩
theorem ess_cons {st : Stmt} {rest : List Stmt} {f k : FS R} (h : ES X E Γ st f) (hr : ESs X E Γ rest k) : ESs X E Γ (st :: rest) (sSeq f k) := by
  obtain ⟨t, p, s⟩ := h
  obtain ⟨u, q, r⟩ := hr
  refine ⟨_, fun j => pss_cons (p j) (q j), fun sl tm ow g σ H Dn S h => ?_⟩
  refine s sl tm ow g σ H _ S ?_
  unfold sSeq at h
  cases e : f sl g with
  | nx sl' g' => rw [e] at h; exact fun σ' H' S' => r sl' tm ow g' σ' H' Dn S' h
  | rt d g' => rw [e] at h; exact h
  | bk sl' g' => rw [e] at h; exact h
  | ct sl' g' => rw [e] at h; exact h
  | err C fs g' => rw [e] at h; exact h
  | bad => rw [e] at h; exact h
/-- out of an expression -/
def Rr.toS {β : Type} (r : Rr R.α β) (k : β → R.α → Ro R) : Ro R := match r with
  | .ok x g => k x g
  | .err C fs g => .err C fs g
  | .bad => .bad
@[simp] theorem toS_ok {β : Type} (x : β) (g : R.α) (k : β → R.α → Ro R) : (Rr.ok x g).toS k = k x g := rfl
@[simp] theorem toS_err {β : Type} (C : Addr) (fs : List (Str × D)) (g : R.α) (k : β → R.α → Ro R) : (Rr.err C fs g : Rr R.α β).toS k = .err C fs g := rfl
@[simp] theorem toS_bad {β : Type} (k : β → R.α → Ro R) : (Rr.bad : Rr R.α β).toS k = .bad := rfl
@[simp] theorem seq_nx (sl : List SV) (g : R.α) (k : FS R) : (Ro.nx sl g).seq k = k sl g := rfl
@[simp] theorem seq_rt (d : D) (g : R.α) (k : FS R) : (Ro.rt d g).seq k = .rt d g := rfl
@[simp] theorem seq_bk (sl : List SV) (g : R.α) (k : FS R) : (Ro.bk sl g).seq k = .bk sl g := rfl
@[simp] theorem seq_ct (sl : List SV) (g : R.α) (k : FS R) : (Ro.ct sl g).seq k = .ct sl g := rfl
@[simp] theorem seq_err (C : Addr) (fs : List (Str × D)) (g : R.α) (k : FS R) : (Ro.err C fs g).seq k = .err C fs g := rfl
@[simp] theorem seq_bad (k : FS R) : (Ro.bad : Ro R).seq k = .bad := rfl
theorem toS_okV {Dn : Ends} {r : Rr R.α D} {k : D → R.α → Ro R} {P : VK} (h : OkS Γ tm ow E Dn (r.toS k)) (hk : ∀ d g, r = .ok d g → OkS Γ tm ow E Dn (k d g) → ∀ v H, SRel Γ sl tm ow g σ H → Dt Γ.K (Γ.av sl ow σ) H v d → P v H) : OkV Γ sl tm ow σ E P r := by
  cases r with
  | ok d g => exact hk d g rfl h
  | err C fs g => exact OkX.of h
  | bad => exact h
theorem toS_okT {Dn : Ends} {r : Rr R.α Bool} {k : Bool → R.α → Ro R} {P : Bool → Hp → Prop} (h : OkS Γ tm ow E Dn (r.toS k)) (hk : ∀ d g, r = .ok d g → OkS Γ tm ow E Dn (k d g) → ∀ H, SRel Γ sl tm ow g σ H → P d H) : OkT Γ sl tm ow σ E P r := by
  cases r with
  | ok d g => exact hk d g rfl h
  | err C fs g => exact OkX.of h
  | bad => exact h
def sRet (f : FE R) : FS R := fun sl g => (f sl g).toS fun d g => .rt d g
def sRetN : FS R := fun _ g => .rt .non g
def sSet (i : Nat) (f : FE R) : FS R := fun sl g => (f sl g).toS fun d g => .nx (sl.set i (.dat d)) g
def sIf (t : FT R) (a b : FS R) : FS R := fun sl g => (t sl g).toS fun c g => if c = true then a sl g else b sl g
def sExpr (f : FE R) : FS R := fun sl g => (f sl g).toS fun _ g => .nx sl g
/-- return of a slot's own thing -/
def sRetMu (i : Nat) : FS R := fun sl g => match sl[i]? with
  | some (.mu m) => .rt m.d g
  | _ => .bad
theorem es_ret {e : Expr} {f : FE R} {pos : Pos} (h : ED X E Γ e f) : ES X E Γ (.Return (some e) pos) (sRet f) := by
  obtain ⟨t, p, s⟩ := h
  refine ⟨_, fun j => ps_ret (p j), fun sl tm ow g σ H Dn S h => ?_⟩
  exact s sl tm ow g σ H _ S (toS_okV (sl := sl) (σ := σ) h fun d g' _ q v H' S' dv => q v H' S'.rrel dv.ret)
theorem es_retN {pos : Pos} : ES X E Γ (.Return none pos) sRetN := ⟨_, fun _ => ps_retN, fun sl tm ow g σ H Dn S h => h _ _ S.rrel .non⟩
theorem es_retMu {i : Nat} {x : Str} {p pos : Pos} (h : ∀ j, PE (X j) (.Name x p) (tVar i)) : ES X E Γ (.Return (some (.Name x p)) pos) (sRetMu i) := by
  refine ⟨_, fun j => ps_ret (h j), fun sl tm ow g σ H Dn S h => ?_⟩
  unfold sRetMu at h
  split at h
  · rename_i m e
    have S2 := S.freeze e
    obtain ⟨v, e1, e2⟩ := S2.slots i (.dat m.d) (by rw [List.getElem?_set_self (List.getElem?_eq_some_iff.mp e).1])
    exact ⟨v, e1, h v H S2.rrel e2.ret⟩
  · exact h.elim
theorem es_set {i : Nat} {x : Str} {e : Expr} {f : FE R} {pos pos' : Pos} (hN : ∀ j, (X j).N.Nodup) (hi : ∀ j, (X j).N[i]? = some x) (hx : ∀ j, Loc (X j).env.scope x) (h : ED X E Γ e f) (hs : ∀ j, swapsWith e (some (.Name x pos')) pos.line (X j).env = pure false := by intro _; rfl)
    (hf : ∀ j, (X j).fn x = true ∨ (X j).env.scope.names.lookup x = some .local := by intro _; first | exact .inl rfl | exact .inr rfl | assumption) : ES X E Γ (.Assign [.Name x pos'] e pos) (sSet i f) := by
  obtain ⟨t, p, s⟩ := h
  refine ⟨_, fun j => ps_set (hN j) (hi j) (hx j) (p j) (hs j) (hf j), fun sl tm ow g σ H Dn S h => ?_⟩
  exact s sl tm ow g σ H _ S (toS_okV (sl := sl) (σ := σ) h fun d g' _ q v H' S' dv => q _ H' (S'.setD dv))
theorem es_expr {e : Expr} {f : FE R} {pos : Pos} (h : ED X E Γ e f) (hs : ∀ j, swapsWith e none pos.line (X j).env = pure false := by intro _; rfl) : ES X E Γ (.Expr e pos) (sExpr f) := by
  obtain ⟨t, p, s⟩ := h
  refine ⟨_, fun j => ps_expr (p j) (hs j), fun sl tm ow g σ H Dn S h => ?_⟩
  exact s sl tm ow g σ H _ S (toS_okV (sl := sl) (σ := σ) h fun d g' _ q v H' S' dv => q _ H' S')
theorem es_if {c : Expr} {a b : List Stmt} {t : FT R} {fa fb : FS R} {pos : Pos} (hc : ET X E Γ c t) (ha : ESs X E Γ a fa) (hb : ESs X E Γ b fb) : ES X E Γ (.If c a b pos) (sIf t fa fb) := by
  obtain ⟨tc, pc, sc⟩ := hc
  obtain ⟨ta, pa, sa⟩ := ha
  obtain ⟨tb, pb, sb⟩ := hb
  refine ⟨_, fun j => ps_if (pc j) (pa j) (pb j), fun sl tm ow g σ H Dn S h => ?_⟩
  refine sc sl tm ow g σ H _ S (toS_okT (sl := sl) (σ := σ) h fun d g' _ q H' S' => ?_)
  cases d with
  | true => exact iteT (sa sl tm ow g' σ H' Dn S' q)
  | false => exact iteF (sb sl tm ow g' σ H' Dn S' q)
/-- x = [] that will grow -/
def sNewL (i : Nat) : FS R := fun sl g => .nx (sl.set i (.mu (.lst []))) g
theorem es_newL {i : Nat} {x : Str} {pos pos' pos2 : Pos} (hN : ∀ j, (X j).N.Nodup) (hi : ∀ j, (X j).N[i]? = some x) (hx : ∀ j, Loc (X j).env.scope x) (hs : ∀ j, swapsWith (.List [] pos2) (some (.Name x pos')) pos.line (X j).env = pure false := by intro _; rfl)
    (hf : ∀ j, (X j).fn x = true ∨ (X j).env.scope.names.lookup x = some .local := by intro _; first | exact .inl rfl | exact .inr rfl | assumption) : ES X E Γ (.Assign [.Name x pos'] (.List [] pos2) pos) (sNewL i) := by
  refine ⟨_, fun j => ps_set (hN j) (hi j) (hx j) (pe_lst pa_nil) (hs j) (hf j), fun sl tm ow g σ H Dn S h => ?_⟩
  exact ⟨Nat.zero_le _, fun p hp => h _ _ (S.setNew hp ⟨[], upd_same, .nil⟩)⟩
/-- xs = [..], to be changed -/
def sNewLs (i : Nat) (f : FA R) : FS R := fun sl g => (f sl g).toS fun ds g => if ds.length ≤ 100000 then .nx (sl.set i (.mu (.lst ds))) g else .bad
theorem es_newLs {i : Nat} {x : Str} {es : List Expr} {f : FA R} {pos pos' pos2 : Pos} (hN : ∀ j, (X j).N.Nodup) (hi : ∀ j, (X j).N[i]? = some x) (hx : ∀ j, Loc (X j).env.scope x) (h : EA X E Γ es f) (hs : ∀ j, swapsWith (.List es pos2) (some (.Name x pos')) pos.line (X j).env = pure false := by intro _; rfl)
    (hf : ∀ j, (X j).fn x = true ∨ (X j).env.scope.names.lookup x = some .local := by intro _; first | exact .inl rfl | exact .inr rfl | assumption) : ES X E Γ (.Assign [.Name x pos'] (.List es pos2) pos) (sNewLs i f) := by
  obtain ⟨t, p, s⟩ := h
  refine ⟨_, fun j => ps_set (hN j) (hi j) (hx j) (pe_lst (p j)) (hs j) (hf j), fun sl tm ow g σ H Dn S h => ?_⟩
  refine s sl tm ow g σ H _ S ?_
  unfold sNewLs at h
  cases e : f sl g with
  | bad => rw [e] at h; exact h
  | err C fs g' => rw [e] at h; exact OkX.of h
  | ok ds g' =>
    rw [e] at h
    dsimp only [toS_ok] at h
    intro vs H1 S1 d1
    by_cases hl : ds.length ≤ 100000
    · rw [if_pos hl] at h
      refine ⟨by rw [d1.length]; exact lim_ok hl, fun p hp => h _ _ (S1.setNew hp ⟨vs, upd_same, d1.keep fun b o e n => ⟨upd_keep hp b o e, fun z => ?_⟩⟩)⟩
      rcases z with z | z
      · exact n z
      · exact ne_of_none e hp z
    · rw [if_neg hl] at h
      exact h.elim
/-- xs.append(e) -/
def sApp (i : Nat) (f : FE R) : FS R := fun sl g => match sl[i]? with
  | some (.mu (.lst ds)) => (f sl g).toS fun d g => if ds.length < 100000 then .nx (sl.set i (.mu (.lst (ds ++ [d])))) g else .bad
  | _ => .bad
theorem lim_lt {n : Nat} (h : n < 100000) : n < sizeLine := Nat.lt_of_lt_of_le h (by decide)
theorem es_app {i : Nat} {x : Str} {e : Expr} {f : FE R} {px apos cpos pos : Pos} (hv : ∀ j, PE (X j) (.Name x px) (tVar i)) (h : ED X E Γ e f)
    (pe : ∀ {te} j, PE (X j) e te → PE (X j) (.Call (.Attribute (.Name x px) "append" apos) [e] [] cpos) (tBM Γ.K "list" rAppend (tVar i) (tCons te tNil)))
    (hs : ∀ j, swapsWith (.Call (.Attribute (.Name x px) "append" apos) [e] [] cpos) none pos.line (X j).env = pure false := by intro _; rfl) : ES X E Γ (.Expr (.Call (.Attribute (.Name x px) "append" apos) [e] [] cpos) pos) (sApp i f) := by
  obtain ⟨t, p, s⟩ := h
  refine ⟨_, fun j => ps_expr (pe j (p j)) (hs j), fun sl tm ow g σ H Dn S h => ?_⟩
  unfold sApp at h
  split at h
  · rename_i ds e1
    obtain ⟨a, e2, vs, hl, hd⟩ := S.slots i _ e1
    refine ⟨_, e2, .inl ⟨rfl, vs, SqL.of hl⟩, ?_⟩
    refine s sl tm ow g σ H _ S (toS_okV (sl := sl) (σ := σ) h fun d g' _ q v H' S' dv => ?_)
    obtain ⟨a', e3, vs', hl', hd'⟩ := S'.slots i _ e1
    rw [e2] at e3
    cases e3
    by_cases hh : ds.length < 100000
    · rw [if_pos hh] at q
      refine ⟨a, vs', v, rfl, rfl, hl', by rw [hd'.length]; exact lim_lt hh, ?_⟩
      refine q _ _ (S'.change e1 e2 ⟨vs' ++ [v], upd_same, (DtAll.app hd' (.cons dv .nil)).keep fun b o e n => ⟨?_, n⟩⟩)
      have : b ≠ a := fun z => n (by rw [z]; exact .inr (.inr (.inl ⟨i, _, e1, e2⟩)))
      rw [upd_ne this]
      exact e
    · rw [if_neg hh] at q
      exact q.elim
  · exact h.elim
/-! ### targets -/
abbrev FG := D → List SV → Option (List SV)
def Apart {α : Type} (js : List Nat) (a b : List α) : Prop := a.length = b.length ∧ ∀ i, i ∉ js → a[i]? = b[i]?
def EG {ι : Type} (X : ι → Cx) (Γ : Gm R) (tg : Expr) (js : List Nat) (gf : FG) : Prop := ∃ gt, (∀ j, PG (X j) tg gt) ∧ (∀ d sl sl', gf d sl = some sl' → Apart js sl' sl) ∧ ∀ sl tm ow g σ H v d sl' Q, SRel Γ sl tm ow g σ H → Dt Γ.K (Γ.av sl ow σ) H v d → gf d sl = some sl' → (∀ σ', SRel Γ sl' tm ow g σ' H → Apart js σ' σ → Q σ' H) → gt v σ H Q
theorem Apart.refl {α : Type} {js : List Nat} (a : List α) : Apart js a a := ⟨rfl, fun _ _ => rfl⟩
theorem Apart.trans {α : Type} {js ks : List Nat} {a b c : List α} (h : Apart js a b) (k : Apart ks b c) : Apart (js ++ ks) a c := ⟨h.1.trans k.1, fun i hi => (h.2 i fun z => hi (List.mem_append_left _ z)).trans (k.2 i fun z => hi (List.mem_append_right _ z))⟩
theorem Apart.set {α : Type} {i : Nat} {x : α} (a : List α) : Apart [i] (a.set i x) a := ⟨List.length_set, fun j hj => List.getElem?_set_ne fun z => hj (by rw [z]; exact List.mem_cons_self)⟩
def gN (i : Nat) : FG := fun d sl => some (sl.set i (.dat d))
theorem eg_name {i : Nat} {x : Str} {pos : Pos} (hN : ∀ j, (X j).N.Nodup) (hi : ∀ j, (X j).N[i]? = some x) (hx : ∀ j, Loc (X j).env.scope x) (hf : ∀ j, (X j).fn x = true ∨ (X j).env.scope.names.lookup x = some .local := by intro _; first | exact .inl rfl | exact .inr rfl | assumption) : EG X Γ (.Name x pos) [i] (gN i) :=
  ⟨_, fun j => pg_name (hN j) (hi j) (hx j) (hf j), fun d sl sl' e => by cases e; exact Apart.set sl, fun sl tm ow g σ H v d sl' Q S dv e k => by
    cases e
    exact k _ (S.setD dv) (Apart.set σ)⟩
def EGs {ι : Type} (X : ι → Cx) (Γ : Gm R) (tg : List Expr) (js : List Nat) (gf : List D → List SV → Option (List SV)) : Prop := ∃ gt, (∀ j, PGs (X j) tg gt) ∧ (∀ d sl sl', gf d sl = some sl' → Apart js sl' sl) ∧ ∀ sl tm ow g σ H v d sl' Q, SRel Γ sl tm ow g σ H → DtAll Γ.K (Γ.av sl ow σ) H v d → gf d sl = some sl' → (∀ σ', SRel Γ sl' tm ow g σ' H → Apart js σ' σ → Q σ' H) → gt v σ H Q
def gsNil : List D → List SV → Option (List SV) := fun ds sl => match ds with
  | [] => some sl
  | _ => none
def gsCons (a : FG) (b : List D → List SV → Option (List SV)) : List D → List SV → Option (List SV) := fun ds sl => match ds with
  | d :: ds => (a d sl).bind fun sl => b ds sl
  | [] => none
theorem egs_nil : EGs X Γ [] [] gsNil := by
  refine ⟨_, fun _ => pgs_nil, fun d sl sl' e => ?_, fun sl tm ow g σ H v d sl' Q S dv e k => ?_⟩
  · cases d with
    | nil => cases e; exact .refl _
    | cons => cases e
  · cases dv with
    | nil => cases e; exact ⟨rfl, k _ S (.refl _)⟩
    | cons => cases e
theorem egs_cons {e : Expr} {es : List Expr} {js ks : List Nat} {a : FG} {b : List D → List SV → Option (List SV)} (h1 : EG X Γ e js a) (h2 : EGs X Γ es ks b) (hs : ∀ j, (assignEach (e :: es) (X j).env).map (·.2) = assign e (X j).env :: (assignEach es (X j).env).map (·.2) := by intro _; rfl) : EGs X Γ (e :: es) (js ++ ks) (gsCons a b) := by
  obtain ⟨t1, p1, f1, s1⟩ := h1
  obtain ⟨t2, p2, f2, s2⟩ := h2
  have fr : ∀ (js ks : List Nat) (u w : List SV), Apart (ks ++ js) u w → Apart (js ++ ks) u w := fun js ks u w h => ⟨h.1, fun i hi => h.2 i fun z => hi (by rcases List.mem_append.mp z with z | z; exact List.mem_append_right _ z; exact List.mem_append_left _ z)⟩
  have fr2 : ∀ (js ks : List Nat) (u w : L2.St), Apart (ks ++ js) u w → Apart (js ++ ks) u w := fun js ks u w h => ⟨h.1, fun i hi => h.2 i fun z => hi (by rcases List.mem_append.mp z with z | z; exact List.mem_append_right _ z; exact List.mem_append_left _ z)⟩
  refine ⟨_, fun j => pgs_cons (p1 j) (p2 j) (hs j), fun d sl sl' e => ?_, fun sl tm ow g σ H v d sl' Q S dv e k => ?_⟩
  · cases d with
    | nil => cases e
    | cons d ds =>
      simp only [gsCons] at e
      cases ea : a d sl with
      | none => rw [ea] at e; cases e
      | some sl1 =>
        rw [ea] at e
        exact fr _ _ _ _ ((f2 _ _ _ e).trans (f1 _ _ _ ea))
  cases dv with
  | nil => cases e
  | cons dv dr =>
    rename_i v vs d ds
    simp only [gsCons] at e
    cases ea : a d sl with
    | none => rw [ea] at e; cases e
    | some sl1 =>
      rw [ea] at e
      dsimp only [Option.bind] at e
      refine ⟨_, _, rfl, s1 sl (vs.zip ds ++ tm) ow g σ H v d sl1 _ (DtAll.push S dr) dv ea fun σ1 S1 ap1 => ?_⟩
      exact s2 sl1 tm ow g σ1 H vs ds sl' Q (DtAll.drop S1) (DtAll.back dr.length S1) e fun σ' S' ap2 => k σ' S' (fr2 _ _ _ _ (ap2.trans ap1))
def gT (n : Nat) (b : List D → List SV → Option (List SV)) : FG := fun d sl => match d with
  | .tup ds => if ds.length = n then b ds sl else none
  | _ => none
theorem eg_tup {es : List Expr} {k n : Nat} {pos : Pos} {js : List Nat} {b : List D → List SV → Option (List SV)} (h : EGs X Γ es js b)
    (pg : ∀ {t} j, PGs (X j) es t → PG (X j) (.Tuple es k pos) (gTup Γ.K n t)) : EG X Γ (.Tuple es k pos) js (gT n b) := by
  obtain ⟨t, p, f, s⟩ := h
  refine ⟨_, fun j => pg j (p j), fun d sl sl' e => ?_, fun sl tm ow g σ H v d sl' Q S dv e k => ?_⟩
  · cases d with
    | tup ds =>
      simp only [gT] at e
      by_cases hn : ds.length = n
      · rw [if_pos hn] at e
        exact f _ _ _ e
      · rw [if_neg hn] at e
        cases e
    | _ => cases e
  cases dv with
  | tup h dr =>
    rename_i a xs ds
    simp only [gT] at e
    by_cases hn : ds.length = n
    · rw [if_pos hn] at e
      exact ⟨a, xs, rfl, h.seq, dr.length.trans hn, s sl tm ow g σ H xs ds sl' Q S dr e k⟩
    · rw [if_neg hn] at e
      cases e
  | _ => cases e
/-! ### what is walked -/
structure Wlk (Γ : Gm R) (J : It) (ds : List D) (hs : List (V × D)) : Prop where
  go : ∀ {sl tm ow g σ H} {i : Nat}, SRel Γ sl (hs ++ tm) ow g σ H → i < ds.length → J.go i H
  yld : ∀ {sl tm ow g σ H} {i : Nat} {x H'}, SRel Γ sl (hs ++ tm) ow g σ H → i < ds.length → J.yld i H x H' → SRel Γ sl (hs ++ tm) ow g σ H' ∧ ∃ d, ds[i]? = some d ∧ Dt Γ.K (Γ.av sl ow σ) H' x d
  stop : ∀ {sl tm ow g σ H} {i : Nat}, SRel Γ sl (hs ++ tm) ow g σ H → i = ds.length → J.stop i H
def EI {R : Rs} {ι : Type} (X : ι → Cx) (E : XK) (Γ : Gm R) (tg iter : Expr) (fi : FA R) : Prop := ∃ wi, (∀ j, PI (X j) tg iter wi) ∧ ∀ sl tm ow g σ H (Rr : It → Hp → Prop), SRel Γ sl tm ow g σ H →
  (match fi sl g with
  | .ok ds g' => ∀ J H' hs, SRel Γ sl (hs ++ tm) ow g' σ H' → Wlk Γ J ds hs → Rr J H'
  | .err C fs g' => OkX Γ sl tm ow σ E C fs g'
  | .bad => False) → wi σ H Rr
def iL (f : FE R) : FA R := fun sl g => (f sl g).bind fun d g => match d with
  | .lst ds => .ok ds g
  | _ => .bad
def iT (f : FE R) : FA R := fun sl g => (f sl g).bind fun d g => match d with
  | .tup ds => .ok ds g
  | _ => .bad
theorem sql_inj {K : PySem.W.Frag} {av : Addr → Prop} {a : Addr} {xs : List V} {i : Nat} {x : V} (h : SqLv K av H a xs) (y : ∀ ys, SqL K H a ys → ys[i]? = some x) : xs[i]? = some x := y xs h.seq
theorem wlk_list {a : Addr} {ds : List D} : Wlk Γ (Itl Γ.K a) ds [(.ref a, .lst ds)] where
  go := fun {sl tm ow g σ H i} S h => by
    cases S.top with
    | lst q r => exact ⟨_, _, q.seq, List.getElem?_eq_getElem (by rw [r.length]; exact h)⟩
  yld := fun {sl tm ow g σ H i x H'} S h y => by
    obtain ⟨e, y⟩ := y
    subst e
    cases S.top with
    | lst q r =>
      have hx := sql_inj q y
      obtain ⟨d, e1, e2⟩ := r.atL hx
      exact ⟨S, d, e1, e2⟩
  stop := fun {sl tm ow g σ H i} S h => by
    cases S.top with
    | lst q r => exact ⟨_, q.seq, by rw [r.length, h]; exact Nat.le_refl _⟩
theorem wlk_tup {a : Addr} {ds : List D} : Wlk Γ (Itt Γ.K a) ds [(.ref a, .tup ds)] where
  go := fun {sl tm ow g σ H i} S h => by
    cases S.top with
    | tup q r => exact ⟨_, _, q.seq, List.getElem?_eq_getElem (by rw [r.length]; exact h)⟩
  yld := fun {sl tm ow g σ H i x H'} S h y => by
    obtain ⟨e, y⟩ := y
    subst e
    cases S.top with
    | tup q r =>
      have hx := y _ q.seq
      obtain ⟨d, e1, e2⟩ := r.atL hx
      exact ⟨S, d, e1, e2⟩
  stop := fun {sl tm ow g σ H i} S h => by
    cases S.top with
    | tup q r => exact ⟨_, q.seq, by rw [r.length, h]; exact Nat.le_refl _⟩
theorem ei_list {tg l : Expr} {f : FE R} (pi : ∀ {te} j, PE (X j) l te → PI (X j) tg l (iList Γ.K te)) (h : ED X E Γ l f) : EI X E Γ tg l (iL f) := by
  obtain ⟨t, p, s⟩ := h
  refine ⟨_, fun j => pi j (p j), fun sl tm ow g σ H Rr S h => ?_⟩
  refine s sl tm ow g σ H _ S ?_
  unfold iL at h
  cases e : f sl g with
  | bad => rw [e] at h; exact h
  | err C fs g' => rw [e] at h; exact h
  | ok d g' =>
    rw [e] at h
    dsimp only [bind_ok] at h
    intro v H1 S1 dv
    cases dv with
    | lst q r => exact ⟨_, rfl, ⟨_, q.seq⟩, h _ _ [(_, _)] (S1.push (.lst q r)) wlk_list⟩
    | _ => exact h.elim
theorem ei_tup {tg l : Expr} {f : FE R} (pi : ∀ {te} j, PE (X j) l te → PI (X j) tg l (iTup Γ.K te)) (h : ED X E Γ l f) : EI X E Γ tg l (iT f) := by
  obtain ⟨t, p, s⟩ := h
  refine ⟨_, fun j => pi j (p j), fun sl tm ow g σ H Rr S h => ?_⟩
  refine s sl tm ow g σ H _ S ?_
  unfold iT at h
  cases e : f sl g with
  | bad => rw [e] at h; exact h
  | err C fs g' => rw [e] at h; exact h
  | ok d g' =>
    rw [e] at h
    dsimp only [bind_ok] at h
    intro v H1 S1 dv
    cases dv with
    | tup q r => exact ⟨_, rfl, ⟨_, q.seq⟩, h _ _ [(_, _)] (S1.push (.tup q r)) wlk_tup⟩
    | _ => exact h.elim
/-- a list or a tuple -/
def iLT (f : FE R) : FA R := fun sl g => (f sl g).bind fun d g => match d with
  | .lst ds => .ok ds g
  | .tup ds => .ok ds g
  | _ => .bad
theorem ei_seq {tg l : Expr} {f : FE R} (pi : ∀ {te} j, PE (X j) l te → PI (X j) tg l (fun σ H Rr => iList Γ.K te σ H Rr ∨ iTup Γ.K te σ H Rr)) (h : ED X E Γ l f) (det : ∀ te, (∀ j, PE (X j) l te) → True) : EI X E Γ tg l (iLT f) := by
  obtain ⟨t, p, s⟩ := h
  refine ⟨_, fun j => pi j (p j), fun sl tm ow g σ H Rr S h => ?_⟩
  unfold iLT at h
  cases e : f sl g with
  | bad => rw [e] at h; exact h.elim
  | err C fs g' =>
    rw [e] at h
    exact .inl (s sl tm ow g σ H _ S (by rw [e]; exact h))
  | ok d g' =>
    rw [e] at h
    dsimp only [bind_ok] at h
    cases d with
    | lst ds =>
      refine .inl (s sl tm ow g σ H _ S ?_)
      rw [e]
      intro v H1 S1 dv
      cases dv with
      | lst q r => exact ⟨_, rfl, ⟨_, q.seq⟩, h _ _ [(_, _)] (S1.push (.lst q r)) wlk_list⟩
    | tup ds =>
      refine .inr (s sl tm ow g σ H _ S ?_)
      rw [e]
      intro v H1 S1 dv
      cases dv with
      | tup q r => exact ⟨_, rfl, ⟨_, q.seq⟩, h _ _ [(_, _)] (S1.push (.tup q r)) wlk_tup⟩
    | _ => exact h.elim
/-- range -/
def rngD (lo : Int) (n : Nat) : List D := (List.range n).map fun (i : Nat) => D.int (lo + (i : Int))
theorem rngD_len {lo : Int} {n : Nat} : (rngD lo n).length = n := by simp [rngD]
theorem rngD_get {lo : Int} {n i : Nat} (h : i < n) : (rngD lo n)[i]? = some (.int (lo + (i : Int))) := by
  unfold rngD
  rw [List.getElem?_map, List.getElem?_range h]
  rfl
theorem wlk_range {lo : Int} {n : Nat} : Wlk Γ (Itr lo n) (rngD lo n) [] where
  go := fun {sl tm ow g σ H i} S h => by rw [rngD_len] at h; exact h
  yld := fun {sl tm ow g σ H i x H'} S h y => by
    obtain ⟨e, y⟩ := y
    subst e y
    rw [rngD_len] at h
    exact ⟨S, _, rngD_get h, .int _⟩
  stop := fun {sl tm ow g σ H i} S h => by
    rw [rngD_len] at h
    exact Nat.le_of_eq h.symm
def iR1 (f : FA R) : FA R := fun sl g => (f sl g).bind fun ds g => match ds with
  | [.int j] => if -(2 ^ 62) ≤ j ∧ j < 2 ^ 62 then .ok (rngD 0 j.toNat) g else .bad
  | _ => .bad
def iR2 (f : FA R) : FA R := fun sl g => (f sl g).bind fun ds g => match ds with
  | [.int i, .int j] => if -(2 ^ 62) ≤ i ∧ i < 2 ^ 62 ∧ -(2 ^ 62) ≤ j ∧ j < 2 ^ 62 then .ok (rngD i (j - i).toNat) g else .bad
  | _ => .bad
theorem ei_range1 {tg a : Expr} {f : FA R} {p pos : Pos} (pi : ∀ {ta} j, PA (X j) [a] ta → PI (X j) tg (.Call (.Name "range" p) [a] [] pos) (iRng1 ta)) (h : EA X E Γ [a] f) : EI X E Γ tg (.Call (.Name "range" p) [a] [] pos) (iR1 f) := by
  obtain ⟨t, p, s⟩ := h
  refine ⟨_, fun j => pi j (p j), fun sl tm ow g σ H Rr S h => ?_⟩
  refine s sl tm ow g σ H _ S ?_
  unfold iR1 at h
  cases e : f sl g with
  | bad => rw [e] at h; exact h
  | err C fs g' => rw [e] at h; exact h
  | ok d g' =>
    rw [e] at h
    dsimp only [bind_ok] at h
    intro v H1 S1 dv
    cases dv with
    | nil => exact h.elim
    | cons d1 d2 =>
      cases d2 with
      | nil =>
        cases d1 with
        | int j =>
          dsimp only at h
          by_cases c : -(2 ^ 62) ≤ j ∧ j < 2 ^ 62
          · rw [if_pos c] at h
            exact ⟨j, rfl, c.1, c.2, h _ _ [] S1 wlk_range⟩
          · rw [if_neg c] at h
            exact h.elim
        | _ => exact h.elim
      | cons d3 d4 => cases d1 <;> exact h.elim
theorem ei_range2 {tg a b : Expr} {f : FA R} {p pos : Pos} (pi : ∀ {ta} j, PA (X j) [a, b] ta → PI (X j) tg (.Call (.Name "range" p) [a, b] [] pos) (iRng2 ta)) (h : EA X E Γ [a, b] f) : EI X E Γ tg (.Call (.Name "range" p) [a, b] [] pos) (iR2 f) := by
  obtain ⟨t, p, s⟩ := h
  refine ⟨_, fun j => pi j (p j), fun sl tm ow g σ H Rr S h => ?_⟩
  refine s sl tm ow g σ H _ S ?_
  unfold iR2 at h
  cases e : f sl g with
  | bad => rw [e] at h; exact h
  | err C fs g' => rw [e] at h; exact h
  | ok d g' =>
    rw [e] at h
    dsimp only [bind_ok] at h
    intro v H1 S1 dv
    cases dv with
    | nil => exact h.elim
    | cons d1 d2 =>
      cases d2 with
      | nil => cases d1 <;> exact h.elim
      | cons d3 d4 =>
        cases d4 with
        | cons d5 d6 => cases d1 <;> first | exact h.elim | (cases d3 <;> exact h.elim)
        | nil =>
          cases d1 with
          | int i =>
            cases d3 with
            | int j =>
              dsimp only at h
              by_cases c : -(2 ^ 62) ≤ i ∧ i < 2 ^ 62 ∧ -(2 ^ 62) ≤ j ∧ j < 2 ^ 62
              · rw [if_pos c] at h
                exact ⟨i, j, rfl, c, h _ _ [] S1 wlk_range⟩
              · rw [if_neg c] at h
                exact h.elim
            | _ => exact h.elim
          | _ => exact h.elim
/-! ### for -/
def forD (gf : FG) (fb : FS R) : List D → FS R
  | [], sl, g => .nx sl g
  | d :: ds, sl, g => match gf d sl with
    | none => .bad
    | some sl => match fb sl g with
      | .nx sl g => forD gf fb ds sl g
      | .ct sl g => forD gf fb ds sl g
      | .bk sl g => .nx sl g
      | .rt d g => .rt d g
      | .err C fs g => .err C fs g
      | .bad => .bad
def sFor (fi : FA R) (gf : FG) (fb : FS R) : FS R := fun sl g => (fi sl g).toS fun ds g => forD gf fb ds sl g
theorem OkS.tms {Dn : Ends} {hs : List (V × D)} {o : Ro R} (h : OkS Γ tm ow E Dn o) : OkS Γ (hs ++ tm) ow E Dn o := by
  cases o with
  | nx sl g => exact fun σ H S => h σ H (S.sub fun p q => List.mem_append_right _ q)
  | bk sl g => exact fun σ H S => h σ H (S.sub fun p q => List.mem_append_right _ q)
  | ct sl g => exact fun σ H S => h σ H (S.sub fun p q => List.mem_append_right _ q)
  | rt d g => exact h
  | err C fs g => exact h
  | bad => exact h
theorem es_for {tg iter : Expr} {body : List Stmt} {fi : FA R} {js : List Nat} {gf : FG} {fb : FS R} {pos : Pos} (hp : ∀ j, PassesOwn (model (X j).prog (X j).w) (X j).A (X j).env (X j).xe) (hc : ∀ j, (X j).calm = true) (hi : EI X E Γ tg iter fi) (hg : EG X Γ tg js gf) (hb : ESs X E Γ body fb)
    (hs : ∀ j, ∀ x, foldedSetIterable iter (X j).env x = pure x := by intro _ _; rfl) : ES X E Γ (.For tg iter body [] pos) (sFor fi gf fb) := by
  obtain ⟨wi, pi, si⟩ := hi
  obtain ⟨gt, pg, _, sg⟩ := hg
  obtain ⟨tb, pb, sb⟩ := hb
  refine ⟨_, fun j => ps_for (hp j) (hc j) (pi j) (pg j) (pb j) (hs j), fun sl tm ow g σ H Dn S h => ?_⟩
  refine si sl tm ow g σ H _ S ?_
  unfold sFor at h
  cases e : fi sl g with
  | bad => rw [e] at h; exact h
  | err C fs g' => rw [e] at h; exact OkX.of h
  | ok ds g' =>
    rw [e] at h
    dsimp only [toS_ok] at h
    intro J H1 hs S1 wk
    refine ⟨fun i m σ H => i ≤ ds.length ∧ m = ds.length - i ∧ ∃ sl g, SRel Γ sl (hs ++ tm) ow g σ H ∧ OkS Γ tm ow E Dn (forD gf fb (ds.drop i) sl g), ⟨ds.length, Nat.zero_le _, rfl, sl, g', S1, h⟩, ?_⟩
    rintro i m σ H ⟨hi, rfl, sl, g, S, h⟩
    by_cases hl : i < ds.length
    · refine .inr ⟨wk.go S hl, fun σ' H' => ∃ sl g, SRel Γ sl (hs ++ tm) ow g σ' H' ∧ OkS Γ tm ow E Dn (forD gf fb (ds.drop (i + 1)) sl g), fun σ' H' q => ⟨ds.length - (i + 1), by omega, hl, rfl, q⟩, fun x H' y => ?_⟩
      obtain ⟨S', d, e1, e2⟩ := wk.yld S hl y
      have ed : ds.drop i = d :: ds.drop (i + 1) := by
        rw [List.drop_eq_getElem_cons hl]
        rw [List.getElem?_eq_getElem hl] at e1
        rw [Option.some.inj e1]
      rw [ed] at h
      unfold forD at h
      cases eg : gf d sl with
      | none => rw [eg] at h; exact h.elim
      | some sl1 =>
        rw [eg] at h
        dsimp only at h
        refine sg sl (hs ++ tm) ow g σ H' x d sl1 _ S' e2 eg fun σ1 S2 _ => ?_
        refine sb sl1 (hs ++ tm) ow g σ1 H' _ S2 ?_
        cases ef : fb sl1 g with
        | nx sl2 g2 => rw [ef] at h; exact fun σ3 H3 S3 => ⟨sl2, g2, S3, h⟩
        | ct sl2 g2 => rw [ef] at h; exact fun σ3 H3 S3 => ⟨sl2, g2, S3, h⟩
        | bk sl2 g2 => rw [ef] at h; exact fun σ3 H3 S3 => h σ3 H3 (S3.sub fun p q => List.mem_append_right _ q)
        | rt d g2 => rw [ef] at h; exact h
        | err C fs g2 => rw [ef] at h; exact h
        | bad => rw [ef] at h; exact h
    · have ei : i = ds.length := by omega
      refine .inl ⟨wk.stop S ei, ?_⟩
      rw [ei, List.drop_length] at h
      exact h σ H (S.sub fun p q => List.mem_append_right _ q)
/-! ### while -/
def whD (t : FT R) (fb : FS R) : Nat → FS R
  | 0, _, _ => .bad
  | n + 1, sl, g => (t sl g).toS fun c g => if c = true then (match fb sl g with
      | .nx sl g => whD t fb n sl g
      | .ct sl g => whD t fb n sl g
      | .bk sl g => .nx sl g
      | .rt d g => .rt d g
      | .err C fs g => .err C fs g
      | .bad => .bad) else .nx sl g
def sWh (fuel : List SV → R.α → Nat) (t : FT R) (fb : FS R) : FS R := fun sl g => whD t fb (fuel sl g) sl g
theorem es_while {c : Expr} {body : List Stmt} {t : FT R} {fb : FS R} {fuel : List SV → R.α → Nat} {pos : Pos} (hp : ∀ j, PassesOwn (model (X j).prog (X j).w) (X j).A (X j).env (X j).xe) (hc : ET X E Γ c t) (hb : ESs X E Γ body fb) : ES X E Γ (.While c body [] pos) (sWh fuel t fb) := by
  obtain ⟨tc, pc, sc⟩ := hc
  obtain ⟨tb, pb, sb⟩ := hb
  refine ⟨_, fun j => ps_while (hp j) (pc j) (pb j), fun sl tm ow g σ H Dn S h => ?_⟩
  refine ⟨fun m σ H => ∃ sl g, SRel Γ sl tm ow g σ H ∧ OkS Γ tm ow E Dn (whD t fb m sl g), ⟨_, sl, g, S, h⟩, ?_⟩
  rintro m σ H ⟨sl, g, S, h⟩
  cases m with
  | zero => exact h.elim
  | succ m =>
    unfold whD at h
    refine sc sl tm ow g σ H _ S (toS_okT (sl := sl) (σ := σ) h fun d g' _ q H' S' => ?_)
    cases d with
    | false => exact iteF (q _ _ S')
    | true =>
      refine iteT ⟨fun σ' H' => ∃ sl g, SRel Γ sl tm ow g σ' H' ∧ OkS Γ tm ow E Dn (whD t fb m sl g), fun σ' H' z => ⟨m, Nat.lt_succ_self m, z⟩, ?_⟩
      refine sb sl tm ow g' σ H' _ S' ?_
      rw [if_pos rfl] at q
      cases ef : fb sl g' with
      | nx sl2 g2 => rw [ef] at q; exact fun σ3 H3 S3 => ⟨sl2, g2, S3, q⟩
      | ct sl2 g2 => rw [ef] at q; exact fun σ3 H3 S3 => ⟨sl2, g2, S3, q⟩
      | bk sl2 g2 => rw [ef] at q; exact q
      | rt d g2 => rw [ef] at q; exact q
      | err C fs g2 => rw [ef] at q; exact q
      | bad => rw [ef] at q; exact q
end
end DL

set_option maxHeartbeats 4000000
namespace DL
open PySem PySem.Spec PyProof.Rows L2
section
variable {R : Rs} {Γ : Gm R} {sl sl' : List SV} {tm : List (V × D)} {ow : List (Addr × MO)} {g : R.α} {σ σ' : L2.St} {H H' : Hp} {ι : Type} {X : ι → Cx} {E : XK}
/-- slots forgotten -/
theorem SRel.forget (S : SRel Γ sl' tm ow g σ' H) (hl : sl.length = sl'.length) (hs : σ.length = σ'.length) (h : ∀ i : Nat, sl[i]? = some SV.un ∨ (sl[i]? = sl'[i]? ∧ σ[i]? = σ'[i]?)) : SRel Γ sl tm ow g σ H := by
  have mus : ∀ {i : Nat} {m : MO}, sl[i]? = some (SV.mu m) → sl'[i]? = some (SV.mu m) ∧ σ[i]? = σ'[i]? := fun {i m} e => by
    rcases h i with z | ⟨z1, z2⟩
    · rw [z] at e
      cases e
    · exact ⟨by rw [← z1]; exact e, z2⟩
  have ho : ∀ a, own sl ow σ a → own sl' ow σ' a := fun a z => by
    rcases z with ⟨i, m, h1, h2⟩ | z
    · obtain ⟨p1, p2⟩ := mus h1
      exact .inl ⟨i, m, p1, by rw [← p2]; exact h2⟩
    · exact .inr z
  have hv : ∀ a, Γ.av sl ow σ a → Γ.av sl' ow σ' a := fun a z => by
    rcases z with z | z | z
    · exact .inl z
    · exact .inr (.inl z)
    · exact .inr (.inr (ho a z))
  have k2 : ∀ b u, H b = some u → ¬ Γ.av sl' ow σ' b → H b = some u ∧ ¬ Γ.av sl ow σ b := fun b u e n => ⟨e, fun z => n (hv b z)⟩
  refine ⟨by rw [hl, hs]; exact S.len, S.frame, R.stab (fun b u e n => ⟨e, fun z => n ?_⟩) S.res, fun j q hj => ?_, fun v d e => (S.tms v d e).keep k2, fun b m2 e => (S.ows b m2 e).keep k2 fun _ z => z, fun b h => S.ofr b (ho b h), fun j k b m1 m2 h1 h2 h3 h4 => ?_, fun j b m1 m2 h1 h2 => ?_, S.uq3⟩
  · rcases z with z | z
    · exact .inl z
    · exact .inr (ho b z)
  · rcases h j with z | ⟨z1, z2⟩
    · rw [z] at hj
      cases hj
      trivial
    · have q := S.slots j _ (by rw [← z1]; exact hj)
      rw [z2]
      cases hq : (‹SV› : SV) with
      | un => trivial
      | dat d => rw [hq] at q; obtain ⟨v, e1, e2⟩ := q; exact ⟨v, e1, e2.keep k2⟩
      | mu m2 => rw [hq] at q; obtain ⟨b, e1, e3⟩ := q; exact ⟨b, e1, e3.keep k2 fun _ z => z⟩
  · obtain ⟨p1, p2⟩ := mus h1
    obtain ⟨p3, p4⟩ := mus h2
    exact S.uq1 j k b m1 m2 p1 p3 (by rw [← p2]; exact h3) (by rw [← p4]; exact h4)
  · obtain ⟨p1, p2⟩ := mus h1
    exact S.uq2 j b m1 m2 p1 (by rw [← p2]; exact h2)
/-! ## comprehensions -/
def Rr.noerr {α β : Type} (r : Rr α β) : Rr α β := match r with
  | .ok x g => .ok x g
  | _ => .bad
@[simp] theorem noerr_ok {α β : Type} (x : β) (g : α) : (Rr.ok x g).noerr = .ok x g := rfl
@[simp] theorem noerr_err {α β : Type} (C : Addr) (fs : List (Str × D)) (g : α) : (Rr.err C fs g : Rr α β).noerr = .bad := rfl
@[simp] theorem noerr_bad {α β : Type} : (Rr.bad : Rr α β).noerr = .bad := rfl
def lcD (gf : FG) (ft : FT R) (fe : FE R) : List D → List SV → R.α → Rr R.α (List D)
  | [], _, g => .ok [] g
  | d :: ds, sl, g => match gf d sl with
    | none => .bad
    | some sl1 => (ft sl1 g).noerr.bind fun c g => if c = true then (fe sl1 g).noerr.bind fun x g => (lcD gf ft fe ds sl g).noerr.bind fun xs g => .ok (x :: xs) g else lcD gf ft fe ds sl g
def allUn (js : List Nat) (sl : List SV) : Bool := js.all fun j => match sl[j]? with
  | some .un => true
  | _ => false
def fLc (fi : FA R) (js : List Nat) (gf : FG) (ft : FT R) (fe : FE R) : FE R := fun sl g => (fi sl g).bind fun ds g => if allUn js sl = true then (lcD gf ft fe ds sl g).bind fun xs g => if xs.length ≤ 100000 then .ok (.lst xs) g else .bad else .bad
theorem allUn_of {js : List Nat} (h : allUn js sl = true) : ∀ j ∈ js, sl[j]? = some .un := fun j hj => by
  have := List.all_eq_true.mp h j hj
  split at this
  · assumption
  · cases this
theorem wipe_un {js : List Nat} (h : ∀ j ∈ js, sl[j]? = some SV.un) (S : SRel Γ sl tm ow g σ H) : SRel Γ sl tm ow g (wipe σ js) H := S.forget rfl (wipe_length _ _) fun i => by
  by_cases hi : i ∈ js
  · exact .inl (h i hi)
  · exact .inr ⟨rfl, wipe_out hi⟩
theorem unwipe {js : List Nat} (h : ∀ j ∈ js, sl[j]? = some SV.un) (S : SRel Γ sl tm ow g (wipe σ js) H) : SRel Γ sl tm ow g σ H := S.forget rfl (wipe_length _ _).symm fun i => by
  by_cases hi : i ∈ js
  · exact .inl (h i hi)
  · exact .inr ⟨rfl, (wipe_out hi).symm⟩
theorem wipe_ap {js : List Nat} (h : Apart js σ' (wipe σ js)) : wipe σ' js = wipe σ js := by
  apply List.ext_getElem?
  intro i
  by_cases hi : i ∈ js
  · have wi : ∀ (τ : L2.St), i < τ.length → (wipe τ js)[i]? = some none := fun τ hl => by
      cases e : (wipe τ js)[i]? with
      | none => rw [List.getElem?_eq_none_iff, wipe_length] at e; omega
      | some o =>
        cases o with
        | none => rfl
        | some x => exact absurd hi (wipe_some e).2
    have hl : σ'.length = σ.length := by rw [h.1, wipe_length]
    by_cases h2 : i < σ.length
    · rw [wi σ' (by omega), wi σ h2]
    · rw [List.getElem?_eq_none (by rw [wipe_length]; omega), List.getElem?_eq_none (by rw [wipe_length]; omega)]
  · rw [wipe_out hi]
    exact h.2 i hi
theorem lc_parts {elt tg iter : Expr} {ifs : List Expr} {scope : Scope} {own : List (Str × Nat)} {pos : Pos} {fi : FA R} {gf : FG} {ft : FT R} {fe : FE R} (hi : EI X E Γ tg iter fi)
    (hg : EG (fun q : ι × Shared × Hp × Addr × List (Str × Addr) × List Addr => (X q.1).blk q.2.1 q.2.2.1 scope (compEnvC scope q.2.2.2.2.1 q.2.2.2.1 (X q.1).env) q.2.2.2.2.2) Γ tg (own.map (·.2)) gf)
    (ht : ∃ tt, (∀ q : ι × Shared × Hp × Addr × List (Str × Addr) × List Addr, PTs ((X q.1).blk q.2.1 q.2.2.1 scope (compEnvC scope q.2.2.2.2.1 q.2.2.2.1 (X q.1).env) q.2.2.2.2.2) ifs tt) ∧ ∀ sl tm ow g σ H Q, SRel Γ sl tm ow g σ H → OkT Γ sl tm ow σ E0 Q (ft sl g) → tt σ H Q)
    (he : ED (fun q : ι × Shared × Hp × Addr × List (Str × Addr) × List Addr => (X q.1).blk q.2.1 q.2.2.1 scope (compEnvC scope q.2.2.2.2.1 q.2.2.2.1 (X q.1).env) q.2.2.2.2.2) E0 Γ elt fe) :
    ∃ (wi : TI) (gt : TG) (tt : TT) (te : TE), (∀ j, PI (X j) tg iter wi) ∧ (∀ q : ι × Shared × Hp × Addr × List (Str × Addr) × List Addr, PG ((X q.1).blk q.2.1 q.2.2.1 scope (compEnvC scope q.2.2.2.2.1 q.2.2.2.1 (X q.1).env) q.2.2.2.2.2) tg gt) ∧
      (∀ q : ι × Shared × Hp × Addr × List (Str × Addr) × List Addr, PTs ((X q.1).blk q.2.1 q.2.2.1 scope (compEnvC scope q.2.2.2.2.1 q.2.2.2.1 (X q.1).env) q.2.2.2.2.2) ifs tt) ∧
      (∀ q : ι × Shared × Hp × Addr × List (Str × Addr) × List Addr, PE ((X q.1).blk q.2.1 q.2.2.1 scope (compEnvC scope q.2.2.2.2.1 q.2.2.2.1 (X q.1).env) q.2.2.2.2.2) elt te) ∧
      ∀ sl tm ow g σ H Q, SRel Γ sl tm ow g σ H → OkV Γ sl tm ow σ E Q (fLc fi (own.map (·.2)) gf ft fe sl g) → tLc wi gt tt te (own.map (·.2)) σ H Q := by
  obtain ⟨wi, pi, si⟩ := hi
  obtain ⟨gt, pg, apg, sg⟩ := hg
  obtain ⟨tt, pt, st⟩ := ht
  obtain ⟨te, pe, se⟩ := he
  refine ⟨wi, gt, tt, te, pi, pg, pt, pe, fun sl tm ow g σ H Q S h => ?_⟩
  refine si sl tm ow g σ H _ S ?_
  unfold fLc at h
  cases e : fi sl g with
  | bad => rw [e] at h; exact h
  | err C fs g' => rw [e] at h; exact h
  | ok ds g' =>
    rw [e] at h
    dsimp only [bind_ok] at h
    intro J H1 hs S1 wk Dd hD
    by_cases hu : allUn (own.map (·.2)) sl = true
    · rw [if_pos hu] at h
      have un := allUn_of hu
      refine ⟨fun i m H => i ≤ ds.length ∧ m = ds.length - i ∧ ∃ g acc, SRel Γ sl (hs ++ tm) ((Dd, .lst acc) :: ow) g (wipe σ (own.map (·.2))) H ∧ OkV Γ sl tm ow σ E Q ((lcD gf ft fe (ds.drop i) sl g).bind fun xs g => if (acc ++ xs).length ≤ 100000 then .ok (.lst (acc ++ xs)) g else .bad),
        ⟨ds.length, Nat.zero_le _, rfl, g', [], wipe_un un (S1.hide hD ⟨[], upd_same, .nil⟩), h⟩, ?_⟩
      rintro i m H ⟨hi, rfl, g, acc, S, h⟩
      by_cases hl : i < ds.length
      · refine .inr ⟨wk.go S hl, fun H' => ∃ g acc, SRel Γ sl (hs ++ tm) ((Dd, .lst acc) :: ow) g (wipe σ (own.map (·.2))) H' ∧ OkV Γ sl tm ow σ E Q ((lcD gf ft fe (ds.drop (i + 1)) sl g).bind fun xs g => if (acc ++ xs).length ≤ 100000 then .ok (.lst (acc ++ xs)) g else .bad), fun H' q => ⟨ds.length - (i + 1), by omega, hl, rfl, q⟩, fun x H' y => ?_⟩
        obtain ⟨S', d, e1, e2⟩ := wk.yld S hl y
        have ed : ds.drop i = d :: ds.drop (i + 1) := by
          rw [List.drop_eq_getElem_cons hl]
          rw [List.getElem?_eq_getElem hl] at e1
          rw [Option.some.inj e1]
        rw [ed] at h
        unfold lcD at h
        cases eg : gf d sl with
        | none => rw [eg] at h; exact h.elim
        | some sl1 =>
          rw [eg] at h
          dsimp only at h
          have ap1 := apg _ _ _ eg
          refine sg sl (hs ++ tm) ((Dd, .lst acc) :: ow) g _ H' x d sl1 _ S' e2 eg fun σ1 S2 ap2 => ⟨wipe_ap ap2, ?_⟩
          have back : ∀ {tm' : List (V × D)} {ow' : List (Addr × MO)} {g' : R.α} {H3 : Hp}, SRel Γ sl1 tm' ow' g' σ1 H3 → SRel Γ sl tm' ow' g' (wipe σ (own.map (·.2))) H3 := fun {tm' ow' g' H3} S3 => S3.forget ap1.1.symm ap2.1.symm fun i => by
            by_cases hi : i ∈ own.map (·.2)
            · exact .inl (un i hi)
            · exact .inr ⟨(ap1.2 i hi).symm, (ap2.2 i hi).symm⟩
          refine st sl1 (hs ++ tm) ((Dd, .lst acc) :: ow) g σ1 H' _ S2 ?_
          cases et : ft sl1 g with
          | bad => rw [et] at h; exact h.elim
          | err C fs g2 => rw [et] at h; exact h.elim
          | ok c g2 =>
            rw [et] at h
            dsimp only [bind_ok, noerr_ok] at h
            intro H3 S3
            cases c with
            | false =>
              refine iteF ⟨g2, acc, back S3, ?_⟩
              rw [if_neg Bool.false_ne_true] at h
              exact h
            | true =>
              rw [if_pos rfl] at h
              refine iteT (se sl1 (hs ++ tm) ((Dd, .lst acc) :: ow) g2 σ1 H3 _ S3 ?_)
              cases ee : fe sl1 g2 with
              | bad => rw [ee] at h; exact h.elim
              | err C fs g3 => rw [ee] at h; exact h.elim
              | ok x2 g3 =>
                rw [ee] at h
                dsimp only [bind_ok, noerr_ok] at h
                intro y H4 S4 dy
                obtain ⟨vs, hv1, hv2⟩ := S4.ows Dd _ List.mem_cons_self
                have hacc : acc.length < 100000 ∨ False := by
                  cases el : lcD gf ft fe (ds.drop (i + 1)) sl g3 with
                  | bad => rw [el] at h; exact h.elim
                  | err C fs g4 => rw [el] at h; exact h.elim
                  | ok xs g4 =>
                    rw [el] at h
                    dsimp only [bind_ok, noerr_ok] at h
                    by_cases hz : (acc ++ (x2 :: xs)).length ≤ 100000
                    · rw [List.length_append, List.length_cons] at hz
                      exact .inl (by omega)
                    · rw [if_neg hz] at h
                      exact h.elim
                refine ⟨vs, hv1, by rw [hv2.length]; exact lim_lt (hacc.resolve_right id), g3, acc ++ [x2], back (S4.hidden ⟨vs ++ [y], upd_same, (DtAll.app hv2 (.cons dy .nil)).keep fun b o e n => ⟨?_, n⟩⟩), ?_⟩
                · have : b ≠ Dd := fun z => n (by rw [z]; exact .inr (.inr (.inr ⟨_, List.mem_cons_self⟩)))
                  rw [upd_ne this]
                  exact e
                · cases el : lcD gf ft fe (ds.drop (i + 1)) sl g3 with
                  | bad => rw [el] at h; exact h.elim
                  | err C fs g4 => rw [el] at h; exact h.elim
                  | ok xs g4 =>
                    rw [el] at h
                    dsimp only [bind_ok, noerr_ok] at h ⊢
                    rw [List.append_assoc]
                    exact h
      · have ei : i = ds.length := by omega
        refine .inl ⟨wk.stop S ei, ?_⟩
        rw [ei, List.drop_length] at h
        unfold lcD at h
        dsimp only [bind_ok] at h
        rw [List.append_nil] at h
        by_cases hz : acc.length ≤ 100000
        · rw [if_pos hz] at h
          have S5 := (unwipe un S).unhide
          exact h _ _ (S5.sub fun p q => List.mem_cons_of_mem _ (List.mem_append_right _ q)) S5.top
        · rw [if_neg hz] at h
          exact h.elim
    · rw [if_neg hu] at h
      exact h.elim
theorem ed_lc {elt tg iter : Expr} {ifs : List Expr} {scope : Scope} {own : List (Str × Nat)} {pos : Pos} {fi : FA R} {gf : FG} {ft : FT R} {fe : FE R} (hc : ∀ j, (X j).calm = true) (hN : ∀ j, (X j).N.Nodup) (hi : EI X E Γ tg iter fi) (ok : ∀ j, BlkOk (X j).N (X j).env.scope scope own)
    (hg : EG (fun q : ι × Shared × Hp × Addr × List (Str × Addr) × List Addr => (X q.1).blk q.2.1 q.2.2.1 scope (compEnvC scope q.2.2.2.2.1 q.2.2.2.1 (X q.1).env) q.2.2.2.2.2) Γ tg (own.map (·.2)) gf)
    (ht : ∃ tt, (∀ q : ι × Shared × Hp × Addr × List (Str × Addr) × List Addr, PTs ((X q.1).blk q.2.1 q.2.2.1 scope (compEnvC scope q.2.2.2.2.1 q.2.2.2.1 (X q.1).env) q.2.2.2.2.2) ifs tt) ∧ ∀ sl tm ow g σ H Q, SRel Γ sl tm ow g σ H → OkT Γ sl tm ow σ E0 Q (ft sl g) → tt σ H Q)
    (he : ED (fun q : ι × Shared × Hp × Addr × List (Str × Addr) × List Addr => (X q.1).blk q.2.1 q.2.2.1 scope (compEnvC scope q.2.2.2.2.1 q.2.2.2.1 (X q.1).env) q.2.2.2.2.2) E0 Γ elt fe)
    (hs : ∀ j, ∀ x, foldedSetIterable iter (X j).env x = pure x := by intro _ _; rfl) : ED X E Γ (.ListComp elt [⟨tg, iter, ifs, 0⟩] scope pos) (fLc fi (own.map (·.2)) gf ft fe) := by
  obtain ⟨wi, gt, tt, te, pi, pg, pt, pe, snd⟩ := lc_parts (E := E) (pos := pos) hi hg ht he
  exact ⟨_, fun j => pe_lc (hc j) (hN j) (pi j) (ok j) (fun s H C cl fp => pg (j, s, H, C, cl, fp)) (fun s H C cl fp => pt (j, s, H, C, cl, fp)) (fun s H C cl fp => pe (j, s, H, C, cl, fp)) (hs j), snd⟩
end
end DL

set_option maxHeartbeats 4000000
namespace DL
open PySem PySem.Spec PyProof.Rows L2
/-! ## defs -/
abbrev FF (R : Rs) := R.ix → R.α → List D → Rr R.α D
/-- what a def promises: the outcome that the function tells -/
def spD (R : Rs) (K : PySem.W.Frag) (n : Nat) (F : FF R) : Sp := fun vs H Q E => vs.length = n ∧ ∃ (ix : R.ix) (av : Addr → Prop) (g : R.α) (ds : List D), (∀ a, av a → H a ≠ none) ∧ R.G K ix g av H ∧ DtAll K (fun a => R.mu ix a ∨ av a) H vs ds ∧
  (match F ix g ds with
  | .ok d g' => ∀ v H', (∀ b o, H b = some o → ¬ R.mu ix b → H' b = some o) → R.G K ix g' av H' → Dt K (fun a => R.mu ix a ∨ av a) H' v d → Q v H'
  | .err C fs g' => ∀ x H', (∀ b o, H b = some o → ¬ R.mu ix b → H' b = some o) → R.G K ix g' av H' → XAt K (fun a => R.mu ix a ∨ av a) H' x fs → E (.ref C) x H'
  | .bad => False)
def startS (n : Nat) (ds : List D) : List SV := ds.map .dat ++ List.replicate (n - ds.length) .un
/-- a body's outcome as a def's -/
def Ro.fin {R : Rs} (o : Ro R) : Rr R.α D := match o with
  | .nx _ g => .ok .non g
  | .rt d g => .ok d g
  | .err C fs g => .err C fs g
  | _ => .bad
@[simp] theorem fin_nx {R : Rs} (sl : List SV) (g : R.α) : (Ro.nx sl g : Ro R).fin = .ok .non g := rfl
@[simp] theorem fin_rt {R : Rs} (d : D) (g : R.α) : (Ro.rt d g : Ro R).fin = .ok d g := rfl
@[simp] theorem fin_err {R : Rs} (C : Addr) (fs : List (Str × D)) (g : R.α) : (Ro.err C fs g : Ro R).fin = .err C fs g := rfl
@[simp] theorem fin_bad {R : Rs} : (Ro.bad : Ro R).fin = .bad := rfl
def runF {R : Rs} (n : Nat) (fb : R.ix → FS R) : FF R := fun ix g ds => (fb ix (startS n ds) g).fin
section
variable {R : Rs} {P : Program} {w : World} {K : PySem.W.Frag} {mg : Str → Option Value} {base : Heap}
theorem DtAll.at {av : Addr → Prop} {H : Hp} : ∀ {vs : List V} {ds : List D} {i : Nat} {d : D}, DtAll K av H vs ds → ds[i]? = some d → ∃ v, vs[i]? = some v ∧ Dt K av H v d := fun h e => h.atR e
theorem start_rel {Γ : Gm R} {vs : List V} {ds : List D} {n : Nat} {g : R.α} {N : List Str} (hn : N.length = n) (hG : R.G Γ.K Γ.ix g Γ.av0 Γ.H0) (hd : DtAll Γ.K (fun a => R.mu Γ.ix a ∨ Γ.av0 a) Γ.H0 vs ds) : SRel Γ (startS n ds) [] [] g (start N vs) Γ.H0 := by
  have nomu : ∀ (i : Nat) (m : MO), (startS n ds)[i]? ≠ some (SV.mu m) := fun i m z => by
    unfold startS at z
    rcases List.mem_append.mp (List.mem_of_getElem? z) with q | q
    · obtain ⟨d, _, q⟩ := List.mem_map.mp q
      cases q
    · rw [List.mem_replicate] at q
      cases q.2
  have noown : ∀ a, ¬ own (startS n ds) [] (start N vs) a := fun a z => by
    rcases z with ⟨i, m, h1, _⟩ | ⟨m, h⟩
    · exact nomu i m h1
    · cases h
  have k : ∀ b o, Γ.H0 b = some o → ¬ (R.mu Γ.ix b ∨ Γ.av0 b) → Γ.H0 b = some o ∧ ¬ Γ.av (startS n ds) [] (start N vs) b := fun b o e n => ⟨e, fun z => by
    rcases z with z | z | z
    · exact n (.inl z)
    · exact n (.inr z)
    · exact noown b z⟩
  refine ⟨?_, fun b o e _ => e, R.stab (fun b o e n => ⟨e, fun z => ?_⟩) hG, fun i s e => ?_, (fun _ _ z => nomatch z), (fun _ _ z => nomatch z), fun a z => absurd z (noown a), fun i j a m m' h1 => absurd h1 (nomu i m), fun i a m m' h1 => absurd h1 (nomu i m), List.nodup_nil⟩
  · unfold startS L2.start
    rw [List.length_append, List.length_append, List.length_map, List.length_map, List.length_replicate, List.length_replicate, hd.length, hn]
  · rcases z with z | z
    · exact n z
    · exact noown b z
  · unfold startS at e
    by_cases hi : i < ds.length
    · rw [List.getElem?_append_left (by rw [List.length_map]; exact hi), List.getElem?_map, List.getElem?_eq_getElem hi] at e
      cases e
      obtain ⟨v, e1, e2⟩ := hd.atR (List.getElem?_eq_getElem hi)
      refine ⟨v, ?_, e2.keep k⟩
      unfold L2.start
      rw [List.getElem?_append_left (by rw [List.length_map, hd.length]; exact hi), List.getElem?_map, e1]
      rfl
    · rw [List.getElem?_append_right (by rw [List.length_map]; omega)] at e
      have := List.mem_of_getElem? e
      rw [List.mem_replicate] at this
      rw [this.2]
      trivial
/-- a def by its body -/
theorem fd_mk {x qual : Str} {st : Stmt} {f : Addr} {fd : FuncData} {N ps : List Str} {k n : Nat} {fb : R.ix → FS R} (F : Fun K x qual st f fd) (S : FnScope N ps (defScope st)) (hn : N.length = n)
    (hb : ∀ (cdv : Value) (A : Around) (outer : List Env) (s : Shared) (H : Hp) (E : XK) (ix : R.ix) (av : Addr → Prop) (h1 : ∀ a, av a → H a ≠ none) (h2 : ∀ a, R.mu ix a → H a ≠ none), Room k (A.deeper (envOfC qual (defScope st) s.heap.objs.size f cdv)) →
      ESs (fun _ : Unit => cxOf (L2.CX P w) P w K mg base N qual (defScope st) f cdv A outer s H E) E (⟨K, 0, ix, av, H, h1, h2⟩ : Gm R) (defBody st) (fb ix)) : FnOk P w K mg base (L2.CX P w) (k + 1) f fd ps (spD R K ps.length (runF n fb)) := by
  refine F.okX S (fun vs H Q E h => h.1) fun cdv A outer s H vs Q E hr h => ?_
  obtain ⟨hl, ix, av, g, ds, hav, hG, hd, h⟩ := h
  obtain ⟨t, p, q⟩ := hb cdv A outer s H E ix av hav (fun a z => R.trk hG z) hr
  refine ⟨t, p (), q _ [] [] g _ H _ (start_rel (Γ := ⟨K, 0, ix, av, H, hav, fun a z => R.trk hG z⟩) hn hG hd) ?_⟩
  unfold runF Ro.fin at h
  cases e : fb ix (startS n ds) g with
  | nx sl g' => rw [e] at h; exact fun σ' H' S' => h .non H' S'.frame S'.rrel.res .non
  | rt d g' => rw [e] at h; exact fun v H' r dv => h v H' r.frame r.res dv
  | err C fs g' => rw [e] at h; exact fun x H' r dv => h x H' r.frame r.res dv
  | bk sl g' => rw [e] at h; exact h.elim
  | ct sl g' => rw [e] at h; exact h.elim
  | bad => rw [e] at h; exact h
end
/-! ## calls -/
section
variable {R : Rs} {Γ : Gm R} {sl sl' : List SV} {tm : List (V × D)} {ow : List (Addr × MO)} {g : R.α} {σ σ' : L2.St} {H H' : Hp} {ι : Type} {X : ι → Cx} {E : XK}
theorem SRel.dom (S : SRel Γ sl tm ow g σ H) : ∀ a, Γ.avG sl ow σ a → H a ≠ none := fun a h => S.avd (.inr h)
/-- the promise used -/
theorem spD_call {n : Nat} {F : FF R} {vs : List V} {ds : List D} {Q : VK} (S : SRel Γ sl tm ow g σ H) (d : DtAll Γ.K (Γ.av sl ow σ) H vs ds) (hn : ds.length = n) (h : OkV Γ sl tm ow σ E Q (F Γ.ix g ds)) : spD R Γ.K n F vs H Q E := by
  refine ⟨d.length.trans hn, Γ.ix, Γ.avG sl ow σ, g, ds, S.dom, S.res, d, ?_⟩
  cases e : F Γ.ix g ds with
  | bad => rw [e] at h; exact h
  | ok x g' => rw [e] at h; exact fun v H' k hG dv => h v H' (S.called k hG) dv
  | err C fs g' => rw [e] at h; exact fun v H' k hG dv => h v H' (S.called k hG) dv
def fCall (n : Nat) (F : R.α → List D → Rr R.α D) (dds : List D) (fa : FA R) : FE R := fun sl g => (fa sl g).bind fun ds g => if (ds ++ dds).length = n then F g (ds ++ dds) else .bad
theorem call_core {n : Nat} {F : FF R} {es : List Expr} {fa : FA R} {dvs : List V} {dds : List D} {ta : TA} (sa : ∀ sl tm ow g σ H Q, SRel Γ sl tm ow g σ H → OkA Γ sl tm ow σ E Q (fa sl g) → ta σ H Q) (hdd : ∀ av H, DtAll Γ.K av H dvs dds) :
    ∀ sl tm ow g σ H Q, SRel Γ sl tm ow g σ H → OkV Γ sl tm ow σ E Q (fCall n (F Γ.ix) dds fa sl g) → tCall (spD R Γ.K n F) dvs E ta σ H Q := by
  intro sl tm ow g σ H Q S h
  unfold fCall at h
  refine sa sl tm ow g σ H _ S ?_
  cases e : fa sl g with
  | bad => rw [e] at h; exact h
  | err C fs g' => rw [e] at h; exact h
  | ok ds g' =>
    rw [e] at h
    dsimp only [bind_ok] at h
    intro vs H1 S1 d1
    by_cases hn : (ds ++ dds).length = n
    · rw [if_pos hn] at h
      exact spD_call S1 (d1.app (hdd _ _)) hn h
    · rw [if_neg hn] at h
      exact h.elim
theorem ed_call {n : Nat} {F : FF R} {e : Expr} {es : List Expr} {p pos : Pos} {x : Str} {fa : FA R} {dvs : List V} {dds : List D} (ha : EA X E Γ (e :: es) fa) (pe : ∀ {ta} j, PA (X j) (e :: es) ta → PE (X j) (.Call (.Name x p) (e :: es) [] pos) (tCall (spD R Γ.K n F) dvs E ta))
    (hdd : ∀ av H, DtAll Γ.K av H dvs dds := by intro _ _; exact .nil) : ED X E Γ (.Call (.Name x p) (e :: es) [] pos) (fCall n (F Γ.ix) dds fa) := by
  obtain ⟨ta, pa, sa⟩ := ha
  exact ⟨_, fun j => pe j (pa j), call_core (es := e :: es) sa hdd⟩
/-- o.m(..), by the class's method -/
def fMeth (C : Addr) (n : Nat) (F : R.α → List D → Rr R.α D) (dds : List D) (m : Str) (fo : FE R) (fa : FA R) : FE R := fun sl g => (fo sl g).bind fun o g => match o with
  | .obj C' fs => if C' = C ∧ fs.lookup m = none then (fa sl g).bind fun ds g => if (o :: (ds ++ dds)).length = n then F g (o :: (ds ++ dds)) else .bad else .bad
  | _ => .bad
theorem DtFs.look {K : PySem.W.Frag} {av : Addr → Prop} {H : Hp} {x : Str} : ∀ {vs : List (Str × V)} {ds : List (Str × D)}, DtFs K av H vs ds → (ds.lookup x = none → vs.lookup x = none) ∧ ∀ d, ds.lookup x = some d → ∃ v, vs.lookup x = some v ∧ Dt K av H v d
  | _, _, .nil => ⟨fun _ => rfl, fun _ z => nomatch z⟩
  | _, _, .cons (k := k) h t => by
    obtain ⟨i1, i2⟩ := DtFs.look (x := x) t
    rw [List.lookup_cons, List.lookup_cons]
    cases e : x == k with
    | true => exact ⟨(fun z => nomatch z), fun d z => ⟨_, rfl, by cases z; exact h⟩⟩
    | false => exact ⟨i1, i2⟩
theorem ed_meth {C : Addr} {n : Nat} {F : FF R} {m : Str} {o e : Expr} {es : List Expr} {apos pos : Pos} {fo : FE R} {fa : FA R} {dvs : List V} {dds : List D} (ho : ED X E Γ o fo) (ha : EA X E Γ (e :: es) fa)
    (pe : ∀ {to ta} j, PE (X j) o to → PA (X j) (e :: es) ta → PE (X j) (.Call (.Attribute o m apos) (e :: es) [] pos) (tMeth C m (spD R Γ.K n F) dvs E to ta))
    (hdd : ∀ av H, DtAll Γ.K av H dvs dds := by intro _ _; exact .nil) : ED X E Γ (.Call (.Attribute o m apos) (e :: es) [] pos) (fMeth C n (F Γ.ix) dds m fo fa) := by
  obtain ⟨to, po, so⟩ := ho
  obtain ⟨ta, pa, sa⟩ := ha
  refine ⟨_, fun j => pe j (po j) (pa j), fun sl tm ow g σ H Q S h => ?_⟩
  unfold fMeth at h
  refine so sl tm ow g σ H _ S ?_
  cases e1 : fo sl g with
  | bad => rw [e1] at h; exact h
  | err C fs g' => rw [e1] at h; exact h
  | ok d g' =>
    rw [e1] at h
    dsimp only [bind_ok] at h
    intro v H1 S1 d1
    cases d1 with
    | obj ha nav hf =>
      rename_i a C' dx xs ds
      dsimp only at h
      by_cases hc : C' = C ∧ ds.lookup m = none
      · rw [if_pos hc] at h
        obtain ⟨rfl, hm⟩ := hc
        refine ⟨a, dx, xs, rfl, ha, (hf.look (x := m)).1 hm, ?_⟩
        refine sa sl ((.ref a, .obj C' ds) :: tm) ow g' σ H1 _ (S1.push (.obj ha nav hf)) ?_
        cases e2 : fa sl g' with
        | bad => rw [e2] at h; exact h
        | err C fs g2 => rw [e2] at h; exact fun y H2 S2 x2 => h y H2 S2.pop x2
        | ok as g2 =>
          rw [e2] at h
          dsimp only [bind_ok] at h
          intro vs H2 S2 d2
          by_cases hn : (D.obj C' ds :: (as ++ dds)).length = n
          · rw [if_pos hn] at h
            exact spD_call S2.pop (.cons S2.top (d2.app (hdd _ _))) hn h
          · rw [if_neg hn] at h
            exact h.elim
      · rw [if_neg hc] at h
        exact h.elim
    | _ => exact h.elim
/-- o.x, a field; by a property -/
def fFld (C : Addr) (x : Str) (fo : FE R) : FE R := fun sl g => (fo sl g).bind fun o g => match o with
  | .obj C' fs => if C' = C then (match fs.lookup x with
    | some d => .ok d g
    | none => .bad) else .bad
  | _ => .bad
theorem ed_fld {C : Addr} {x : Str} {o : Expr} {pos : Pos} {fo : FE R} (ho : ED X E Γ o fo) (hC : Cls Γ.K C) (hN : NoAttr Γ.K C x) (pe : ∀ {to} j, PE (X j) o to → PE (X j) (.Attribute o x pos) (tFld Γ.K to x)) : ED X E Γ (.Attribute o x pos) (fFld C x fo) := by
  obtain ⟨to, po, so⟩ := ho
  refine ⟨_, fun j => pe j (po j), fun sl tm ow g σ H Q S h => ?_⟩
  unfold fFld at h
  refine so sl tm ow g σ H _ S ?_
  cases e1 : fo sl g with
  | bad => rw [e1] at h; exact h
  | err C fs g' => rw [e1] at h; exact h
  | ok d g' =>
    rw [e1] at h
    dsimp only [bind_ok] at h
    intro v H1 S1 d1
    cases d1 with
    | obj ha nav hf =>
      rename_i a C' dx xs ds
      dsimp only at h
      by_cases hc : C' = C
      · rw [if_pos hc] at h
        subst hc
        cases el : ds.lookup x with
        | none => rw [el] at h; exact h.elim
        | some d =>
          rw [el] at h
          obtain ⟨v, e2, dv⟩ := (hf.look (x := x)).2 d el
          exact ⟨a, C', dx, xs, v, rfl, ha, hC, hN, e2, h v H1 S1 dv⟩
      · rw [if_neg hc] at h
        exact h.elim
    | _ => exact h.elim
def nerr {α β : Type} (r : Rr α β) : Rr α β := match r with
  | .ok x g => .ok x g
  | _ => .bad
@[simp] theorem nerr_ok {α β : Type} (x : β) (g : α) : nerr (Rr.ok x g) = .ok x g := rfl
def fProp (C : Addr) (F : R.α → List D → Rr R.α D) (fo : FE R) : FE R := fun sl g => (fo sl g).bind fun o g => match o with
  | .obj C' fs => if C' = C then nerr (F g [.obj C' fs]) else .bad
  | _ => .bad
theorem ed_prop {C : Addr} {F : FF R} {x : Str} {o : Expr} {pos : Pos} {fo : FE R} (ho : ED X E Γ o fo) (pe : ∀ {to} j, PE (X j) o to → PE (X j) (.Attribute o x pos) (tProp C (spD R Γ.K 1 F) [] E0 to)) : ED X E Γ (.Attribute o x pos) (fProp C (F Γ.ix) fo) := by
  obtain ⟨to, po, so⟩ := ho
  refine ⟨_, fun j => pe j (po j), fun sl tm ow g σ H Q S h => ?_⟩
  unfold fProp at h
  refine so sl tm ow g σ H _ S ?_
  cases e1 : fo sl g with
  | bad => rw [e1] at h; exact h
  | err C fs g' => rw [e1] at h; exact h
  | ok d g' =>
    rw [e1] at h
    dsimp only [bind_ok] at h
    intro v H1 S1 d1
    cases d1 with
    | obj ha nav hf =>
      rename_i a C' dx xs ds
      dsimp only at h
      by_cases hc : C' = C
      · rw [if_pos hc] at h
        subst hc
        refine ⟨a, dx, xs, rfl, ha, spD_call (E := E0) S1 (.cons (.obj ha nav hf) .nil) rfl ?_⟩
        cases e2 : F Γ.ix g' [.obj C' ds] with
        | bad => rw [e2] at h; exact h
        | err C fs g' => rw [e2] at h; exact h.elim
        | ok d g2 => rw [e2] at h; exact h
      · rw [if_neg hc] at h
        exact h.elim
    | _ => exact h.elim
/-! ### built-ins -/
theorem ed_callL {r : List V → Hp → VK → Prop} {o : List D → Option D} {e : Expr} {es : List Expr} {p pos : Pos} {x : Str} {fa : FA R} (ha : EA X E Γ (e :: es) fa) (so : CallS Γ r o)
    (pe : ∀ {ta} j, PA (X j) (e :: es) ta → PE (X j) (.Call (.Name x p) (e :: es) [] pos) (tCB r ta)) : ED X E Γ (.Call (.Name x p) (e :: es) [] pos) (fCallL o fa) := by
  obtain ⟨ta, pa, sa⟩ := ha
  refine ⟨_, fun j => pe j (pa j), fun sl tm ow g σ H Q S h => ?_⟩
  unfold fCallL at h
  refine sa sl tm ow g σ H _ S ?_
  cases e1 : fa sl g with
  | bad => rw [e1] at h; exact h
  | err C fs g' => rw [e1] at h; exact h
  | ok ds g' =>
    rw [e1] at h
    dsimp only [bind_ok, liftL] at h
    intro vs H1 S1 d1
    cases eo : o ds with
    | none => rw [eo] at h; exact h.elim
    | some z =>
      rw [eo] at h
      exact so sl tm ow g' σ H1 vs ds z Q S1 d1 eo fun w H3 S3 _ d3 => h w H3 S3 d3
/-! ### raise -/
def sRaise (C : Addr) (x : Str) (f : FE R) : FS R := fun sl g => (f sl g).toS fun d g => .err C [(x, d)] g
def sRaise0 (C : Addr) : FS R := fun _ g => .err C [] g
theorem es_raise {C : Addr} {x : Str} {c e : Expr} {f : FE R} {pos : Pos} {tR : TE → L2.St → Hp → XK → Prop} (hc : ∀ j, (X j).calm = true) (tk : ∀ j, Takes (X j) (fun c d _ H => E c d H)) (h : ED X E Γ e f) (pm : ∀ {te} j, PE (X j) e te → PMk (X j) c (tR te))
    (hR : ∀ te σ H Q, tR te σ H Q = te σ H fun v H1 => ∀ d, H1 d = none → Q (.ref C) (some d) (upd H1 d (.xd [(x, v)]))) : ES X E Γ (.Raise (some c) none pos) (sRaise C x f) := by
  obtain ⟨t, p, s⟩ := h
  refine ⟨_, fun j => ps_raise (hc j) (tk j) (pm j (p j)), fun sl tm ow g σ H Dn S h => ?_⟩
  rw [hR]
  unfold sRaise at h
  refine s sl tm ow g σ H _ S (toS_okV (sl := sl) (σ := σ) h fun d g' _ q v H' S' dv dd hd => ?_)
  have S2 := S'.ext (upd_keep (o := .xd [(x, v)]) hd)
  refine q (some dd) _ S2.rrel ⟨[(x, v)], upd_same, .cons ?_ .nil⟩
  exact (dv.keep fun b o e n => ⟨upd_keep hd b o e, n⟩).ret
theorem es_raise0 {C : Addr} {c : Expr} {pos : Pos} (hc : ∀ j, (X j).calm = true) (tk : ∀ j, Takes (X j) (fun c d _ H => E c d H)) (pm : ∀ j, PMk (X j) c (fun _ H Q => Q (.ref C) none H)) : ES X E Γ (.Raise (some c) none pos) (sRaise0 C) :=
  ⟨_, fun j => ps_raise (hc j) (tk j) (pm j), fun sl tm ow g σ H Dn S h => h none H S.rrel rfl⟩
end
end DL

set_option maxHeartbeats 4000000
namespace DL
open PySem PySem.Spec PyProof.Rows L2
/-! ## operations -/
def mulI := dIc (fun i j => decide (i.natAbs.log2 + j.natAbs.log2 < 1000000)) fun i j => .int (i * j)
def modI := dIc (fun _ j => decide (0 < j)) fun i j => .int (i % j)
def divI := dIc (fun _ j => decide (0 < j ∧ j.natAbs.log2 < 9000)) fun i j => .int (i / j)
def powI := dIc (fun i j => decide (0 ≤ j ∧ j ≤ 1000000 ∧ i.natAbs < 2 ^ 64)) fun i j => .int (i ^ j.toNat)
def negI : D → Option D
  | .int i => some (.int (-i))
  | _ => none
def D.isNon : D → Bool
  | .non => true
  | _ => false
def isN : D → D → Option D
  | x, .non => some (.bl x.isNon)
  | _, _ => none
def notN : D → D → Option D
  | x, .non => some (.bl (!x.isNon))
  | _, _ => none
/-- == of scalars -/
def eqS : D → D → Option Bool
  | .non, .non => some true
  | .bl a, .bl b => some (decide (a = b))
  | .int a, .int b => some (decide (a = b))
  | .str a, .str b => some (decide (a = b))
  | .non, .int _ => some false
  | .int _, .non => some false
  | _, _ => none
def eqD (x y : D) : Option D := (eqS x y).map fun b => .bl b
def neD (x y : D) : Option D := (eqS x y).map fun b => .bl (!b)
def catL : D → D → Option D
  | .lst a, .lst b => if a.length + b.length ≤ 100000 then some (.lst (a ++ b)) else none
  | _, _ => none
def catT : D → D → Option D
  | .tup a, .tup b => if a.length + b.length ≤ 100000 then some (.tup (a ++ b)) else none
  | _, _ => none
def repL : D → D → Option D
  | .lst a, .int k => if -(2 ^ 63) ≤ k ∧ k < 2 ^ 63 ∧ a.length * k.toNat ≤ 100000 then some (.lst (List.replicate k.toNat a).flatten) else none
  | _, _ => none
def ixL : D → D → Option D
  | .lst a, .int i => atI a i
  | _, _ => none
def ixT : D → D → Option D
  | .tup a, .int i => atI a i
  | _, _ => none
def lenD : List D → Option D
  | [.lst a] => some (.int a.length)
  | [.tup a] => some (.int a.length)
  | _ => none
def intD : List D → Option D
  | [.int i] => some (.int i)
  | [.bl b] => some (.int (if b then 1 else 0))
  | _ => none
def absD : List D → Option D
  | [.int i] => some (.int (if i < 0 then -i else i))
  | _ => none
def min2D : List D → Option D
  | [.int i, .int j] => some (.int (if j < i then j else i))
  | _ => none
def max2D : List D → Option D
  | [.int i, .int j] => some (.int (if j > i then j else i))
  | _ => none
def listD : List D → Option D
  | [.lst a] => some (.lst a)
  | [.tup a] => some (.lst a)
  | _ => none
def tupleD : List D → Option D
  | [.lst a] => some (.tup a)
  | [.tup a] => some (.tup a)
  | _ => none
def blL : List D → Option (List Bool)
  | [] => some []
  | .bl b :: r => (blL r).map (b :: ·)
  | _ :: _ => none
def intL : List D → Option (List Int)
  | [] => some []
  | .int b :: r => (intL r).map (b :: ·)
  | _ :: _ => none
def allD : List D → Option D
  | [.lst a] => (blL a).map fun bs => .bl (bs.all id)
  | _ => none
def sumD : List D → Option D
  | [.lst a] => (intL a).map fun ns => .int ns.sum
  | _ => none
section
variable {R : Rs} {Γ : Gm R}
theorem s_mul : OpS Γ (rI CMulW fun i j => .int (i * j)) mulI := opS_I (fun i j h => by simpa [CMulW, CDivW, CPow] using h) fun _ _ _ _ => .int _
theorem s_mod : OpS Γ (rI (fun _ j => 0 < j) fun i j => .int (i % j)) modI := opS_I (fun i j h => by simpa [CMulW, CDivW, CPow] using h) fun _ _ _ _ => .int _
theorem s_div : OpS Γ (rI CDivW fun i j => .int (i / j)) divI := opS_I (fun i j h => by simpa [CMulW, CDivW, CPow] using h) fun _ _ _ _ => .int _
theorem s_pow : OpS Γ (rI CPow fun i j => .int (i ^ j.toNat)) powI := opS_I (fun i j h => by simpa [CMulW, CDivW, CPow] using h) fun _ _ _ _ => .int _
theorem s_neg : UnS Γ (rU fun i => .int (-i)) negI := by
  intro sl tm ow g σ H x d z Q S dx eo k
  cases dx <;> first | (cases eo; done) | skip
  cases eo
  exact ⟨_, rfl, k _ _ S (fun _ _ e => e) (.int _)⟩
theorem Dt.nonI {K : PySem.W.Frag} {av : Addr → Prop} {H : Hp} {x : V} {d : D} (h : Dt K av H x d) : decide (x = .non) = d.isNon := by cases h <;> rfl
theorem s_isN : OpS Γ (fun x y H Q => y = .non ∧ Q (.bl (decide (x = .non))) H) isN := by
  intro sl tm ow g σ H x y d e z Q S dx dy eo k
  cases dy <;> first | (cases eo; done) | skip
  cases eo
  exact ⟨rfl, k _ _ S (fun _ _ e => e) (by rw [dx.nonI]; exact .bl _)⟩
theorem s_notN : OpS Γ (fun x y H Q => y = .non ∧ Q (.bl (!decide (x = .non))) H) notN := by
  intro sl tm ow g σ H x y d e z Q S dx dy eo k
  cases dy <;> first | (cases eo; done) | skip
  cases eo
  exact ⟨rfl, k _ _ S (fun _ _ e => e) (by rw [dx.nonI]; exact .bl _)⟩
theorem eqS_ok {K : PySem.W.Frag} {av : Addr → Prop} {H : Hp} {x y : V} {d e : D} {b : Bool} (h1 : Dt K av H x d) (h2 : Dt K av H y e) (h : eqS d e = some b) : scal x y = true ∧ decide (x = y) = b := by
  cases h1 <;> cases h2 <;> first | (cases h; done) | skip
  all_goals (cases h; refine ⟨rfl, ?_⟩)
  all_goals first | rfl | simp
theorem s_eq : OpS Γ rEq eqD := by
  intro sl tm ow g σ H x y d e z Q S dx dy eo k
  unfold eqD at eo
  cases e1 : eqS d e with
  | none => rw [e1] at eo; cases eo
  | some b =>
    rw [e1] at eo
    cases eo
    obtain ⟨h1, h2⟩ := eqS_ok dx dy e1
    exact ⟨h1, k _ _ S (fun _ _ e => e) (by rw [h2]; exact .bl _)⟩
theorem s_ne : OpS Γ rNe neD := by
  intro sl tm ow g σ H x y d e z Q S dx dy eo k
  unfold neD at eo
  cases e1 : eqS d e with
  | none => rw [e1] at eo; cases eo
  | some b =>
    rw [e1] at eo
    cases eo
    obtain ⟨h1, h2⟩ := eqS_ok dx dy e1
    exact ⟨h1, k _ _ S (fun _ _ e => e) (by rw [h2]; exact .bl _)⟩
theorem s_catL : OpS Γ rCat catL := by
  intro sl tm ow g σ H x y d e z Q S dx dy eo k
  cases dx <;> cases dy <;> first | (cases eo; done) | skip
  rename_i h1 r1 _ _ _ h2 r2
  simp only [catL] at eo
  split at eo
  · rename_i hl
    cases eo
    refine ⟨_, _, _, _, rfl, rfl, h1.1, h2.1, by rw [r1.length, r2.length]; exact lim_ok hl, fun p hp => ?_⟩
    have S2 := S.newL (r1.app r2) hp
    exact k _ _ S2.pop (upd_keep hp) S2.top
  · cases eo
theorem s_catT : OpS Γ (rCatA Γ.K) catT := by
  intro sl tm ow g σ H x y d e z Q S dx dy eo k
  cases dx <;> cases dy <;> first | (cases eo; done) | skip
  rename_i a xs ds h1 r1 b ys es h2 r2
  simp only [catT] at eo
  split at eo
  · rename_i hl
    cases eo
    refine ⟨_, _, _, _, rfl, rfl, h1.seq, h2.seq, by rw [r1.length, r2.length]; exact lim_ok hl, fun q => ?_, fun q1 q2 => ?_, fun _ _ p hp => ?_⟩
    · subst q
      cases r1
      exact k _ _ S (fun _ _ e => e) (.tup h2 r2)
    · subst q2
      cases r2
      refine k _ _ S (fun _ _ e => e) ?_
      rw [List.append_nil]
      exact .tup h1 r1
    · have S2 := S.newT (r1.app r2) hp
      exact k _ _ S2.pop (upd_keep hp) S2.top
  · cases eo
theorem DtAll.rep {K : PySem.W.Frag} {av : Addr → Prop} {H : Hp} {xs : List V} {ds : List D} (h : DtAll K av H xs ds) : ∀ n, DtAll K av H (List.replicate n xs).flatten (List.replicate n ds).flatten
  | 0 => .nil
  | n + 1 => by
    rw [List.replicate_succ, List.replicate_succ, List.flatten_cons, List.flatten_cons]
    exact h.app (DtAll.rep h n)
theorem s_repL : OpS Γ rRep repL := by
  intro sl tm ow g σ H x y d e z Q S dx dy eo k
  cases dx <;> cases dy <;> first | (cases eo; done) | skip
  rename_i h1 r1 i
  simp only [repL] at eo
  split at eo
  · rename_i hl
    cases eo
    refine ⟨_, _, _, rfl, rfl, h1.1, hl.1, hl.2.1, by rw [r1.length]; exact lim_ok hl.2.2, fun p hp => ?_⟩
    have S2 := S.newL (r1.rep i.toNat) hp
    exact k _ _ S2.pop (upd_keep hp) S2.top
  · cases eo
theorem DtAll.atI {K : PySem.W.Frag} {av : Addr → Prop} {H : Hp} {xs : List V} {ds : List D} {i : Int} {d : D} (h : DtAll K av H xs ds) (e : L2.atI ds i = some d) : ∃ v, L2.atI xs i = some v ∧ Dt K av H v d := by
  unfold L2.atI at e ⊢
  rw [h.length]
  cases q : ixN ds.length i with
  | none => rw [q] at e; cases e
  | some j =>
    rw [q] at e
    exact h.atR e
theorem s_ixL : OpS Γ (rIxL Γ.K) ixL := by
  intro sl tm ow g σ H x y d e z Q S dx dy eo k
  cases dx <;> cases dy <;> first | (cases eo; done) | skip
  rename_i h1 r1 i
  obtain ⟨v, e1, e2⟩ := r1.atI eo
  exact ⟨_, _, _, v, rfl, rfl, h1.seq, e1, k _ _ S (fun _ _ e => e) e2⟩
theorem s_ixT : OpS Γ (rIxT Γ.K) ixT := by
  intro sl tm ow g σ H x y d e z Q S dx dy eo k
  cases dx <;> cases dy <;> first | (cases eo; done) | skip
  rename_i h1 r1 i
  obtain ⟨v, e1, e2⟩ := r1.atI eo
  exact ⟨_, _, _, v, rfl, rfl, h1.seq, e1, k _ _ S (fun _ _ e => e) e2⟩
theorem s_len : CallS Γ (fun xs H Q => ∃ p ys, xs = [V.ref p] ∧ (SqL Γ.K H p ys ∨ SqT Γ.K H p ys) ∧ Q (.int ys.length) H) lenD := by
  intro sl tm ow g σ H xs ds z Q S dx eo k
  cases dx with
  | nil => cases eo
  | cons d1 d2 =>
    cases d2 with
    | cons => cases d1 <;> cases eo
    | nil =>
      cases d1 <;> first | (cases eo; done) | skip
      · rename_i h r
        cases eo
        exact ⟨_, _, rfl, .inl h.seq, k _ _ S (fun _ _ e => e) (by rw [r.length]; exact .int _)⟩
      · rename_i h r
        cases eo
        exact ⟨_, _, rfl, .inr h.seq, k _ _ S (fun _ _ e => e) (by rw [r.length]; exact .int _)⟩
theorem s_int : CallS Γ (fun xs H Q => (∃ i, xs = [V.int i] ∧ Q (.int i) H) ∨ ∃ k, xs = [V.bl k] ∧ Q (.int (if k then 1 else 0)) H) intD := by
  intro sl tm ow g σ H xs ds z Q S dx eo k
  cases dx with
  | nil => cases eo
  | cons d1 d2 =>
    cases d2 with
    | cons => cases d1 <;> cases eo
    | nil =>
      cases d1 <;> first | (cases eo; done) | skip
      · cases eo
        exact .inr ⟨_, rfl, k _ _ S (fun _ _ e => e) (.int _)⟩
      · cases eo
        exact .inl ⟨_, rfl, k _ _ S (fun _ _ e => e) (.int _)⟩
theorem s_abs : CallS Γ (fun xs H Q => ∃ i, xs = [V.int i] ∧ Q (.int (if i < 0 then -i else i)) H) absD := by
  intro sl tm ow g σ H xs ds z Q S dx eo k
  cases dx with
  | nil => cases eo
  | cons d1 d2 =>
    cases d2 with
    | cons => cases d1 <;> cases eo
    | nil =>
      cases d1 <;> first | (cases eo; done) | skip
      cases eo
      exact ⟨_, rfl, k _ _ S (fun _ _ e => e) (.int _)⟩
theorem s_min2 : CallS Γ (fun xs H Q => ∃ i j, xs = [V.int i, .int j] ∧ Q (.int (if j < i then j else i)) H) min2D := by
  intro sl tm ow g σ H xs ds z Q S dx eo k
  unfold min2D at eo
  split at eo
  · rename_i i j
    cases eo
    cases dx with
    | cons d1 d2 =>
      cases d1
      cases d2 with
      | cons d3 d4 =>
        cases d3
        cases d4
        exact ⟨i, j, rfl, k _ _ S (fun _ _ e => e) (.int _)⟩
  · cases eo
theorem s_max2 : CallS Γ (fun xs H Q => ∃ i j, xs = [V.int i, .int j] ∧ Q (.int (if j > i then j else i)) H) max2D := by
  intro sl tm ow g σ H xs ds z Q S dx eo k
  unfold max2D at eo
  split at eo
  · rename_i i j
    cases eo
    cases dx with
    | cons d1 d2 =>
      cases d1
      cases d2 with
      | cons d3 d4 =>
        cases d3
        cases d4
        exact ⟨i, j, rfl, k _ _ S (fun _ _ e => e) (.int _)⟩
  · cases eo
theorem s_list : CallS Γ (fun xs H Q => ∃ p ys, xs = [V.ref p] ∧ (SqL Γ.K H p ys ∨ SqT Γ.K H p ys) ∧ ∀ l, H l = none → Q (.ref l) (upd H l (.lst ys))) listD := by
  intro sl tm ow g σ H xs ds z Q S dx eo k
  cases dx with
  | nil => cases eo
  | cons d1 d2 =>
    cases d2 with
    | cons => cases d1 <;> cases eo
    | nil =>
      cases d1 <;> first | (cases eo; done) | skip
      · rename_i h r
        cases eo
        refine ⟨_, _, rfl, .inl h.seq, fun l hl => ?_⟩
        have S2 := S.newL r hl
        exact k _ _ S2.pop (upd_keep hl) S2.top
      · rename_i h r
        cases eo
        refine ⟨_, _, rfl, .inr h.seq, fun l hl => ?_⟩
        have S2 := S.newL r hl
        exact k _ _ S2.pop (upd_keep hl) S2.top
theorem s_tuple : CallS Γ (fun xs H Q => ∃ p ys, xs = [V.ref p] ∧ ((SqL Γ.K H p ys ∧ ∀ l, H l = none → Q (.ref l) (upd H l (.tup ys))) ∨ (SqT Γ.K H p ys ∧ Q (.ref p) H))) tupleD := by
  intro sl tm ow g σ H xs ds z Q S dx eo k
  cases dx with
  | nil => cases eo
  | cons d1 d2 =>
    cases d2 with
    | cons => cases d1 <;> cases eo
    | nil =>
      cases d1 <;> first | (cases eo; done) | skip
      · rename_i h r
        cases eo
        refine ⟨_, _, rfl, .inl ⟨h.seq, fun l hl => ?_⟩⟩
        have S2 := S.newT r hl
        exact k _ _ S2.pop (upd_keep hl) S2.top
      · rename_i h r
        cases eo
        exact ⟨_, _, rfl, .inr ⟨h.seq, k _ _ S (fun _ _ e => e) (.tup h r)⟩⟩
theorem blL_ok {K : PySem.W.Frag} {av : Addr → Prop} {H : Hp} : ∀ {xs : List V} {ds : List D} {bs : List Bool}, DtAll K av H xs ds → blL ds = some bs → xs = bs.map V.bl
  | _, _, _, .nil, h => by cases h; rfl
  | _, _, _, .cons d r, h => by
    cases d <;> first | (cases h; done) | skip
    simp only [blL] at h
    cases q : blL _ with
    | none => rw [q] at h; cases h
    | some bs =>
      rw [q] at h
      cases h
      rw [List.map_cons, blL_ok r q]
theorem intL_ok {K : PySem.W.Frag} {av : Addr → Prop} {H : Hp} : ∀ {xs : List V} {ds : List D} {bs : List Int}, DtAll K av H xs ds → intL ds = some bs → xs = bs.map V.int
  | _, _, _, .nil, h => by cases h; rfl
  | _, _, _, .cons d r, h => by
    cases d <;> first | (cases h; done) | skip
    simp only [intL] at h
    cases q : intL _ with
    | none => rw [q] at h; cases h
    | some bs =>
      rw [q] at h
      cases h
      rw [List.map_cons, intL_ok r q]
theorem s_all : CallS Γ (rAll Γ.K) allD := by
  intro sl tm ow g σ H xs ds z Q S dx eo k
  cases dx with
  | nil => cases eo
  | cons d1 d2 =>
    cases d2 with
    | cons => cases d1 <;> cases eo
    | nil =>
      cases d1 <;> first | (cases eo; done) | skip
      rename_i h r
      simp only [allD] at eo
      cases q : blL _ with
      | none => rw [q] at eo; cases eo
      | some bs =>
        rw [q] at eo
        cases eo
        have e := blL_ok r q
        subst e
        exact ⟨_, bs, rfl, h.seq, k _ _ S (fun _ _ e => e) (.bl _)⟩
theorem s_sum : CallS Γ (rSum Γ.K) sumD := by
  intro sl tm ow g σ H xs ds z Q S dx eo k
  cases dx with
  | nil => cases eo
  | cons d1 d2 =>
    cases d2 with
    | cons => cases d1 <;> cases eo
    | nil =>
      cases d1 <;> first | (cases eo; done) | skip
      rename_i h r
      simp only [sumD] at eo
      cases q : intL _ with
      | none => rw [q] at eo; cases eo
      | some bs =>
        rw [q] at eo
        cases eo
        have e := intL_ok r q
        subst e
        exact ⟨_, bs, rfl, h.seq, k _ _ S (fun _ _ e => e) (.int _)⟩
end
end DL

set_option maxHeartbeats 4000000
namespace DL
open PySem PySem.Spec PyProof.Rows L2
/-! ## isinstance -/
def tyNm : D → Option String
  | .non => some "NoneType"
  | .bl _ => some "bool"
  | .int _ => some "int"
  | .str _ => some "str"
  | .lst _ => some "list"
  | .tup _ => some "tuple"
  | .dct _ => some "dict"
  | _ => none
structure KtOk (K : PySem.W.Frag) (kt : D → D → Option Bool) : Prop where
  ok : ∀ {av : Addr → Prop} {H : Hp} {v c : V} {d e : D} {b : Bool}, Dt K av H v d → Dt K av H c e → kt d e = some b → ∃ t u, ClsV c u ∧ TyX K H v t ∧ PySem.W.kitOne K t u = some b
def isiL (kt : D → D → Option Bool) : List D → Option D
  | [d, e] => (kt d e).map fun b => .bl b
  | _ => none
def anyK (kt : D → D → Option Bool) (d : D) : List D → Option Bool
  | [] => some false
  | e :: r => match kt d e with
    | some true => some true
    | some false => anyK kt d r
    | none => none
def isiTL (kt : D → D → Option Bool) : List D → Option D
  | [d, .tup es] => (anyK kt d es).map fun b => .bl b
  | _ => none
def subT (n T : String) : Option Bool :=
  if T = "int" then some (decide (n = "int" ∨ n = "bool")) else if T = "bool" then some (decide (n = "bool")) else if T = "list" then some (decide (n = "list")) else if T = "tuple" then some (decide (n = "tuple")) else
  if T = "str" then some (decide (n = "str")) else if T = "dict" then some (decide (n = "dict")) else none
/-- of data without objects -/
def kt0 (d e : D) : Option Bool := match e with
  | .ty T => (tyNm d).bind fun n => subT n T
  | _ => none
theorem Dt.tyx {K : PySem.W.Frag} {av : Addr → Prop} {H : Hp} {v : V} {d : D} {n : String} (h : Dt K av H v d) (e : tyNm d = some n) : TyX K H v (.type n) := by
  cases h <;> first | (cases e; done) | skip
  all_goals cases e
  · exact .base .non
  · exact .base (.bl _)
  · exact .base (.int _)
  · exact .base (.str _)
  · rename_i h _; exact .base (.lst h.1)
  · rename_i h _; exact .base (.tup h.1)
  · rename_i h _ _
    rcases h with h | ⟨o, h⟩
    · exact .base (.dK h)
    · exact .fDict h
theorem kit_of_sub {K : PySem.W.Frag} {n T : String} {b : Bool} (hn : n ∈ ["NoneType", "bool", "int", "str", "list", "tuple", "dict"]) (h : subT n T = some b) : PySem.W.kitOne K (.type n) (.type T) = some b := by
  unfold subT at h
  have go : ∀ T', T' ∈ ["int", "bool", "list", "tuple", "str", "dict"] → T = T' → PySem.W.kitOne K (.type n) (.type T) = some b := by
    intro T' hT e
    subst e
    simp only [List.mem_cons, List.not_mem_nil, or_false] at hn hT
    rcases hT with rfl | rfl | rfl | rfl | rfl | rfl <;> rcases hn with rfl | rfl | rfl | rfl | rfl | rfl | rfl <;> (simp (config := { decide := true }) at h; subst h; exact kit_ty (by decide +kernel))
  split at h
  · rename_i e; exact go _ (by simp) e
  · split at h
    · rename_i e; exact go _ (by simp) e
    · split at h
      · rename_i e; exact go _ (by simp) e
      · split at h
        · rename_i e; exact go _ (by simp) e
        · split at h
          · rename_i e; exact go _ (by simp) e
          · split at h
            · rename_i e; exact go _ (by simp) e
            · cases h
theorem tyNm_mem {d : D} {n : String} (e : tyNm d = some n) : n ∈ ["NoneType", "bool", "int", "str", "list", "tuple", "dict"] := by
  cases d <;> first | (cases e; done) | (cases e; simp)
theorem kt0_ok {K : PySem.W.Frag} : KtOk K kt0 := ⟨fun {av H v c d e b} h1 h2 h => by
  cases h2 <;> first | (cases h; done) | skip
  rename_i T
  simp only [kt0] at h
  cases q : tyNm d with
  | none => rw [q] at h; cases h
  | some n =>
    rw [q] at h
    exact ⟨_, _, .ty T, h1.tyx q, kit_of_sub (tyNm_mem q) h⟩⟩
section
variable {R : Rs} {Γ : Gm R} {kt : D → D → Option Bool}
theorem s_isi (hk : KtOk Γ.K kt) : CallS Γ (rIsi Γ.K) (isiL kt) := by
  intro sl tm ow g σ H xs ds z Q S dx eo k
  unfold isiL at eo
  split at eo
  · rename_i d e
    cases dx with
    | cons d1 d2 =>
      cases d2 with
      | cons d3 d4 =>
        cases d4
        cases q : kt d e with
        | none => rw [q] at eo; cases eo
        | some b =>
          rw [q] at eo
          cases eo
          obtain ⟨t, u, h1, h2, h3⟩ := hk.ok d1 d3 q
          exact ⟨_, _, t, u, b, rfl, h1, h2, h3, k _ _ S (fun _ _ e => e) (.bl b)⟩
  · cases eo
/-- isinstance(x, (list, tuple)), x without objects -/
def isiT0 : List D → Option D
  | [d, .tup [.ty "list", .ty "tuple"]] => (tyNm d).map fun n => .bl (decide (n = "list" ∨ n = "tuple"))
  | _ => none
theorem s_isiT0 : CallS Γ (rIsiT Γ.K) isiT0 := by
  intro sl tm ow g σ H xs ds z Q S dx eo k
  unfold isiT0 at eo
  split at eo
  · rename_i d
    cases dx with
    | cons d1 d2 =>
      cases d2 with
      | cons d3 d4 =>
        cases d4
        cases d3 with
        | tup h r =>
          cases q : tyNm d with
          | none => rw [q] at eo; cases eo
          | some n =>
            rw [q] at eo
            cases eo
            cases r with
            | cons r1 r =>
              cases r1
              cases r with
              | cons r2 r =>
                cases r2
                cases r
                refine ⟨_, _, _, .type n, [.type "list", .type "tuple"], decide (n = "list" ∨ n = "tuple"), rfl, h.1, .cons (.ty _) (.cons (.ty _) .nil), d1.tyx q, ?_, k _ _ S (fun _ _ e => e) (.bl _)⟩
                have hn := tyNm_mem q
                simp only [List.mem_cons, List.not_mem_nil, or_false] at hn
                rcases hn with rfl | rfl | rfl | rfl | rfl | rfl | rfl
                · exact kitAny_cons (b := false) (kit_ty (by decide +kernel)) (fun _ => kitAny_cons (b := false) (kit_ty (by decide +kernel)) (fun _ => rfl) (fun z => nomatch z)) (fun z => nomatch z)
                · exact kitAny_cons (b := false) (kit_ty (by decide +kernel)) (fun _ => kitAny_cons (b := false) (kit_ty (by decide +kernel)) (fun _ => rfl) (fun z => nomatch z)) (fun z => nomatch z)
                · exact kitAny_cons (b := false) (kit_ty (by decide +kernel)) (fun _ => kitAny_cons (b := false) (kit_ty (by decide +kernel)) (fun _ => rfl) (fun z => nomatch z)) (fun z => nomatch z)
                · exact kitAny_cons (b := false) (kit_ty (by decide +kernel)) (fun _ => kitAny_cons (b := false) (kit_ty (by decide +kernel)) (fun _ => rfl) (fun z => nomatch z)) (fun z => nomatch z)
                · exact kitAny_cons (b := true) (kit_ty (by decide +kernel)) (fun z => nomatch z) (fun _ => rfl)
                · exact kitAny_cons (b := false) (kit_ty (by decide +kernel)) (fun _ => kitAny_cons (b := true) (kit_ty (by decide +kernel)) (fun z => nomatch z) (fun _ => rfl)) (fun z => nomatch z)
                · exact kitAny_cons (b := false) (kit_ty (by decide +kernel)) (fun _ => kitAny_cons (b := false) (kit_ty (by decide +kernel)) (fun _ => rfl) (fun z => nomatch z)) (fun z => nomatch z)
  · cases eo
end
end DL

set_option maxHeartbeats 4000000
namespace DL
open PySem PySem.Spec PyProof.Rows L2
section
variable {R : Rs} {Γ : Gm R} {sl sl' : List SV} {tm : List (V × D)} {ow : List (Addr × MO)} {g : R.α} {σ σ' : L2.St} {H H' : Hp} {ι : Type} {X : ι → Cx} {E : XK}
/-! ## statements, further -/
def sNever : FS R := fun _ _ => .bad
theorem es_never {st : Stmt} : ES X E Γ st sNever := ⟨_, fun _ => ps_never, fun sl tm ow g σ H Dn S h => h.elim⟩
/-- a slot's own thing is data from here on -/
def sFrz (i : Nat) (f : FS R) : FS R := fun sl g => match sl[i]? with
  | some (.mu m) => f (sl.set i (.dat m.d)) g
  | _ => .bad
theorem ess_frz {i : Nat} {st : List Stmt} {f : FS R} (h : ESs X E Γ st f) : ESs X E Γ st (sFrz i f) := by
  obtain ⟨t, p, s⟩ := h
  refine ⟨t, p, fun sl tm ow g σ H Dn S h => ?_⟩
  unfold sFrz at h
  split at h
  · rename_i m e
    exact s _ tm ow g σ H Dn (S.freeze e) h
  · exact h.elim
/-- .. for one expression alone -/
def fFrz (i : Nat) (f : FE R) : FE R := fun sl g => match sl[i]? with
  | some (.mu m) => f (sl.set i (.dat m.d)) g
  | _ => .bad
/-- target = e, a tuple of names out of one value -/
def sAsgT (gf : FG) (f : FE R) : FS R := fun sl g => (f sl g).toS fun d g => match gf d sl with
  | some sl => .nx sl g
  | none => .bad
theorem es_asgT {tg e : Expr} {f : FE R} {js : List Nat} {gf : FG} {pos : Pos} (h : ED X E Γ e f) (hg : EG X Γ tg js gf)
    (ps : ∀ {te gt} j, PE (X j) e te → PG (X j) tg gt → PS (X j) (.Assign [tg] e pos) (tAsg te gt)) : ES X E Γ (.Assign [tg] e pos) (sAsgT gf f) := by
  obtain ⟨t, p, s⟩ := h
  obtain ⟨gt, pg, _, sg⟩ := hg
  refine ⟨_, fun j => ps j (p j) (pg j), fun sl tm ow g σ H Dn S h => ?_⟩
  refine s sl tm ow g σ H _ S (toS_okV (sl := sl) (σ := σ) h fun d g' _ q v H' S' dv => ?_)
  cases eg : gf d sl with
  | none => rw [eg] at q; exact q.elim
  | some sl1 =>
    rw [eg] at q
    exact sg sl tm ow g' σ H' v d sl1 _ S' dv eg fun σ' S2 _ => q σ' H' S2
/-- a, b = x, y -/
def sPar (i j : Nat) (f : FA R) : FS R := fun sl g => (f sl g).toS fun ds g => match ds with
  | [x, y] => .nx ((sl.set i (.dat x)).set j (.dat y)) g
  | _ => .bad
theorem es_par {i j : Nat} {x y : Str} {a b : Expr} {f : FA R} {px py pt : Pos} {kt k2 pt2 pos} (h : EA X E Γ [a, b] f) (ps : ∀ {ta} k, PA (X k) [a, b] ta → PS (X k) (.Assign [.Tuple [.Name x px, .Name y py] kt pt] (.Tuple [a, b] k2 pt2) pos) (tPar i j ta)) :
    ES X E Γ (.Assign [.Tuple [.Name x px, .Name y py] kt pt] (.Tuple [a, b] k2 pt2) pos) (sPar i j f) := by
  obtain ⟨t, p, s⟩ := h
  refine ⟨_, fun j => ps j (p j), fun sl tm ow g σ H Dn S h => ?_⟩
  unfold sPar at h
  refine s sl tm ow g σ H _ S ?_
  cases e : f sl g with
  | bad => rw [e] at h; exact h
  | err C fs g' => rw [e] at h; exact OkX.of h
  | ok ds g' =>
    rw [e] at h
    dsimp only [toS_ok] at h
    intro vs H1 S1 d1
    split at h
    · rename_i x y
      cases d1 with
      | cons d1 d2 =>
        cases d2 with
        | cons d2 d3 =>
          cases d3
          refine ⟨_, _, rfl, h _ _ ?_⟩
          have S2 := (S1.push d2).setD (i := i) d1
          exact (S2.setD (i := j) S2.top).pop
    · exact h.elim
/-- xs.extend(ys) -/
def sExt (i : Nat) (f : FE R) : FS R := fun sl g => match sl[i]? with
  | some (.mu (.lst ds)) => (f sl g).toS fun d g => match d with
    | .lst es => if ds.length + es.length ≤ 100000 then .nx (sl.set i (.mu (.lst (ds ++ es)))) g else .bad
    | _ => .bad
  | _ => .bad
theorem es_ext {i : Nat} {x : Str} {e : Expr} {f : FE R} {px apos cpos pos : Pos} (hv : ∀ j, PE (X j) (.Name x px) (tVar i)) (h : ED X E Γ e f)
    (pe : ∀ {te} j, PE (X j) e te → PE (X j) (.Call (.Attribute (.Name x px) "extend" apos) [e] [] cpos) (tBM Γ.K "list" rExtend (tVar i) (tCons te tNil)))
    (hs : ∀ j, swapsWith (.Call (.Attribute (.Name x px) "extend" apos) [e] [] cpos) none pos.line (X j).env = pure false := by intro _; rfl) : ES X E Γ (.Expr (.Call (.Attribute (.Name x px) "extend" apos) [e] [] cpos) pos) (sExt i f) := by
  obtain ⟨t, p, s⟩ := h
  refine ⟨_, fun j => ps_expr (pe j (p j)) (hs j), fun sl tm ow g σ H Dn S h => ?_⟩
  unfold sExt at h
  split at h
  · rename_i ds e1
    obtain ⟨a, e2, vs, hl, hd⟩ := S.slots i _ e1
    refine ⟨_, e2, .inl ⟨rfl, vs, SqL.of hl⟩, ?_⟩
    refine s sl tm ow g σ H _ S (toS_okV (sl := sl) (σ := σ) h fun d g' _ q v H' S' dv => ?_)
    obtain ⟨a', e3, vs', hl', hd'⟩ := S'.slots i _ e1
    rw [e2] at e3
    cases e3
    cases dv with
    | @lst b ws es hq hr =>
      dsimp only at q
      by_cases hh : ds.length + es.length ≤ 100000
      · rw [if_pos hh] at q
        refine ⟨a, b, vs', ws, rfl, rfl, hl', hq.1, by rw [hd'.length, hr.length]; exact lim_ok hh, ?_⟩
        refine q _ _ (S'.change e1 e2 ⟨vs' ++ ws, upd_same, (DtAll.app hd' hr).keep fun b o e n => ⟨?_, n⟩⟩)
        have : b ≠ a := fun z => n (by rw [z]; exact .inr (.inr (.inl ⟨i, _, e1, e2⟩)))
        rw [upd_ne this]
        exact e
      · rw [if_neg hh] at q
        exact q.elim
    | _ => exact q.elim
  · exact h.elim
/-! ## objects -/
def putFD (f : Str) (v : D) : List (Str × D) → List (Str × D)
  | [] => [(f, v)]
  | (g, x) :: r => if g = f then (g, v) :: r else (g, x) :: putFD f v r
theorem DtFs.put {K : PySem.W.Frag} {av : Addr → Prop} {f : Str} {v : V} {d : D} (hd : Dt K av H v d) : ∀ {vs : List (Str × V)} {ds : List (Str × D)}, DtFs K av H vs ds → DtFs K av H (putF f v vs) (putFD f d ds)
  | _, _, .nil => .cons hd .nil
  | _, _, .cons (k := k) h t => by
    unfold putF putFD
    by_cases e : k = f
    · rw [if_pos e, if_pos e]
      exact .cons hd t
    · rw [if_neg e, if_neg e]
      exact .cons h (DtFs.put hd t)
theorem DtFs.length {K : PySem.W.Frag} {av : Addr → Prop} : ∀ {vs : List (Str × V)} {ds : List (Str × D)}, DtFs K av H vs ds → vs.length = ds.length
  | _, _, .nil => rfl
  | _, _, .cons _ t => congrArg (· + 1) (DtFs.length t)
/-- self.x = e, within the object's own __init__ -/
def sFldS (i : Nat) (C : Addr) (x : Str) (f : FE R) : FS R := fun sl g => (f sl g).toS fun d g => match sl[i]? with
  | some (.mu (.obj C' fs)) => if C' = C ∧ fs.length < 1000 then .nx (sl.set i (.mu (.obj C (putFD x d fs)))) g else .bad
  | _ => .bad
theorem es_fld {i : Nat} {C : Addr} {x : Str} {o e : Expr} {f : FE R} {pos pos' : Pos} (hv : ∀ j, PE (X j) o (tVar i)) (h : ED X E Γ e f) (hC : Cls Γ.K C) (hN : NoAttr Γ.K C x)
    (ps : ∀ {te} j, PE (X j) e te → PE (X j) o (tVar i) → PS (X j) (.Assign [.Attribute o x pos'] e pos) (L2.sFld Γ.K (tVar i) te x)) : ES X E Γ (.Assign [.Attribute o x pos'] e pos) (sFldS i C x f) := by
  obtain ⟨t, p, s⟩ := h
  refine ⟨_, fun j => ps j (p j) (hv j), fun sl tm ow g σ H Dn S h => ?_⟩
  refine s sl tm ow g σ H _ S (toS_okV (sl := sl) (σ := σ) h fun d g' _ q v H' S' dv => ?_)
  split at q
  · rename_i C' fs e1
    by_cases hc : C' = C ∧ fs.length < 1000
    · rw [if_pos hc] at q
      obtain ⟨rfl, hl⟩ := hc
      obtain ⟨a, e2, esf, dx, xs, ha, hf⟩ := S'.slots i _ e1
      refine ⟨_, e2, a, C', dx, xs, rfl, ha, hC, hN, by rw [hf.length]; exact hl, ?_⟩
      refine q _ _ (S'.change e1 e2 ⟨esf, dx, _, upd_same, (hf.put dv).keep fun b o e n => ⟨?_, n⟩⟩)
      have : b ≠ a := fun z => n (by rw [z]; exact .inr (.inr (.inl ⟨i, _, e1, e2⟩)))
      rw [upd_ne this]
      exact e
    · rw [if_neg hc] at q
      exact q.elim
  · exact q.elim
end
/-! ### __init__ -/
abbrev FI (R : Rs) := R.ix → R.α → List D → Rr R.α (List (Str × D))
/-- what an __init__ promises: the new object's fields -/
def spI (R : Rs) (K : PySem.W.Frag) (C : Addr) (n : Nat) (F : FI R) : Sp := fun vs H Q E => vs.length = n + 1 ∧ ∃ (t dx : Addr) (us : List V) (ix : R.ix) (av : Addr → Prop) (g : R.α) (ds : List D), vs = .ref t :: us ∧ H t = some (.ins C dx []) ∧ ¬ av t ∧ ¬ R.mu ix t ∧
  (∀ a, av a → H a ≠ none) ∧ R.G K ix g (fun a => av a ∨ a = t) H ∧ DtAll K (fun a => R.mu ix a ∨ av a ∨ a = t) H us ds ∧
  (match F ix g ds with
  | .ok fs g' => ∀ H', (∀ b o, H b = some o → b ≠ t → ¬ R.mu ix b → H' b = some o) → R.G K ix g' av H' → Dt K (fun a => R.mu ix a ∨ av a) H' (.ref t) (.obj C fs) → Q .non H'
  | .err C' fs g' => ∀ x H', (∀ b o, H b = some o → b ≠ t → ¬ R.mu ix b → H' b = some o) → R.G K ix g' av H' → XAt K (fun a => R.mu ix a ∨ av a) H' x fs → E (.ref C') x H'
  | .bad => False)
def startI (C : Addr) (n : Nat) (ds : List D) : List SV := .mu (.obj C []) :: startS n ds
def Ro.fini {R : Rs} (C : Addr) (o : Ro R) : Rr R.α (List (Str × D)) := match o with
  | .nx sl g => match sl[0]? with
    | some (SV.mu (MO.obj C' fs)) => if C' = C then .ok fs g else .bad
    | _ => .bad
  | .err C' fs g => .err C' fs g
  | _ => .bad
def runI {R : Rs} (C : Addr) (n : Nat) (fb : R.ix → FS R) : FI R := fun ix g ds => (fb ix (startI C n ds) g).fini C
def fMake (C : Addr) {R : Rs} (n : Nat) (F : R.α → List D → Rr R.α (List (Str × D))) (dds : List D) (fa : FA R) : FE R := fun sl g => (fa sl g).bind fun ds g => if (ds ++ dds).length = n then (F g (ds ++ dds)).bind fun fs g => .ok (.obj C fs) g else .bad
section
variable {R : Rs} {Γ : Gm R} {sl sl' : List SV} {tm : List (V × D)} {ow : List (Addr × MO)} {g : R.α} {σ σ' : L2.St} {H H' : Hp} {ι : Type} {X : ι → Cx} {E : XK}
/-- the frame of a new object's making -/
def hide (H : Hp) (t : Addr) : Hp := fun b => if b = t then none else H b
theorem hide_ne {t b : Addr} (h : b ≠ t) : hide H t b = H b := if_neg h
theorem hide_at {t : Addr} : hide H t t = none := if_pos rfl
theorem startI_rel {K : PySem.W.Frag} {ix : R.ix} {av : Addr → Prop} {h1 : ∀ a, av a → hide H t a ≠ none} {h2 : ∀ a, R.mu ix a → hide H t a ≠ none} {C dx : Addr} {us : List V} {ds : List D} {n : Nat} {N : List Str} (hn : N.length = n + 1) (ht : H t = some (.ins C dx [])) (hG : R.G K ix g (fun a => av a ∨ a = t) H) (hd : DtAll K (fun a => R.mu ix a ∨ av a ∨ a = t) H us ds) :
    SRel (⟨K, t, ix, av, hide H t, h1, h2⟩ : Gm R) (startI C n ds) [] [] g (L2.start N (.ref t :: us)) H := by
  have only : ∀ (i : Nat) (m : MO), (startI C n ds)[i]? = some (SV.mu m) → i = 0 := fun i m z => by
    cases i with
    | zero => rfl
    | succ i =>
      exfalso
      unfold startI at z
      rw [List.getElem?_cons_succ] at z
      unfold startS at z
      rcases List.mem_append.mp (List.mem_of_getElem? z) with q | q
      · obtain ⟨d, _, q⟩ := List.mem_map.mp q
        cases q
      · rw [List.mem_replicate] at q
        cases q.2
  have s0 : (L2.start N (.ref t :: us))[0]? = some (some (.ref t)) := rfl
  have own1 : ∀ a, own (startI C n ds) [] (L2.start N (.ref t :: us)) a → a = t := fun a z => by
    rcases z with ⟨i, m, e1, e2⟩ | ⟨m, h⟩
    · have := only i m e1
      subst this
      rw [s0] at e2
      cases e2
      rfl
    · cases h
  have k : ∀ b o, H b = some o → ¬ (R.mu ix b ∨ av b ∨ b = t) → H b = some o ∧ ¬ (⟨K, t, ix, av, hide H t, h1, h2⟩ : Gm R).av (startI C n ds) [] (L2.start N (.ref t :: us)) b := fun b o e n => ⟨e, fun z => by
    rcases z with z | z | z
    · exact n (.inl z)
    · exact n (.inr (.inl z))
    · exact n (.inr (.inr (own1 b z)))⟩
  refine ⟨?_, fun b o e _ => ?_, R.stab (fun b o e n => ⟨e, fun z => ?_⟩) hG, fun i s e => ?_, (fun _ _ z => nomatch z), (fun _ _ z => nomatch z), fun a z => ?_, fun i j a m m' q1 q2 _ _ => ?_, (fun i a m m' q1 _ z => nomatch z), List.nodup_nil⟩
  · unfold startI startS L2.start
    rw [List.length_cons, List.length_append, List.length_append, List.length_map, List.length_map, List.length_replicate, List.length_replicate, List.length_cons, hd.length, hn]
    omega
  · by_cases hb : b = t
    · subst hb
      have e : hide H b b = some o := e
      rw [hide_at] at e
      cases e
    · have e : hide H t b = some o := e
      rw [hide_ne hb] at e
      exact e
  · rcases z with z | z
    · exact n (.inl z)
    · exact n (.inr (own1 b z))
  · cases i with
    | zero =>
      cases e
      exact ⟨t, s0, rfl, dx, [], ht, .nil⟩
    | succ i =>
      unfold startI at e
      rw [List.getElem?_cons_succ] at e
      unfold startS at e
      by_cases hi : i < ds.length
      · rw [List.getElem?_append_left (by rw [List.length_map]; exact hi), List.getElem?_map, List.getElem?_eq_getElem hi] at e
        cases e
        obtain ⟨v, e1, e2⟩ := hd.atR (List.getElem?_eq_getElem hi)
        refine ⟨v, ?_, e2.keep k⟩
        unfold L2.start
        rw [List.map_cons, List.cons_append, List.getElem?_cons_succ, List.getElem?_append_left (by rw [List.length_map, hd.length]; exact hi), List.getElem?_map, e1]
        rfl
      · rw [List.getElem?_append_right (by rw [List.length_map]; omega)] at e
        have := List.mem_of_getElem? e
        rw [List.mem_replicate] at this
        rw [this.2]
        trivial
  · rw [own1 a z]
    exact hide_at
  · rw [only i m q1, only j m' q2]
/-- what a body that made an object is -/
def IBody (P : Program) (w : World) (K : PySem.W.Frag) (mg : Str → Option Value) (base : Heap) (R : Rs) (N : List Str) (qual : Str) (st : Stmt) (f : Addr) (k : Nat) (fb : R.ix → FS R) : Prop :=
  ∀ (cdv : Value) (A : Around) (outer : List Env) (s : Shared) (H : Hp) (E : XK) (t : Addr) (ix : R.ix) (av : Addr → Prop) (h1 : ∀ a, av a → hide H t a ≠ none) (h2 : ∀ a, R.mu ix a → hide H t a ≠ none), Room k (A.deeper (envOfC qual (defScope st) s.heap.objs.size f cdv)) →
      ESs (fun _ : Unit => cxOf (L2.CX P w) P w K mg base N qual (defScope st) f cdv A outer s H E) E (⟨K, t, ix, av, hide H t, h1, h2⟩ : Gm R) (defBody st) (fb ix)
theorem init_run {P : Program} {w : World} {K : PySem.W.Frag} {mg : Str → Option Value} {base : Heap} {N : List Str} {qual : Str} {st : Stmt} {f : Addr} {k n : Nat} {fb : R.ix → FS R} {C : Addr} {vs : List V} {Q : VK} (hb : IBody P w K mg base R N qual st f k fb) (hn : N.length = n + 1) (h : spI R K C m (runI C n fb) vs H Q E)
    (cdv : Value) (A : Around) (outer : List Env) (s : Shared) (hr : Room k (A.deeper (envOfC qual (defScope st) s.heap.objs.size f cdv))) : ∃ t, PSs (cxOf (L2.CX P w) P w K mg base N qual (defScope st) f cdv A outer s H E) (defBody st) t ∧ t { nx := fun _ H' => Q .non H', rt := Q } (start N vs) H := by
  obtain ⟨hl, t, dx, us, ix, av, g, ds, rfl, ht, nt, nmu, hav, hG, hd, h⟩ := h
  have h1 : ∀ a, av a → hide H t a ≠ none := fun a z => by
    have : a ≠ t := fun e => nt (by rw [← e]; exact z)
    rw [hide_ne this]
    exact hav a z
  have h2 : ∀ a, R.mu ix a → hide H t a ≠ none := fun a z => by
    have : a ≠ t := fun e => nmu (by rw [← e]; exact z)
    rw [hide_ne this]
    exact R.trk hG z
  obtain ⟨ts, p, q⟩ := hb cdv A outer s H E t ix av h1 h2 hr
  have fr : ∀ {H' : Hp}, (∀ b o, hide H t b = some o → ¬ R.mu ix b → H' b = some o) → ∀ b o, H b = some o → b ≠ t → ¬ R.mu ix b → H' b = some o := fun {H'} k b o e hb n => k b o (by rw [hide_ne hb]; exact e) n
  refine ⟨ts, p (), q _ [] [] g _ H _ (startI_rel hn ht hG hd) ?_⟩
  unfold runI at h
  cases e : fb ix (startI C n ds) g with
  | nx sl g' =>
    rw [e] at h
    intro σ' H' S'
    unfold Ro.fini at h
    dsimp only at h
    split at h
    · rename_i C' fs e1
      split at e1
      · rename_i C2 fs2 e0
        by_cases hc : C2 = C
        · rw [if_pos hc] at e1
          cases e1
          subst hc
          obtain ⟨a, e2, esf, _⟩ := S'.slots 0 _ e0
          have esf : a = t := esf
          subst esf
          have S2 := S'.freeze e0
          obtain ⟨v, e3, dv⟩ := S2.slots 0 (.dat (.obj C2 C')) (by rw [List.getElem?_set_self (List.getElem?_eq_some_iff.mp e0).1]; rfl)
          rw [e2] at e3
          cases e3
          exact h H' (fr S2.frame) S2.rrel.res dv.ret
        · rw [if_neg hc] at e1
          cases e1
      · cases e1
    · rename_i C' fs g2 e1
      split at e1
      · split at e1
        · cases e1
        · cases e1
      · cases e1
    · exact h.elim
  | rt d g' => rw [e] at h; exact h.elim
  | err C' fs g' => rw [e] at h; exact fun x H' r dv => h x H' (fr r.frame) r.res dv
  | bk sl g' => rw [e] at h; exact h.elim
  | ct sl g' => rw [e] at h; exact h.elim
  | bad => rw [e] at h; exact h.elim
/-- an __init__ by its body -/
theorem fi_mk {P : Program} {w : World} {K : PySem.W.Frag} {mg : Str → Option Value} {base : Heap} {x qual : Str} {st : Stmt} {f : Addr} {fd : FuncData} {N ps : List Str} {k n m : Nat} {fb : R.ix → FS R} {C : Addr} (F : Fun K x qual st f fd) (S : FnScope N ps (defScope st)) (hn : N.length = n + 1) (hp : ps.length = m + 1)
    (hb : IBody P w K mg base R N qual st f k fb) : FnOk P w K mg base (L2.CX P w) (k + 1) f fd ps (spI R K C m (runI C n fb)) :=
  F.okX S (fun vs H Q E h => h.1.trans hp.symm) fun cdv A outer s H vs Q E hr h => init_run hb hn h cdv A outer s hr
theorem make_core {C : Addr} {n : Nat} {F : FI R} {fa : FA R} {dvs : List V} {dds : List D} {ta : TA} (sa : ∀ sl tm ow g σ H Q, SRel Γ sl tm ow g σ H → OkA Γ sl tm ow σ E Q (fa sl g) → ta σ H Q) (hdd : ∀ av H, DtAll Γ.K av H dvs dds) :
    ∀ sl tm ow g σ H Q, SRel Γ sl tm ow g σ H → OkV Γ sl tm ow σ E Q (fMake C n (F Γ.ix) dds fa sl g) → tMake C (spI R Γ.K C n F) dvs E ta σ H Q := by
  intro sl tm ow g σ H Q S h
  unfold fMake at h
  refine sa sl tm ow g σ H _ S ?_
  cases e : fa sl g with
  | bad => rw [e] at h; exact h
  | err C fs g' => rw [e] at h; exact h
  | ok ds g' =>
    rw [e] at h
    dsimp only [bind_ok] at h
    intro vs H1 S1 d1 x dx hx hdx hne
    by_cases hn : (ds ++ dds).length = n
    · rw [if_pos hn] at h
      have dd := d1.app (hdd (Γ.av sl ow σ) H1)
      have hx' : upd H1 dx (.own x) x = none := by rw [upd_ne hne.symm]; exact hx
      have kp : ∀ b o, H1 b = some o → upd (upd H1 dx (.own x)) x (.ins C dx []) b = some o := fun b o z => upd_keep hx' b o (upd_keep hdx b o z)
      have nx : ∀ a, H1 a ≠ none → a ≠ x := fun a z w => z (by rw [w]; exact hx)
      refine ⟨by rw [List.length_cons, dd.length, hn], x, dx, _, Γ.ix, Γ.avG sl ow σ, g', ds ++ dds, rfl, upd_same, fun z => S1.dom x z hx, fun z => R.trk S1.res z hx, fun a z w => ?_, R.stab (fun b o z m => ⟨kp b o z, fun w => ?_⟩) S1.res, dd.keep fun b o z m => ⟨kp b o z, fun w => ?_⟩, ?_⟩
      · cases q : H1 a with
        | none => exact S1.dom a z q
        | some o => rw [kp a o q] at w; cases w
      · rcases w with w | w
        · exact m w
        · exact ne_of_none z hx w
      · rcases w with w | w | w
        · exact m (.inl w)
        · exact m (.inr w)
        · exact ne_of_none z hx w
      · have cl : ∀ {H' : Hp} {g2 : R.α}, (∀ b o, upd (upd H1 dx (.own x)) x (.ins C dx []) b = some o → b ≠ x → ¬ R.mu Γ.ix b → H' b = some o) → R.G Γ.K Γ.ix g2 (Γ.avG sl ow σ) H' → SRel Γ sl tm ow g2 σ H' := fun {H' g2} k hG => S1.called (fun b o z m => k b o (kp b o z) (nx b (by rw [z]; nofun)) m) hG
        cases e2 : F Γ.ix g' (ds ++ dds) with
        | bad => rw [e2] at h; exact h
        | ok fs g2 =>
          rw [e2] at h
          exact fun H' k hG dv => ⟨rfl, h _ H' (cl k hG) dv⟩
        | err C' fs g2 => rw [e2] at h; exact fun y H' k hG dv => h y H' (cl k hG) dv
    · rw [if_neg hn] at h
      exact h.elim
/-- C(..) -/
theorem ed_make {C : Addr} {n : Nat} {F : FI R} {e : Expr} {es : List Expr} {p pos : Pos} {x : Str} {fa : FA R} {dvs : List V} {dds : List D} (ha : EA X E Γ (e :: es) fa) (pe : ∀ {ta} j, PA (X j) (e :: es) ta → PE (X j) (.Call (.Name x p) (e :: es) [] pos) (tMake C (spI R Γ.K C n F) dvs E ta))
    (hdd : ∀ av H, DtAll Γ.K av H dvs dds := by intro _ _; exact .nil) : ED X E Γ (.Call (.Name x p) (e :: es) [] pos) (fMake C n (F Γ.ix) dds fa) := by
  obtain ⟨ta, pa, sa⟩ := ha
  exact ⟨_, fun j => pe j (pa j), make_core sa hdd⟩
end
end DL

set_option maxHeartbeats 4000000
namespace VK
open PySem PySem.Spec PyProof.Rows L2
/-! ## repr of data -/
mutual
theorem dp_noDict {K : PySem.W.Frag} {H : Hp} : ∀ (d : PyData) (v : V), Dp K H v d → d.hasDict = false
  | .none, _, _ => by simp [PyData.hasDict]
  | .bool _, _, _ => by simp [PyData.hasDict]
  | .int _, _, _ => by simp [PyData.hasDict]
  | .str _, _, _ => by simp [PyData.hasDict]
  | .list ds, _, h => by
    cases h with
    | lst hs ha =>
      simp only [PyData.hasDict]
      exact dpAll_noDict ds _ ha
  | .tuple ds, _, h => by
    cases h with
    | tup hs ha =>
      simp only [PyData.hasDict]
      exact dpAll_noDict ds _ ha
  | .dict _, _, h => by cases h
theorem dpAll_noDict {K : PySem.W.Frag} {H : Hp} : ∀ (ds : List PyData) (vs : List V), DpAll K H vs ds → PyData.hasDictAll ds = false
  | [], _, _ => by simp [PyData.hasDictAll]
  | d :: ds, _, h => by
    cases h with
    | cons h1 h2 =>
      simp only [PyData.hasDictAll, dp_noDict d _ h1, dpAll_noDict ds _ h2]
      rfl
end
/-- a flat value as data -/
inductive Fl : V → PyData → Prop
  | non : Fl .non .none
  | bl (b : Bool) : Fl (.bl b) (.bool b)
  | int (i : Int) : Fl (.int i) (.int i)
  | str (x : Str) : Fl (.str x) (.str x)
def keyD : Key → PyData
  | .inl i => .int i
  | .inr x => .str x
/-- data: as Dp, or a dict of flat values -/
inductive Dr (K : PySem.W.Frag) (H : Hp) : V → PyData → Prop
  | of {v : V} {d : PyData} : Dp K H v d → Dr K H v d
  | dct {a : Addr} {kvs : List (Key × V)} {ds : List (PyData × PyData)} : H a = some (.dK kvs) → Paired (fun (p : Key × V) (q : PyData × PyData) => q.1 = keyD p.1 ∧ Fl p.2 q.2) kvs ds → Dr K H (.ref a) (.dict ds)
theorem reads_key {h : Heap} {k : Key} {v : Value} (e : keyIs k v = true) : Reads h v (keyD k) [] := by
  rcases keyIs_shape e with ⟨i, t, rfl, rfl⟩ | ⟨x, t, rfl, rfl⟩
  · exact .int i t
  · exact .str x t
theorem reads_fl {h : Heap} {v : V} {d : PyData} {u : Value} (f : Fl v d) (r : RelV v u) : Reads h u d [] := by
  cases f with
  | non => cases r; exact .none
  | bl b => cases r; exact .bool b
  | int i => obtain ⟨t, rfl⟩ := r; exact .int i t
  | str x => obtain ⟨t, rfl⟩ := r; exact .str x t
section
variable {X : Cx} {pins : List (Addr × Obj)} {σ : L2.St} {H : Hp} {s : Shared}
theorem reads_pairs {P : Program} {w : World} {h : Heap} : ∀ {es : List DictEntry} {vs : List (Key × Value)} {kvs : List (Key × V)} {ds : List (PyData × PyData)}, Pairs (mixKind P w) es vs → KV kvs vs →
    Paired (fun (p : Key × V) (q : PyData × PyData) => q.1 = keyD p.1 ∧ Fl p.2 q.2) kvs ds → ReadsAll h (es.map (·.key)) (ds.map (·.1)) [] ∧ ReadsAll h (es.map (·.val)) (ds.map (·.2)) []
  | _, _, _, _, .nil, .nil, .nil => ⟨.nil, .nil⟩
  | _, _, _, _, .cons hk hv hp, .cons r hr, .cons q hq => by
    obtain ⟨i1, i2⟩ := reads_pairs (h := h) hp hr hq
    obtain ⟨e1, e2⟩ := r
    obtain ⟨q1, q2⟩ := q
    refine ⟨?_, ?_⟩
    · rw [List.map_cons, List.map_cons, q1, e1]
      exact .cons (as := []) (reads_key hk) i1
    · rw [List.map_cons, List.map_cons, hv]
      exact .cons (as := []) (reads_fl q2 e2) i2
theorem Dr.reads (I : Inv X pins σ H s) {v : V} {d : PyData} {u : Value} (h : Dr X.K H v d) (r : RelV v u) : ∃ as, Reads s.heap u d as ∧ (d.hasDict = true → sysModules ∉ as) := by
  cases h with
  | of h =>
    obtain ⟨as, q⟩ := Dp.reads I d v u h r
    exact ⟨as, q, PyData.noDict_hsm (dp_noDict d v h)⟩
  | dct ha hp =>
    cases r
    have hx := I.hok _ _ ha
    obtain ⟨_, hne, vs, hkv, o, es, ep, ho, hex, hd, _, hps, _⟩ := hx
    obtain ⟨r1, r2⟩ := reads_pairs (h := s.heap) hps hkv hp
    refine ⟨_, Reads.dict ho hex.1 hd r1 r2, fun _ hm => ?_⟩
    rcases List.mem_append.mp hm with z | z
    · have e := List.mem_singleton.mp z
      rw [← e, beq_self_eq_true] at hne
      cases hne
    · cases z
theorem call_repr (hg : X.A.guards = some []) (hu : X.A.units + 64 < cLine) : CallR X (.builtin "repr") (fun xs H Q => ∃ v d, xs = [v] ∧ Dr X.K H v d ∧ d.showable = true ∧ d.shown.length ≤ sizeLine ∧ d.depth ≤ 60 ∧ Q (.str d.shown) H) := by
  intro pins s σ H xs us Q I r h
  obtain ⟨v, d, rfl, hd, hs, hz, hdep, q⟩ := h
  cases r with
  | cons rv rr =>
    cases rr
    obtain ⟨as, hr, hsm⟩ := hd.reads I rv
    cases hr with
    | none => exact PySem.P.repr_of_none ⟨.str _, H, I.tok _, ⟨_, rfl⟩, by simpa only [PyData.shown] using q⟩
    | bool b => exact PySem.P.repr_of_bool ⟨.str _, H, I.tok _, ⟨_, rfl⟩, by simpa only [PyData.shown] using q⟩
    | int i t => exact PySem.P.repr_of_int (by simpa [PyData.showable] using hs) ⟨.str _, H, I.tok _, ⟨_, rfl⟩, by simpa only [PyData.shown] using q⟩
    | str x t => exact PySem.P.repr_of_str ⟨.str _, H, I.tok _, ⟨_, rfl⟩, by simpa only [PyData.shown] using q⟩ (by simpa only [PyData.shown] using hz)
    | list h1 h2 h3 h4 => exact repr_of_reads' (.list h1 h2 h3 h4) hs hsm hg (by omega) (fun _ _ e => e) (fun h' u tk k => ⟨.str _, H, I.kept (t' := tk) k, ⟨_, rfl⟩, q⟩) hz
    | tuple h1 h2 h3 h4 => exact repr_of_reads' (.tuple h1 h2 h3 h4) hs hsm hg (by omega) (fun _ _ e => e) (fun h' u tk k => ⟨.str _, H, I.kept (t' := tk) k, ⟨_, rfl⟩, q⟩) hz
    | dict h1 h2 h3 h4 h5 => exact repr_of_reads' (.dict h1 h2 h3 h4 h5) hs hsm hg (by omega) (fun _ _ e => e) (fun h' u tk k => ⟨.str _, H, I.kept (t' := tk) k, ⟨_, rfl⟩, q⟩) hz
end
end VK

set_option maxHeartbeats 4000000
namespace VK
open PySem PySem.Spec PyProof.Rows L2
/-! ## a def that runs where no repr is under way -/
structure FnG (P : Program) (w : World) (K : PySem.W.Frag) (mg : Str → Option Value) (base : Heap) (CX : CXT) (k : Nat) (f : Addr) (fd : FuncData) (ps : List Str) (sp : Sp) : Prop where
  len : ∀ vs H Q E, sp vs H Q E → vs.length = ps.length
  run : ∀ (A : Around) (outer : List Env) (s : Shared) (H : Hp) (args : Args) (us : List Value) (vs : List V) (Q : VK) (E : XK), Room k A → A.guards = some [] →
    Env0 P w K mg base A outer s H → BindsTo s fd args (ps.zip us) → Vals vs us → sp vs H Q E → codeAny (model P w) A (.call (.ref f) args) (CR CX outer P w H s Q E) s
section
variable {P : Program} {w : World} {K : PySem.W.Frag} {mg : Str → Option Value} {base : Heap} {CXa : CXT} {k : Nat} {f : Addr} {fd : FuncData} {N ps : List Str} {sp : Sp} {nm qual : Str} {st : Stmt}
/-- by its body -/
theorem FnG.by_body (F : Fun K nm qual st f fd) (S : FnScope N ps (defScope st)) (len : ∀ vs H Q E, sp vs H Q E → vs.length = ps.length)
    (hbody : ∀ (cdv : Value) (A : Around) (outer : List Env) (s : Shared) (H : Hp) (vs : List V) (Q : VK) (E : XK),
      Room k (A.deeper (envOfC qual (defScope st) s.heap.objs.size f cdv)) → (A.deeper (envOfC qual (defScope st) s.heap.objs.size f cdv)).guards = some [] → sp vs H Q E →
      ∃ t, PSs (cxOf CXa P w K mg base N qual (defScope st) f cdv A outer s H E) (defBody st) t ∧ t { nx := fun _ H' => Q .non H', rt := Q } (start N vs) H) :
    FnG P w K mg base CXa (k + 1) f fd ps sp := by
  obtain ⟨oc, od, kV, doc, pm, an, cdv, ct, osl, rfl, lk, hcd⟩ := F.ex
  refine ⟨len, ?_⟩
  intro A outer s H args us vs Q E room gu e0 hb vals hsp
  have kin : K.In s.heap := e0.mod.kin.keeps fun b o z => (e0.bs b o z).1
  have nolim : s.heap.NoLimit := e0.mod.nolimit.keeps fun b o z => (e0.bs b o z).1
  have kinds : ∀ y ∈ ps.zip us, (defScope st).names.lookup y.1 = some .local ∨ ((defScope st).names.lookup y.1 = some .cell ∧ ((cellsFrom (s.heap.objs.size + 1) (defScope st).names []).lookup y.1).isSome = true) := by
    rintro ⟨n, v⟩ hy
    rcases S.par n (List.of_mem_zip hy).1 with z | z
    · exact Or.inl z
    · exact Or.inr ⟨z, PySem.W.cellsFrom_some _ _ _ (Or.inl z)⟩
  refine codeAny_call_function room.depth (kin _ _ lk) rfl S.co S.gen rfl (PySem.W.codeRec_of kin hcd) (hb _ _ _ _ ?_)
  refine wpAny_newFunctionEnv_cells S.kind kinds fun env henv s1 inn => ?_
  subst henv
  refine ⟨nolim.keeps inn.toInCall.keep, codeAny_func ?_⟩
  obtain ⟨t, ht, hq⟩ := hbody cdv A outer s H vs Q E (room.deeper _) gu hsp
  have J : Inv (cxOf CXa P w K mg base N qual (defScope st) f cdv A outer s H E) [] (start N vs) H s1 := inv_start S room.hd e0 (len _ _ _ _ hsp) vals inn
  refine wpAny_mono (ht.run [] s1 (start N vs) H _ J hq) ?_ fun e s' z => z
  intro fl s' z
  cases fl with
  | ret u =>
    obtain ⟨v, σ', H', J', rv, q⟩ := z
    exact ⟨v, H', J'.os, J'.bare, J'.base, J'.hok, rv, q⟩
  | next =>
    obtain ⟨σ', H', J', q⟩ := z
    exact ⟨V.non, H', J'.os, J'.bare, J'.base, J'.hok, rfl, q⟩
  | brk =>
    obtain ⟨_, _, _, q⟩ := z
    exact False.elim q
  | cont =>
    obtain ⟨_, _, _, q⟩ := z
    exact False.elim q
theorem FnG.of_ok (F : FnOk P w K mg base CXa k f fd ps sp) : FnG P w K mg base CXa k f fd ps sp :=
  ⟨F.len, fun A outer s H args us vs Q E hr _ => F.run A outer s H args us vs Q E hr⟩
theorem FnG.mono {j : Nat} (F : FnG P w K mg base CXa j f fd ps sp) (h : j ≤ k) : FnG P w K mg base CXa k f fd ps sp :=
  ⟨F.len, fun A outer s H args us vs Q E hr => F.run A outer s H args us vs Q E (hr.mono h)⟩
end
section
variable {X : Cx} {CXa : CXT} {k : Nat} {f : Addr} {fd : FuncData} {ps : List Str} {sp : Sp} {dvs : List V} {ds : List Value} {E : XK} {x : Str} {p pos : Pos} {e : Expr} {es : List Expr} {t : TA}
theorem run_fnG {pins : List (Addr × Obj)} {σ : L2.St} {H : Hp} {s : Shared} {Q : VK} {us : List Value} {vs : List V} (F : FnG X.prog X.w X.K X.mg X.base CXa k f fd ps sp) (hr : Room k X.A) (gu : X.A.guards = some [])
    (hb : Binds X.K fd ps ds) (hd : Vals dvs ds) (hx : Passes CXa X E) (I : Inv X pins σ H s) (r : Vals vs us) (h : sp (vs ++ dvs) H Q E) : wpAny (model X.prog X.w) X.A (call (.ref f) us) (EP X pins σ Q) X.xe s := by
  have vv : Vals (vs ++ dvs) (us ++ ds) := r.append hd
  have ll : (us ++ ds).length = ps.length := vv.length.symm.trans (F.len _ _ _ _ h)
  refine wpAny_call (codeAny_mono (F.run X.A X.stack s H ⟨us, []⟩ (us ++ ds) (vs ++ dvs) Q E hr gu I.env0 (hb s us I.kIn ll) vv h) ?_)
  intro res s' z
  cases res with
  | error er => exact hx pins σ H s er s' I z
  | ok fl =>
    cases fl with
    | ret u => exact I.after z
    | next => exact False.elim z
    | brk => exact False.elim z
    | cont => exact False.elim z
/-- f(..) by such a promise -/
theorem pe_callG (F : FnG X.prog X.w X.K X.mg X.base CXa k f fd ps sp) (hr : Room k X.A) (gu : X.A.guards = some []) (hg : Gl X x) (hm : X.mg x = some (.ref f)) (hk : PySem.W.keepIn X.K (.ref f) = true) (hb : Binds X.K fd ps ds) (hd : Vals dvs ds) (hx : Passes CXa X E)
    (ha : PA X (e :: es) t) (hdb : (x == ("__debug__" : Str)) = false := by decide) (he : starEach (e :: es) X.env = (false, eval e X.env) :: starEach es X.env := by rfl) (hpl : (backTo pos (starEach es X.env)).any (·.1) = false := by rfl) :
    PE X (.Call (.Name x p) (e :: es) [] pos) (tCall sp dvs E t) := ⟨fun pins s σ H Q I h => wpAny_Call_Name_kw (ld_glob I hg hm (PySem.W.callWith_K (h₀ := X.base) I.ok.mod.kin hk
      (thn (ha.run pos pins s σ H _ I h) fun us s1 ⟨vs, H1, I1, r, q⟩ => ⟨I1.kIn, run_fnG F hr gu hb hd hx I1 r q⟩) he hpl) hdb)⟩
end
/-- the law's call -/
theorem law_callG {P : Program} {w : World} {K : PySem.W.Frag} {mg mb : Str → Option Value} {k : Nat} {fa a : Addr} {fd : FuncData} {x : Str} {sp : Sp} {s₁ : Shared} {vs : List Value} {ns : List Int}
    (KX : K.In s₁.heap) (hns : s₁.heap.Ns mainGlobals mg) (hb : s₁.heap.Ns builtinsNs mb) (hbb : ∀ x : Str, x ≠ "__name__" → mb x = bootBuiltins x) (hlim : s₁.heap.NoLimit) (hg : s₁.gens = #[])
    (ha : s₁.heap.get? a = some { cls := .type "list", data := .seq vs.toArray }) (hi : IntsAre vs ns) (hl : ns.length ≤ sizeLine) (hr : Room k callerA)
    (F : ∀ base : Heap, K.In base → base.Ns mainGlobals mg → FnG P w K mg base CX0 k fa fd [x] sp) (hbind : ∀ (s : Shared) (u : Value), BindsTo s fd ⟨[u], []⟩ [(x, u)])
    (hsp : ∀ H : Hp, Only H → SqL K H a (ns.map V.int) → sp [.ref a] H (fun v _ => v = .bl true) fun _ _ _ => False) :
    codeAny (model P w) callerA (.call (.ref fa) ⟨[.ref a], []⟩) (fun r s' => r = .ok (.ret (.bool true)) ∧ OldK s₁.heap s'.heap ∧ s'.os = s₁.os ∧ AllBare s'.gens) s₁ := by
  have rv := vals_ints hi
  have go : ∀ H : Hp, Only H → SqL K H a (ns.map V.int) → HOk P w H s₁.heap → (∀ b, H b ≠ none → b = a) → (H a ≠ none → K.lookup a = none) →
      codeAny (model P w) callerA (.call (.ref fa) ⟨[.ref a], []⟩) (fun r s' => r = .ok (.ret (.bool true)) ∧ OldK s₁.heap s'.heap ∧ s'.os = s₁.os ∧ AllBare s'.gens) s₁ := by
    intro H only sq hok onlyA notK
    have isA : ∀ {b : Addr} {u : HO}, H b = some u → b = a := fun {b u} z => onlyA b (by rw [z]; exact nofun)
    have free : ∀ {b : Addr} {o : Obj} {es : Array DictEntry} {ep : Nat}, s₁.heap.get? b = some o → o.data = .dict es ep → H b = none := by
      intro b o es ep e d
      cases q : H b with
      | none => rfl
      | some u =>
        rw [isA q, ha] at e
        cases e
        cases d
    have ns' : ∀ {b : Addr} {m : Str → Option Value}, s₁.heap.Ns b m → (hidT s₁.heap H).Ns b m := by
      rintro b m ⟨o, es, ep, e, d, r⟩
      exact ⟨o, es, ep, hidT_get e (free e d), d, r⟩
    have kin' : K.In (hidT s₁.heap H) := by
      intro b o e
      refine hidT_get (KX b o e) ?_
      cases q : H b with
      | none => rfl
      | some u =>
        have hz := isA q
        subst hz
        rw [notK (by rw [q]; exact nofun)] at e
        cases e
    obtain ⟨mc, l1, l2⟩ := hlim
    have e0 : Env0 P w K mg (hidT s₁.heap H) callerA [] s₁ H := by
      refine ⟨rfl, ⟨kin', ns' hns, ⟨mb, ns' hb, hbb⟩, ⟨mc, ns' l1, l2⟩⟩, fun b o e => of_hidT e, Nat.le_of_eq (hidT_size _ _), trivial, (fun b z => nomatch z), hok, .of_eq hg⟩
    refine codeAny_mono ((F _ kin' (ns' hns)).run callerA [] s₁ H ⟨[.ref a], []⟩ [.ref a] [.ref a] _ _ hr rfl e0 (hbind s₁ (.ref a)) (.cons rfl .nil) (hsp H only sq)) ?_
    intro res s' z
    cases res with
    | error er => exact False.elim z
    | ok fl =>
      cases fl with
      | next => exact False.elim z
      | brk => exact False.elim z
      | cont => exact False.elim z
      | ret u =>
        obtain ⟨v, H', os, bare, un, hok', rr, q⟩ := z
        have qv : v = .bl true := q
        subst qv
        cases rr
        refine ⟨rfl, OldK.of_keep fun b o e => ?_, os, bare⟩
        cases q : H b with
        | none => exact un.keep b o e q (fun z => nomatch z) (fun z => nomatch z)
        | some u =>
          rcases only b with n | ⟨ob, xs, n⟩
          · rw [q] at n
            cases n
          · obtain ⟨e1, _⟩ := hok b _ n
            obtain ⟨e2, _⟩ := hok' b _ (un.frzs b ob _ n)
            rw [e] at e1
            cases e1
            exact e2
  cases hk : K.lookup a with
  | some o =>
    have e := KX a o hk
    rw [ha] at e
    cases e
    refine go (fun _ => none) (fun _ => .inl rfl) (.inr ⟨_, vs.toArray, _, hk, rfl, rfl, rfl, ?_, ?_⟩) (fun b u z => nomatch z) (fun b z => absurd rfl z) (fun z => absurd rfl z)
    · rw [List.size_toArray, hi.length]
      exact hl
    · simpa using rv
  | none =>
    refine go (fun b => if b = a then some (.frz { cls := .type "list", data := .seq vs.toArray } (.lst (ns.map V.int))) else none) ?_ (.inl (.inr ⟨_, if_pos rfl⟩)) ?_ ?_ (fun _ => hk)
    · intro b
      by_cases hb : b = a
      · exact .inr ⟨_, _, if_pos hb⟩
      · exact .inl (if_neg hb)
    · intro b u z
      by_cases hb : b = a
      · subst hb
        have z' := (if_pos rfl).symm.trans z
        cases z'
        exact ⟨ha, by rw [List.length_map]; exact hl, vs, _, rv, ha⟩
      · have z' := (if_neg hb).symm.trans z
        cases z'
    · intro b z
      by_cases hb : b = a
      · exact hb
      · exact absurd (if_neg hb) z
/-- the walk that k_head asks for -/
theorem walk_G {l : PySem.W.OpenLaw} {n k : Nat} {q : Program} {loose : List Str} {XP : (Str → Option Value) → Heap → Prop} {YP : World → Heap → Prop} {d : DefRec} {K : Params → PySem.W.Frag} {sp : PySem.W.Frag → Sp} {x : Str}
    (hn : l.most = some n) (hn2 : n ≤ sizeLine) (hdf : d.params.defaults = []) (hr : Room k callerA) (hY : ∀ (w : World) (h : Heap), YP w h → (K w.params).In h)
    (F : ∀ (w : World) (mg : Str → Option Value) (fa : Addr) (h : Heap), (K w.params).In h → h.Ns mainGlobals mg → mg d.name = some (.ref fa) →
      ∃ fd : FuncData, (∀ (s : Shared) (u : Value), BindsTo s fd ⟨[u], []⟩ [(x, u)]) ∧ ∀ base : Heap, (K w.params).In base → base.Ns mainGlobals mg → FnG l.prog w (K w.params) mg base CX0 k fa fd [x] (sp (K w.params)))
    (hsp : ∀ (K : PySem.W.Frag) (H : Hp) (a : Addr) (ns : List Int), ns.length ≤ n → Only H → SqL K H a (ns.map V.int) → sp K [.ref a] H (fun v _ => v = .bl true) fun _ _ _ => False) :
    PySem.W.WalkO q loose XP YP l.row.toRowW d [] (fun f vs => PySem.call f vs) := by
  refine Att.attach_call hn hdf ?_
  intro w s₀ s₁ mg mb fa o pm cd doc a vs ns G Y ho hd hcd hmg hobj hints hlen hgen
  have KX := hY w _ Y
  obtain ⟨fd, hb, hF⟩ := F w mg fa _ KX G.T.g hmg
  exact law_callG KX G.T.g G.T.b G.T.builtins G.T.nolimit hgen hobj hints (Nat.le_trans hlen hn2) hr hF hb fun H hO hS => hsp (K w.params) H a ns hlen hO hS
end VK

set_option maxHeartbeats 4000000
namespace DL
open PySem PySem.Spec PyProof.Rows L2
section
variable {R : Rs} {Γ : Gm R} {sl sl' : List SV} {tm : List (V × D)} {ow : List (Addr × MO)} {g : R.α} {σ σ' : L2.St} {H H' : Hp} {ι : Type} {X : ι → Cx} {E : XK}
/-! ## C(a, .., *rest) -/
def fMakeS (C : Addr) {R : Rs} (k : Nat) (F : R.α → List D → Rr R.α (List (Str × D))) (fa : FA R) : FE R := fun sl g => (fa sl g).bind fun ds g => if k ≤ ds.length ∧ ds.length ≤ 100000 then (F g (ds.take k ++ [.tup (ds.drop k)])).bind fun fs g => .ok (.obj C fs) g else .bad
theorem DtAll.take {K : PySem.W.Frag} {av : Addr → Prop} : ∀ {vs : List V} {ds : List D} (n : Nat), DtAll K av H vs ds → DtAll K av H (vs.take n) (ds.take n)
  | _, _, 0, _ => .nil
  | _, _, _ + 1, .nil => .nil
  | _, _, n + 1, .cons a t => .cons a (DtAll.take n t)
theorem DtAll.dropN {K : PySem.W.Frag} {av : Addr → Prop} : ∀ {vs : List V} {ds : List D} (n : Nat), DtAll K av H vs ds → DtAll K av H (vs.drop n) (ds.drop n)
  | _, _, 0, h => h
  | _, _, _ + 1, .nil => .nil
  | _, _, n + 1, .cons a t => DtAll.dropN n t
def spStar (sp : Sp) (m : Nat) : Sp := fun vs H Q E => ∃ ws rest, vs = ws ++ rest ∧ ws.length = m ∧ rest.length ≤ sizeLine ∧ ∀ p, H p = Option.none → sp (ws ++ [V.ref p]) (upd H p (.tup rest)) Q E
theorem ed_makeS {C : Addr} {k : Nat} {F : FI R} {e : Expr} {es : List Expr} {p pos : Pos} {x : Str} {fa : FA R} (ha : EA X E Γ (e :: es) fa) (pe : ∀ {ta} j, PA (X j) (e :: es) ta → PE (X j) (.Call (.Name x p) (e :: es) [] pos) (StX.tMakeR C (spStar (spI R Γ.K C (k + 1) F) (k + 1)) E ta)) :
    ED X E Γ (.Call (.Name x p) (e :: es) [] pos) (fMakeS C k (F Γ.ix) fa) := by
  obtain ⟨ta, pa, sa⟩ := ha
  refine ⟨_, fun j => pe j (pa j), fun sl tm ow g σ H Q S h => ?_⟩
  unfold fMakeS at h
  refine sa sl tm ow g σ H _ S ?_
  cases e : fa sl g with
  | bad => rw [e] at h; exact h
  | err C fs g' => rw [e] at h; exact h
  | ok ds g' =>
    rw [e] at h
    dsimp only [bind_ok] at h
    intro vs H1 S1 d1 x dx hx hdx hne
    by_cases hn : k ≤ ds.length ∧ ds.length ≤ 100000
    · rw [if_pos hn] at h
      have hl := d1.length
      have hx' : upd H1 dx (.own x) x = none := by rw [upd_ne hne.symm]; exact hx
      refine ⟨.ref x :: vs.take k, vs.drop k, by rw [List.cons_append, List.take_append_drop], by rw [List.length_cons, List.length_take]; omega, by rw [List.length_drop]; exact lim_ok (by omega), fun q hq => ?_⟩
      have kp0 : ∀ b o, H1 b = some o → upd (upd H1 dx (.own x)) x (.ins C dx []) b = some o := fun b o z => upd_keep hx' b o (upd_keep hdx b o z)
      have kp : ∀ b o, H1 b = some o → upd (upd (upd H1 dx (.own x)) x (.ins C dx [])) q (.tup (vs.drop k)) b = some o := fun b o z => upd_keep hq b o (kp0 b o z)
      have nx : ∀ a, H1 a ≠ none → a ≠ x := fun a z w => z (by rw [w]; exact hx)
      have qx : x ≠ q := ne_of_none upd_same hq
      have hq1 : H1 q = none := by
        cases z : H1 q with
        | none => rfl
        | some o => rw [kp0 q o z] at hq; cases hq
      have dd : DtAll Γ.K (Γ.av sl ow σ) H1 (vs.take k) (ds.take k) := d1.take k
      have k3 : ∀ b o, H1 b = some o → ¬ Γ.av sl ow σ b → upd (upd (upd H1 dx (.own x)) x (.ins C dx [])) q (.tup (vs.drop k)) b = some o ∧ ¬ (R.mu Γ.ix b ∨ Γ.avG sl ow σ b ∨ b = x) := fun b o z m => ⟨kp b o z, fun w => by
        rcases w with w | w | w
        · exact m (.inl w)
        · exact m (.inr w)
        · exact ne_of_none z hx w⟩
      refine ⟨by rw [List.cons_append, List.length_cons, List.length_append, List.length_take, List.length_singleton]; omega, x, dx, vs.take k ++ [.ref q], Γ.ix, Γ.avG sl ow σ, g', ds.take k ++ [.tup (ds.drop k)], rfl, by rw [upd_ne qx]; exact upd_same, fun z => S1.dom x z hx, fun z => R.trk S1.res z hx, fun a z w => ?_, R.stab (fun b o z m => ⟨kp b o z, fun w => ?_⟩) S1.res, DtAll.app (dd.keep k3) (.cons (.tup ⟨upd_same, fun w => ?_⟩ ((d1.dropN k).keep k3)) .nil), ?_⟩
      · cases q2 : H1 a with
        | none => exact S1.dom a z q2
        | some o => rw [kp a o q2] at w; cases w
      · rcases w with w | w
        · exact m w
        · exact ne_of_none z hx w
      · rcases w with w | w | w
        · exact R.trk S1.res w hq1
        · exact S1.dom q w hq1
        · exact qx w.symm
      · have cl : ∀ {H' : Hp} {g2 : R.α}, (∀ b o, upd (upd (upd H1 dx (.own x)) x (.ins C dx [])) q (.tup (vs.drop k)) b = some o → b ≠ x → ¬ R.mu Γ.ix b → H' b = some o) → R.G Γ.K Γ.ix g2 (Γ.avG sl ow σ) H' → SRel Γ sl tm ow g2 σ H' := fun {H' g2} k hG => S1.called (fun b o z m => k b o (kp b o z) (nx b (by rw [z]; nofun)) m) hG
        cases e2 : F Γ.ix g' (ds.take k ++ [.tup (ds.drop k)]) with
        | bad => rw [e2] at h; exact h
        | ok fs g2 =>
          rw [e2] at h
          exact fun H' k hG dv => ⟨rfl, h _ H' (cl k hG) dv⟩
        | err C' fs g2 => rw [e2] at h; exact fun y H' k hG dv => h y H' (cl k hG) dv
    · rw [if_neg hn] at h
      exact h.elim
/-- an __init__(self, a, .., *rest) by its body -/
theorem fis_mk {P : Program} {w : World} {K : PySem.W.Frag} {mg : Str → Option Value} {base : Heap} {x qual : Str} {st : Stmt} {f : Addr} {fd : FuncData} {N ps : List Str} {pv : Str} {k n m : Nat} {fb : R.ix → FS R} {C : Addr} (F : Fun K x qual st f fd) (S : FnScope N (ps ++ [pv]) (defScope st)) (hn : N.length = n + 1)
    (hbind : ∀ (kV doc pm : Value) (an : Option Addr) (cdv ct : Value) (us rest : List Value), us.length = ps.length → bindArgs (PySem.W.fnOf x qual (defArgs st) (defBody st) (defScope st) .none kV doc pm an cdv ct) ⟨us ++ rest, []⟩ = (newTuple rest >>= fun t => pure (ps.zip us ++ [(pv, t)])))
    (hb : IBody P w K mg base R N qual st f k fb) : FnR P w K mg base (L2.CX P w) (k + 1) f (spStar (spI R K C m (runI C n fb)) ps.length) := by
  obtain ⟨oc, od, kV, doc, pm, an, cdv, ct, osl, rfl, lk, hcd⟩ := F.ex
  exact StX.fn_star lk hcd S StX.cxUp (hbind kV doc pm an cdv ct) fun A outer s H vs Q E hr h => init_run hb hn h cdv A outer s hr
/-! ## dicts -/
def valD (kvs : List (Key × D)) (k : Key) : Option D := (kvs.find? fun kv => decide (kv.1 = k)).map (·.2)
theorem DtKV.val {K : PySem.W.Frag} {av : Addr → Prop} {k : Key} : ∀ {vs : List (Key × V)} {ds : List (Key × D)}, DtKV K av H vs ds → ∀ d, valD ds k = some d → ∃ v, valV vs k = some v ∧ Dt K av H v d
  | _, _, .nil => fun d z => nomatch z
  | _, _, .cons (k := k2) h t => fun d z => by
    by_cases e : k2 = k
    · rw [valV_pos (p := (k2, _)) e]
      simp only [valD, List.find?_cons, e, decide_true, Option.map_some, Option.some.injEq] at z
      subst z
      exact ⟨_, rfl, h⟩
    · rw [valV_neg (p := (k2, _)) e]
      refine DtKV.val t d ?_
      simpa only [valD, List.find?_cons, e, decide_false] using z
def fDGet (k : Key) (fo : FE R) : FE R := fun sl g => (fo sl g).bind fun o g => match o with
  | .dct kvs => match valD kvs k with
    | some d => .ok d g
    | none => .bad
  | _ => .bad
theorem ed_dget {k : Str} {o : Expr} {kp : Pos} {j : Nat} {pos : Pos} {kk} {fo : FE R} (ho : ED X E Γ o fo) (pe : ∀ {to} j, PE (X j) o to → PE (X j) (.Subscript o (.Constant (.str k) kk kp) pos) (tDGet to (tC (.str k)))) : ED X E Γ (.Subscript o (.Constant (.str k) kk kp) pos) (fDGet (.inr k) fo) := by
  obtain ⟨to, po, so⟩ := ho
  refine ⟨_, fun j => pe j (po j), fun sl tm ow g σ H Q S h => ?_⟩
  unfold fDGet at h
  refine so sl tm ow g σ H _ S ?_
  cases e1 : fo sl g with
  | bad => rw [e1] at h; exact h
  | err C fs g' => rw [e1] at h; exact h
  | ok d g' =>
    rw [e1] at h
    dsimp only [bind_ok] at h
    intro v H1 S1 d1
    cases d1 with
    | dct ha nav hf =>
      rename_i a kvs ds
      dsimp only at h
      cases q : valD ds (.inr k) with
      | none => rw [q] at h; exact h.elim
      | some d =>
        rw [q] at h
        obtain ⟨v, e2, dv⟩ := hf.val d q
        exact ⟨a, v, rfl, .inl ⟨kvs, .inr k, ha, rfl, e2.symm⟩, h v H1 S1 dv⟩
    | _ => exact h.elim
/-- pairs with written text keys -/
def fPs : List (Str × FE R) → List SV → R.α → Rr R.α (List (Key × D))
  | [], _, g => .ok [] g
  | (k, f) :: r, sl, g => (f sl g).bind fun d g => (fPs r sl g).bind fun ds g => .ok ((.inr k, d) :: ds) g
def EPs (X : ι → Cx) (E : XK) (Γ : Gm R) (pos : Pos) (ks : List (Option Expr)) (vs : List Expr) (fs : List (Str × FE R)) : Prop := ∃ trs, (∀ j, PPs (X j) pos ks vs trs) ∧ ∀ sl tm ow g σ H Q, SRel Γ sl tm ow g σ H →
  (match fPs fs sl g with
  | .ok ds g' => ∀ (ps : List (Key × V)) H', SRel Γ sl tm ow g' σ H' → DtKV Γ.K (Γ.av sl ow σ) H' ps ds → Q (ps.map fun kv => (kV kv.1, kv.2)) H'
  | .err C fs g' => OkX Γ sl tm ow σ E C fs g'
  | .bad => False) → tPairs trs σ H Q
theorem eps_nil {pos : Pos} : EPs X E Γ pos [] [] [] := ⟨_, fun _ => pps_nil, fun sl tm ow g σ H Q S h => h [] H S .nil⟩
theorem eps_cons {pos kp : Pos} {k : Str} {kk} {v : Expr} {ks : List (Option Expr)} {vs : List Expr} {f : FE R} {fs : List (Str × FE R)} (hv : ED X E Γ v f) (hr : EPs X E Γ pos ks vs fs) : EPs X E Γ pos (some (.Constant (.str k) kk kp) :: ks) (v :: vs) ((k, f) :: fs) := by
  obtain ⟨tv, pv, sv⟩ := hv
  obtain ⟨tr, pr, sr⟩ := hr
  refine ⟨_, fun j => pps_cons pe_str (pv j) (pr j), fun sl tm ow g σ H Q S h => ?_⟩
  show tv σ H _
  refine sv sl tm ow g σ H _ S ?_
  simp only [fPs] at h
  cases e : f sl g with
  | bad => rw [e] at h; exact h
  | err C fs g1 => rw [e] at h; exact h
  | ok d g1 =>
    rw [e] at h
    dsimp only [bind_ok] at h
    intro v H1 S1 d1
    refine sr sl ((v, d) :: tm) ow g1 σ H1 _ (S1.push d1) ?_
    cases e2 : fPs fs sl g1 with
    | bad => rw [e2] at h; exact h
    | err C fs g2 => rw [e2] at h; exact fun y H2 S2 x2 => h y H2 S2.pop x2
    | ok ds g2 =>
      rw [e2] at h
      dsimp only [bind_ok] at h
      intro ps H2 S2 d2
      exact h ((.inr k, v) :: ps) H2 S2.pop (.cons S2.top d2)
def putKD (kvs : List (Key × D)) (k : Key) (v : D) : List (Key × D) :=
  if (kvs.any fun kv => decide (kv.1 = k)) = true then kvs.map (fun kv => if kv.1 = k then (kv.1, v) else kv) else kvs ++ [(k, v)]
theorem DtKV.app {K : PySem.W.Frag} {av : Addr → Prop} : ∀ {vs ws : List (Key × V)} {ds es : List (Key × D)}, DtKV K av H vs ds → DtKV K av H ws es → DtKV K av H (vs ++ ws) (ds ++ es)
  | _, _, _, _, .nil, h => h
  | _, _, _, _, .cons a t, h => .cons a (DtKV.app t h)
theorem DtKV.length {K : PySem.W.Frag} {av : Addr → Prop} : ∀ {vs : List (Key × V)} {ds : List (Key × D)}, DtKV K av H vs ds → vs.length = ds.length
  | _, _, .nil => rfl
  | _, _, .cons _ t => congrArg (· + 1) (DtKV.length t)
theorem DtKV.any {K : PySem.W.Frag} {av : Addr → Prop} {p : Key → Bool} : ∀ {vs : List (Key × V)} {ds : List (Key × D)}, DtKV K av H vs ds → (vs.any fun kv => p kv.1) = (ds.any fun kv => p kv.1)
  | _, _, .nil => rfl
  | _, _, .cons _ t => by rw [List.any_cons, List.any_cons, DtKV.any t]
theorem DtKV.mapP {K : PySem.W.Frag} {av : Addr → Prop} {k : Key} {v : V} {d : D} (hd : Dt K av H v d) : ∀ {vs : List (Key × V)} {ds : List (Key × D)}, DtKV K av H vs ds → DtKV K av H (vs.map (fun kv => if kv.1 = k then (kv.1, v) else kv)) (ds.map (fun kv => if kv.1 = k then (kv.1, d) else kv))
  | _, _, .nil => .nil
  | _, _, .cons (k := k2) h1 t => by
    rw [List.map_cons, List.map_cons]
    by_cases e : k2 = k
    · rw [if_pos e, if_pos e]
      exact .cons hd (DtKV.mapP hd t)
    · rw [if_neg e, if_neg e]
      exact .cons h1 (DtKV.mapP hd t)
theorem DtKV.put {K : PySem.W.Frag} {av : Addr → Prop} {k : Key} {v : V} {d : D} (hd : Dt K av H v d) {vs : List (Key × V)} {ds : List (Key × D)} (h : DtKV K av H vs ds) : DtKV K av H (putK vs k v) (putKD ds k d) := by
  unfold putK putKD
  rw [h.any (p := fun x => decide (x = k))]
  split
  · exact h.mapP hd
  · exact h.app (.cons hd .nil)
def mergeKD (kvs more : List (Key × D)) : List (Key × D) := more.foldl (fun acc kv => putKD acc kv.1 kv.2) kvs
theorem DtKV.merge {K : PySem.W.Frag} {av : Addr → Prop} : ∀ {ws : List (Key × V)} {es : List (Key × D)} {vs : List (Key × V)} {ds : List (Key × D)}, DtKV K av H vs ds → DtKV K av H ws es → DtKV K av H (mergeK vs ws) (mergeKD ds es)
  | _, _, _, _, h, .nil => h
  | _, _, _, _, h, .cons (k := k) (v := v) (vs := ws) (d := d) (ds := es) a t => show DtKV _ _ _ (mergeK (putK _ k v) ws) (mergeKD (putKD _ k d) es) from DtKV.merge (DtKV.put (k := k) a h) t
def fDisp (fs : List (Str × FE R)) : FE R := fun sl g => (fPs fs sl g).bind fun ds g => if ds.length ≤ 15 then .ok (.dct (mergeKD [] ds)) g else .bad
theorem ed_disp {pos : Pos} {ks : List (Option Expr)} {vs : List Expr} {fs : List (Str × FE R)} (h : EPs X E Γ pos ks vs fs) (hall : ks.all (·.isSome) = true) (hl : ks.length = vs.length) (h0 : ks ≠ []) (h15 : ks.length ≤ 15) : ED X E Γ (.Dict ks vs pos) (fDisp fs) := by
  obtain ⟨trs, p, s⟩ := h
  refine ⟨_, fun j => pe_disp (p j) hall hl h0 h15, fun sl tm ow g σ H Q S h q hq => ?_⟩
  unfold fDisp at h
  have S0 := S.hide (m := MO.dct []) (o := HO.dK []) hq ⟨[], upd_same, .nil⟩
  refine s sl tm ((q, MO.dct []) :: ow) g σ _ _ S0 ?_
  cases e : fPs fs sl g with
  | bad => rw [e] at h; exact h
  | err C fs g' =>
    rw [e] at h
    intro x H2 S2 x2
    have S3 := S2.unhide.pop
    refine h x H2 S3 ?_
    cases x with
    | none => exact x2
    | some x =>
      obtain ⟨xs, q1, q2⟩ := x2
      refine ⟨xs, q1, q2.keep fun b o e n => ⟨e, fun z => n ?_⟩⟩
      rcases z with z | z | z
      · exact .inl z
      · exact .inr (.inl z)
      · refine .inr (.inr ?_)
        rcases z with z | ⟨m, z⟩
        · exact .inl z
        · exact .inr ⟨m, List.mem_cons_of_mem _ z⟩
  | ok ds g' =>
    rw [e] at h
    dsimp only [bind_ok] at h
    intro ps H2 S2 d2
    by_cases hz : ds.length ≤ 15
    · rw [if_pos hz] at h
      obtain ⟨vs0, hv1, hv2⟩ := S2.ows q _ List.mem_cons_self
      cases hv2
      refine ⟨hv1, ps, rfl, by rw [d2.length]; exact hz, ?_⟩
      have S3 := S2.hidden (m' := .dct (mergeKD [] ds)) (o := .dK (mergeK [] ps)) ⟨_, upd_same, (DtKV.merge .nil d2).keep fun b o e n => ⟨?_, n⟩⟩
      · have S4 := S3.unhide
        exact h _ _ S4.pop S4.top
      · have : b ≠ q := fun z => n (by rw [z]; exact .inr (.inr (.inr ⟨_, List.mem_cons_self⟩)))
        rw [upd_ne this]
        exact e
    · rw [if_neg hz] at h
      exact h.elim
end
end DL

set_option maxHeartbeats 4000000
namespace DL
open PySem PySem.Spec PyProof.Rows L2
/-! ## enumerate(tuple) -/
set_option maxHeartbeats 4000000 in
theorem meets_enumerate_newT (l : Addr) (items : Array Value) :
    Meets (Builtin.«enumerate.__new__» ⟨[.type "enumerate", .ref l], []⟩) (fun _ R s => s.heap.IsTuple l items ∧
      R (.ok (.ret (.ref (s.heap.push { cls := .type "tuple_iterator", data := .fields #[.ref l, .int 0 0] }).objs.size)))
        { s with heap := (s.heap.push { cls := .type "tuple_iterator", data := .fields #[.ref l, .int 0 0] }).push { cls := .type "enumerate", data := .fields #[.none, .bool false, .ref s.heap.objs.size, rawInt 0, .none, .none] } }) :=
  .of_wp fun prog w A R s h => by
    obtain ⟨hp, g, d, tk, os⟩ := s
    obtain ⟨hL, h⟩ := h
    have hsub := PySem.sub_enumerate
    have hL : (Shared.heap ⟨hp, g, d, tk, os⟩).IsTuple l items := hL
    wp_walk
    refine wpAny_stack_any fun st => wpAny_pure ?_
    split
    · rename_i c _ _ _ _ _
      cases (c == Value.type "enumerate")
      · wp_walk using wpAny_pyIter_tuple hL
        exact ⟨_, rfl, h⟩
      · wp_walk using wpAny_pyIter_tuple hL
        exact ⟨_, rfl, h⟩
    · wp_walk using wpAny_pyIter_tuple hL
      exact ⟨_, rfl, h⟩
section
variable {prog : Program} {w : World} {A : Around} {E : Value → Shared → Prop} {s : Shared}
theorem call_enumerate_tuple {l : Addr} {items : Array Value} {Q : Value → Shared → Prop} (hL : s.heap.IsTuple l items)
    (h : ∀ h', IsEnum h' (s.heap.objs.size + 1) s.heap.objs.size 0 .none → h'.IsTupleIter s.heap.objs.size l 0 → h'.objs.size = s.heap.objs.size + 2 →
      (∀ b o, s.heap.get? b = some o → h'.get? b = some o) → Q (.ref (s.heap.objs.size + 1)) { s with heap := h' }) :
    wpAny (model prog w) A (call (.type "enumerate") [.ref l]) Q E s := by
  refine callType_new PySem.F.called_enumerate (by decide) (PySem.F.typeCall_enumerate_1 _) (PySem.F.newCall_enumerate_1 _) (fun obj => PySem.F.args_object_init_2 obj _) PySem.F.entry_enumerate_new
    (meets_enumerate_newT l items) ⟨hL, ?_⟩
  have hz : (s.heap.push { cls := .type "tuple_iterator", data := .fields #[.ref l, .int 0 0] }).objs.size = s.heap.objs.size + 1 := Heap.size_push ..
  show _ ∧ _
  rw [hz]
  have he : IsEnum ((s.heap.push { cls := .type "tuple_iterator", data := .fields #[.ref l, .int 0 0] }).push
      { cls := .type "enumerate", data := .fields #[.none, .bool false, .ref s.heap.objs.size, rawInt 0, .none, .none] }) (s.heap.objs.size + 1) s.heap.objs.size 0 .none := by
    have := Heap.get?_push_size (s.heap.push { cls := .type "tuple_iterator", data := .fields #[.ref l, .int 0 0] })
      (o := { cls := .type "enumerate", data := .fields #[.none, .bool false, .ref s.heap.objs.size, rawInt 0, .none, .none] }) rfl
    rw [hz] at this; exact this
  refine ⟨⟨_, he, rfl⟩, h _ he ⟨_, Heap.get?_push_of_some _ (Heap.get?_push_size _ rfl), rfl, rfl⟩ (by rw [Heap.size_push, hz]) fun b o x => Heap.get?_push_of_some _ (Heap.get?_push_of_some _ x)⟩
end
/-- the tuple at a, each item in a new pair -/
def IteT (K : PySem.W.Frag) (a : Addr) : It :=
  ⟨fun i H => ∃ (xs : List V) (x : V), SqT K H a xs ∧ xs[i]? = some x, fun i H v H' => ∃ T x, v = .ref T ∧ H T = none ∧ H' = upd H T (.tup [.int (i : Nat), x]) ∧ ∀ xs, SqT K H a xs → xs[i]? = some x, fun i H => ∃ xs : List V, SqT K H a xs ∧ xs.length ≤ i⟩
theorem turn_enumT {P : Program} {w : World} {K : PySem.W.Frag} {elts : List Expr} {kk : Nat} {tpos : Pos} (a e it : Addr) :
    Turn P w K (.Tuple elts kk tpos) (IteT K a) [e, it] e (fun i h => (∃ old, IsEnum h e it ((i : Nat) : Int) old) ∧ h.IsTupleIter it a i ∧ e ≠ it) where
  mem := by simp
  obj := fun i h st b hb => by
    obtain ⟨⟨old, he⟩, ⟨o, ho, hc, hd⟩, _⟩ := st
    have e' : b = e ∨ b = it := by simpa using hb
    rcases e' with z | z
    · rw [z]; exact ⟨_, he, fun v q => nomatch q⟩
    · rw [z]; exact ⟨o, ho, fun v q => by rw [hd] at q; cases q⟩
  keep := fun i h h' st k => let ⟨⟨old, he⟩, hi, hne⟩ := st; ⟨⟨old, k e (by simp) _ he⟩, hi.at fun o q => k it (by simp) o q, hne⟩
  item := by
    intro X hP hw hK hc i pins s σ H E I hf st hg
    subst hP hw hK
    obtain ⟨⟨old, he⟩, hit, hne⟩ := st
    obtain ⟨xs, x, hq, hx⟩ := hg
    obtain ⟨its, rv, p, hz⟩ := I.tuple hq
    obtain ⟨u, hu, ru⟩ := rv.get hx
    have hT : s.heap.IsTuple a its.toArray := p
    have hel : e < s.heap.objs.size := Heap.lt_size he
    have hil : it < s.heap.objs.size := by obtain ⟨_, q, _⟩ := hit; exact Heap.lt_size q
    have hae : a ≠ e := fun z => by
      obtain ⟨o, h1, h2, _⟩ := hT
      rw [z] at h1
      rw [he] at h1
      cases h1
      injection h2 with h2
      exact absurd h2 (by decide)
    have hai : a ≠ it := fun z => by
      obtain ⟨o, h1, h2, _⟩ := hT
      obtain ⟨o2, h3, h4, _⟩ := hit
      rw [z, h3] at h1
      cases h1
      rw [h4] at h2
      injection h2 with h2
      exact absurd h2 (by decide)
    have hil2 : i < its.toArray.size := by
      have := (List.getElem?_eq_some_iff.mp hu).1
      simpa using this
    refine wpAny_pyNext_enum_itemD (Draws.tuple (A := X.A.in1) (show X.A.in1.handled = none from I.ok.hd hc) it a hai its.toArray) he ⟨hit, hT⟩ hil2 hne (by simp [hne, Ne.symm hae]) fun y h' tk hy ho hst' hT' hsz hk => ?_
    have ey : y = u := by
      have hy2 : its.toArray[i]? = some y := hy
      have hu2 : its.toArray[i]? = some u := by simpa using hu
      rw [hu2] at hy2
      exact (Option.some.inj hy2).symm
    subst ey
    refine ⟨_, rfl, wpAny_letOwnedTupleGo_enum (s := { s with heap := h', toks := tk + 1 }) ho fun h'' he' sb => ?_⟩
    have hT2 : h''.get? s.heap.objs.size = some { cls := .type "tuple", data := .seq #[.int i tk, y] } := (sb.2 _ (Nat.ne_of_gt hel)).trans hT'
    have new : ObjOk X.prog X.w (upd H s.heap.objs.size (.tup [.int (i : Nat), x])) h'' s.heap.objs.size (.tup [.int (i : Nat), x]) :=
      ⟨by show 2 ≤ sizeLine; decide, [.int i tk, y], .cons ⟨_, rfl⟩ (.cons ru .nil), ⟨_, hT2, rfl, _, rfl⟩⟩
    have I1 : Inv X pins σ (upd H s.heap.objs.size (.tup [.int (i : Nat), x])) { s with heap := h'', toks := tk + 1 } :=
      I.turnedNew (ch := [e, it]) (fun b ob hb q => (sb.2 b (fun z => hb (by simp [z]))).trans (hk b ob (fun z => hb (by simp [z])) (fun z => hb (by simp [z])) q)) hf (Nat.le_refl _) new
    refine ⟨.ref s.heap.objs.size, _, I1, rfl, ⟨_, x, rfl, I.hok.fresh (Nat.le_refl _), rfl, fun ys hy => by rw [I.tuple_inj hy hq]; exact hx⟩, ⟨⟨y, ?_⟩, hst'.1.at fun o q => (sb.2 it (Ne.symm hne)).trans q, hne⟩, fun b hb => ?_⟩
    · have e1 : ((i + 1 : Nat) : Int) = (i : Int) + 1 := by omega
      rw [e1]; exact he'
    · have hb' : b < s.heap.objs.size := by
        have e' : b = e ∨ b = it := by simpa using hb
        rcases e' with z | z
        · rw [z]; exact hel
        · rw [z]; exact hil
      rw [upd_ne (Nat.ne_of_lt hb')]
      exact (hf b hb).1
  done := by
    intro X hP hw hK hc i pins s σ H E I hf st hg
    subst hP hw hK
    obtain ⟨⟨old, he⟩, hit, hne⟩ := st
    obtain ⟨xs, hq, hx⟩ := hg
    obtain ⟨its, rv, p, hz⟩ := I.tuple hq
    have hT : s.heap.IsTuple a its.toArray := p
    obtain ⟨f0, f1, f2, f3, f4, f5⟩ := hf it (by simp)
    have hai : a ≠ it := fun z => by
      obtain ⟨o, h1, h2, _⟩ := hT
      obtain ⟨o2, h3, h4, _⟩ := hit
      rw [z, h3] at h1
      cases h1
      rw [h4] at h2
      injection h2 with h2
      exact absurd h2 (by decide)
    have hl := rv.length
    have fin : ∀ (Q : Option Value → Shared → Prop), (∀ h', Heap.ExtBut it s.heap h' → Q none { s with heap := h' }) → wpAny (model X.prog X.w) X.A (pyNext (.ref e)) Q E s := fun Q hQ => by
      have hTy : s.TypeIs (.ref e) "enumerate" := ⟨_, he, rfl⟩
      unfold pyNext
      refine wpAny_bind (wpAny_attempt (wpAny_callSpecial?_slot (name := Str.ofString "__next__") hTy PySem.F.slot_enumerate_next
        (wpAny_call_entry PySem.F.slot_enumerate_next hTy PySem.F.entry_enumerate_next ?_ (PySem.F.args_enumerate_next_1 _))))
      show wpAny _ _ (field (.ref e) 2 >>= _) _ _ _
      refine wpAny_bind (wpAny_field he rfl (x := .ref it) rfl ?_)
      refine wpAny_bind (wpAny_nextOf_tuple_end (I.ok.hd hc) hit hT (by simp; omega) fun h' x he' hx' => ?_)
      obtain ⟨o, ho, hcc⟩ := hx'
      refine wpAny_bind (wpAny_isInstance (T := "StopIteration") (b := true) ⟨o, ho, hcc⟩ isSubtype_stop ?_)
      exact wpAny_pure (hQ _ he')
    exact fin _ fun h' eb => ⟨rfl, I.turned (t' := s.toks) (fun b o hb q => eb b o hb q) f0 f1 f3 f4 f5⟩
  self := fun A i s Q E st h => let ⟨⟨_, he⟩, _⟩ := st; wpAny_pyIter_enum he h
def iEnumT (K : PySem.W.Frag) (ta : TA) : TI := fun σ H R => ta σ H fun vs H1 => ∃ a xs, vs = [.ref a] ∧ SqT K H1 a xs ∧ R (IteT K a) H1
theorem pi_enumT {X : Cx} {e : Expr} {ta : TA} {p pos tpos : Pos} {elts : List Expr} {kk : Nat} (hg : Gl X "enumerate") (hm : X.mg "enumerate" = none) (ha : PA X [e] ta) (hs : starEach [e] X.env = [(false, eval e X.env)] := by rfl) :
    PI X (.Tuple elts kk tpos) (.Call (.Name "enumerate" p) [e] [] pos) (iEnumT X.K ta) := by
  refine ⟨fun pins s σ H R I h => ?_⟩
  refine Call_ (ld_blt I hg hm boot_enumerate (PyProof.Rows.callWith_type1 (thn (ha.run pos pins s σ H _ I h) fun us s1 ⟨vs, H1, I1, r1, q1⟩ => ?_) hs rfl))
  obtain ⟨a, xs, ex, hq, q⟩ := q1
  subst ex
  cases r1 with
  | cons r rr =>
    cases rr
    cases r
    obtain ⟨its, rv, p', hz⟩ := I1.tuple hq
    refine call_enumerate_tuple (show s1.heap.IsTuple a its.toArray from p') fun h' he hit hsz hk => wpAny_pyIter_enum he ?_
    have I2 : Inv X pins σ H1 { s1 with heap := h' } := I1.kept (t' := s1.toks) hk
    refine ⟨s1.heap.objs.size + 1, [s1.heap.objs.size + 1, s1.heap.objs.size], _, _, H1, rfl, I2, turn_enumT a (s1.heap.objs.size + 1) s1.heap.objs.size, ⟨⟨.none, he⟩, hit, Nat.succ_ne_self _⟩, fun b hb => ?_, q⟩
    have e' : b = s1.heap.objs.size + 1 ∨ b = s1.heap.objs.size := by simpa using hb
    have hle : s1.heap.objs.size ≤ b := by
      rcases e' with z | z
      · rw [z]; exact Nat.le_add_right _ _
      · rw [z]; exact Nat.le_refl _
    exact I1.fpOk hle (I1.hok.fresh hle)
/-- .. as data -/
def enumD : Nat → List D → List D
  | _, [] => []
  | n, d :: ds => .tup [.int (n : Nat), d] :: enumD (n + 1) ds
theorem enumD_len : ∀ (n : Nat) (ds : List D), (enumD n ds).length = ds.length
  | _, [] => rfl
  | n, d :: ds => congrArg (· + 1) (enumD_len (n + 1) ds)
theorem enumD_get : ∀ (n : Nat) (ds : List D) (i : Nat) (d : D), ds[i]? = some d → (enumD n ds)[i]? = some (.tup [.int ((n + i : Nat) : Int), d])
  | _, [], _, _, h => by simp at h
  | n, d :: ds, 0, e, h => by
    simp only [List.getElem?_cons_zero, Option.some.injEq] at h
    subst h
    rfl
  | n, d :: ds, i + 1, e, h => by
    have := enumD_get (n + 1) ds i e (by simpa using h)
    show (enumD (n + 1) ds)[i]? = _
    rw [this, show n + 1 + i = n + (i + 1) by omega]
section
variable {R : Rs} {Γ : Gm R} {ι : Type} {X : ι → Cx} {E : XK}
theorem wlk_enumT {a : Addr} {ds : List D} : Wlk Γ (IteT Γ.K a) (enumD 0 ds) [(.ref a, .tup ds)] where
  go := fun {sl tm ow g σ H i} S h => by
    rw [enumD_len] at h
    cases S.top with
    | tup q r => exact ⟨_, _, q.seq, List.getElem?_eq_getElem (by rw [r.length]; exact h)⟩
  yld := fun {sl tm ow g σ H i x H'} S h y => by
    obtain ⟨T, x2, rfl, hT, rfl, y⟩ := y
    cases S.top with
    | tup q r =>
      have hx := y _ q.seq
      obtain ⟨d, e1, e2⟩ := r.atL hx
      have S2 := S.newT (vs := [.int (i : Nat), x2]) (ds := [.int (i : Nat), d]) (.cons (.int _) (.cons e2 .nil)) hT
      refine ⟨S2.pop, _, enumD_get 0 ds i d e1, ?_⟩
      rw [Nat.zero_add]
      exact S2.top
  stop := fun {sl tm ow g σ H i} S h => by
    rw [enumD_len] at h
    cases S.top with
    | tup q r => exact ⟨_, q.seq, by rw [r.length, h]; exact Nat.le_refl _⟩
def iEn (f : FE R) : FA R := fun sl g => (f sl g).bind fun d g => match d with
  | .tup ds => .ok (enumD 0 ds) g
  | _ => .bad
theorem ei_enumT {tg e : Expr} {p pos : Pos} {f : FE R} (pi : ∀ {ta} j, PA (X j) [e] ta → PI (X j) tg (.Call (.Name "enumerate" p) [e] [] pos) (iEnumT Γ.K ta)) (h : ED X E Γ e f) (hs : ∀ j, starEach [e] (X j).env = (false, eval e (X j).env) :: starEach [] (X j).env := by intro _; rfl) : EI X E Γ tg (.Call (.Name "enumerate" p) [e] [] pos) (iEn f) := by
  obtain ⟨t, pp, s⟩ := h
  refine ⟨_, fun j => pi j (pa_cons (pp j) pa_nil (hs j)), fun sl tm ow g σ H Rr S h => ?_⟩
  show t σ H _
  refine s sl tm ow g σ H _ S ?_
  unfold iEn at h
  cases e : f sl g with
  | bad => rw [e] at h; exact h
  | err C fs g' => rw [e] at h; exact h
  | ok d g' =>
    rw [e] at h
    dsimp only [bind_ok] at h
    intro v H1 S1 dv
    cases dv with
    | tup q r => exact ⟨_, _, rfl, q.seq, h _ _ [(_, _)] (S1.push (.tup q r)) wlk_enumT⟩
    | _ => exact h.elim
end
end DL

set_option maxHeartbeats 4000000
namespace DL
open PySem PySem.Spec PyProof.Rows L2
/-! ## data as the library's data -/
mutual
def toPy : D → Option PyData
  | .non => some .none
  | .bl b => some (.bool b)
  | .int i => some (.int i)
  | .str x => some (.str x)
  | .lst l => (toPyL l).map .list
  | .tup l => (toPyL l).map .tuple
  | _ => none
def toPyL : List D → Option (List PyData)
  | [] => some []
  | d :: r => match toPy d, toPyL r with
    | some a, some b => some (a :: b)
    | _, _ => none
end
section
variable {K : PySem.W.Frag} {av : Addr → Prop} {H : Hp}
mutual
theorem dp_of : ∀ {v : V} {d : D} {p : PyData}, Dt K av H v d → toPy d = some p → Dp K H v p
  | _, _, _, .non, h => by simp only [toPy, Option.some.injEq] at h; subst h; exact .non
  | _, _, _, .bl b, h => by simp only [toPy, Option.some.injEq] at h; subst h; exact .bl b
  | _, _, _, .int i, h => by simp only [toPy, Option.some.injEq] at h; subst h; exact .int i
  | _, _, _, .str x, h => by simp only [toPy, Option.some.injEq] at h; subst h; exact .str x
  | _, _, _, .hd _, h => by simp only [toPy] at h; cases h
  | _, _, _, .ty _, h => by simp only [toPy] at h; cases h
  | _, _, _, .dct _ _ _, h => by simp only [toPy] at h; cases h
  | _, _, _, .obj _ _ _, h => by simp only [toPy] at h; cases h
  | _, _, _, .lst (ds := ds) q r, h => by
    simp only [toPy] at h
    cases e : toPyL ds with
    | none => rw [e] at h; cases h
    | some ps =>
      rw [e] at h
      cases h
      exact .lst q.seq (dpAll_of r e)
  | _, _, _, .tup (ds := ds) q r, h => by
    simp only [toPy] at h
    cases e : toPyL ds with
    | none => rw [e] at h; cases h
    | some ps =>
      rw [e] at h
      cases h
      exact .tup q.seq (dpAll_of r e)
theorem dpAll_of : ∀ {v : List V} {d : List D} {p : List PyData}, DtAll K av H v d → toPyL d = some p → DpAll K H v p
  | _, _, _, .nil, h => by simp only [toPyL, Option.some.injEq] at h; subst h; exact .nil
  | _, _, _, .cons (d := d) (ds := ds) q r, h => by
    simp only [toPyL] at h
    cases e1 : toPy d with
    | none => rw [e1] at h; cases h
    | some a =>
      cases e2 : toPyL ds with
      | none => rw [e1, e2] at h; cases h
      | some b =>
        rw [e1, e2] at h
        cases h
        exact .cons (dp_of q e1) (dpAll_of r e2)
end
end
def eqP (x y : D) : Option D := match toPy x, toPy y with
  | some d, some e => if SeqAt.shaped d = true ∧ SeqAt.shaped e = true then some (.bl (PyData.eqv d e)) else none
  | _, _ => none
def neP (x y : D) : Option D := match toPy x, toPy y with
  | some d, some e => if SeqAt.shaped d = true ∧ SeqAt.shaped e = true then some (.bl (!PyData.eqv d e)) else none
  | _, _ => none
def reprD : List D → Option D
  | [x] => match toPy x with
    | some p => if p.showable = true ∧ p.shown.length ≤ 100000 ∧ p.depth ≤ 60 then some (.str p.shown) else none
    | none => none
  | _ => none
/-- a list == [] -/
def eqE : D → D → Option D
  | .lst a, .lst [] => some (.bl a.isEmpty)
  | _, _ => none
def rEqE : R2 := fun x y H Q => ∃ a b xs, x = .ref a ∧ y = .ref b ∧ H a = some (.lst xs) ∧ H b = some (.lst []) ∧ Q (.bl xs.isEmpty) H
theorem op_eqE {X : Cx} (hu : X.A.units + 64 < cLine) : OpR X (compareOp .Eq) rEqE := by
  intro pins s σ H x y v u Q I rx ry h
  obtain ⟨a, b, xs, rfl, rfl, ha, hb, q⟩ := h
  cases rx
  cases ry
  obtain ⟨z1, its1, n1, r1, e1⟩ := I.hok a _ ha
  obtain ⟨z2, its2, n2, r2, e2⟩ := I.hok b _ hb
  cases r2
  have hl : s.heap.IsList a its1.toArray := ⟨_, e1, rfl, n1, rfl⟩
  have hb : s.heap.IsList b ([] : List Value).toArray := ⟨_, e2, rfl, n2, rfl⟩
  cases r1 with
  | nil => exact SeqAt.eq_listAt (e := fun _ => true) hl hb rfl (by omega) (fun j h1 => absurd h1 (by simp)) ⟨.bl _, H, I, rfl, q⟩
  | cons r rr => exact SeqAt.eq_list_lengthsAt hl hb (by simp) (by omega) ⟨.bl _, H, I, rfl, q⟩
section
variable {R : Rs} {Γ : Gm R} {ι : Type} {X : ι → Cx} {E : XK}
theorem s_eqP : OpS Γ (rEqD Γ.K) eqP := by
  intro sl tm ow g σ H x y d e z Q S dx dy eo k
  unfold eqP at eo
  cases e1 : toPy d with
  | none => rw [e1] at eo; cases eo
  | some p =>
    cases e2 : toPy e with
    | none => rw [e1, e2] at eo; cases eo
    | some q =>
      rw [e1, e2] at eo
      dsimp only at eo
      split at eo
      · rename_i c
        cases eo
        exact ⟨p, q, dp_of dx e1, dp_of dy e2, c.1, c.2, k _ _ S (fun _ _ e => e) (.bl _)⟩
      · cases eo
theorem s_neP : OpS Γ (rNeD Γ.K) neP := by
  intro sl tm ow g σ H x y d e z Q S dx dy eo k
  unfold neP at eo
  cases e1 : toPy d with
  | none => rw [e1] at eo; cases eo
  | some p =>
    cases e2 : toPy e with
    | none => rw [e1, e2] at eo; cases eo
    | some q =>
      rw [e1, e2] at eo
      dsimp only at eo
      split at eo
      · rename_i c
        cases eo
        exact ⟨p, q, dp_of dx e1, dp_of dy e2, c.1, c.2, k _ _ S (fun _ _ e => e) (.bl _)⟩
      · cases eo
theorem s_repr : CallS Γ (fun xs H Q => ∃ v d, xs = [v] ∧ VK.Dr Γ.K H v d ∧ d.showable = true ∧ d.shown.length ≤ sizeLine ∧ d.depth ≤ 60 ∧ Q (.str d.shown) H) reprD := by
  intro sl tm ow g σ H xs ds z Q S dx eo k
  unfold reprD at eo
  split at eo
  · rename_i x
    cases dx with
    | cons d1 d2 =>
      cases d2
      cases e1 : toPy x with
      | none => rw [e1] at eo; cases eo
      | some p =>
        rw [e1] at eo
        dsimp only at eo
        split at eo
        · rename_i c
          cases eo
          exact ⟨_, p, rfl, .of (dp_of d1 e1), c.1, lim_ok c.2.1, c.2.2, k _ _ S (fun _ _ e => e) (.str _)⟩
        · cases eo
  · cases eo
theorem s_eqE : OpS Γ rEqE eqE := by
  intro sl tm ow g σ H x y d e z Q S dx dy eo k
  cases dx <;> cases dy <;> first | (cases eo; done) | skip
  rename_i a xs ds h1 r1 b ys es h2 r2
  cases r2 with
  | cons => cases eo
  | nil =>
    cases eo
    refine ⟨a, b, xs, rfl, rfl, h1.1, h2.1, k _ _ S (fun _ _ e => e) ?_⟩
    cases r1 <;> exact .bl _
/-! ## classes -/
theorem ed_cval {e : Expr} {C : Addr} {mc : Value} {f : Str} {v : V} {u : Value} {d : D} (hr : ClX.CRead Γ.K C mc) (hv : ClX.CVal Γ.K C mc f v u) (hd : ∀ av H, Dt Γ.K av H v d) (pe : ∀ j, PE (X j) e (ClX.tCVal Γ.K (tC (.ref C)) f)) : ED X E Γ e (fC d) :=
  ⟨_, pe, fun sl tm ow g σ H Q S h => ⟨C, mc, v, u, rfl, hr, hv, h v H S (hd _ _)⟩⟩
end
/-- what isinstance asks of an own class -/
structure ObC (K : PySem.W.Frag) (C : Addr) : Prop where
  cl : Cls K C
  ha : PySem.W.findIn K (.ref C) "__class__" = some (some (.builtin "object.__class__"))
  hn : PySem.W.specialIn K (.builtin "object.__class__") "__get__" = some (some (.builtin "getset_descriptor.__get__"))
  ht : PySem.W.takesIn K (.builtin "object.__class__") = some true
  hm : PySem.W.mroIn K C (.type "object") = some true
  kt : PySem.W.kitOne K (.ref C) (.ref C) = some true
def kt1 (cs : List Addr) (d e : D) : Option Bool := match d, e with
  | .obj C _, .hd C' => if C = C' ∧ C ∈ cs then some true else none
  | d, e => kt0 d e
theorem kt1_ok {K : PySem.W.Frag} {cs : List Addr} (hc : ∀ C ∈ cs, ObC K C) : KtOk K (kt1 cs) := ⟨fun {av H v c d e b} h1 h2 h => by
  unfold kt1 at h
  split at h
  · rename_i C fs C'
    split at h
    · rename_i q
      cases h
      obtain ⟨rfl, hm⟩ := q
      have o := hc C hm
      cases h1 with
      | obj ha _ _ =>
        cases h2
        exact ⟨.ref C, .ref C, .own C, .base (.ins ha o.cl o.ha o.hn o.ht o.hm), o.kt⟩
    · cases h
  · exact kt0_ok.ok h1 h2 h⟩
/-! ## the pen -/
def penL (n1 n2 : Str) (c : Addr) (t r : Int) : List (Key × V) := [(Sum.inr "cells", .ref c), (Sum.inr n1, .int t), (Sum.inr n2, .int r)]
/-- the pen at p, its cells at c: how many drawn, what is left -/
def penR (n1 n2 : Str) : Rs where
  α := Int × Int
  ix := Addr × Addr × List Int
  G := fun _ i g av H => H i.1 = some (.dK (penL n1 n2 i.2.1 g.1 g.2)) ∧ H i.2.1 = some (.lst (i.2.2.map V.int)) ∧ ¬ av i.1 ∧ ¬ av i.2.1
  mu := fun i a => a = i.1
  stab := fun {K i g av av' H H'} k h => ⟨(k _ _ h.1 h.2.2.1).1, (k _ _ h.2.1 h.2.2.2).1, (k _ _ h.1 h.2.2.1).2, (k _ _ h.2.1 h.2.2.2).2⟩
  trk := fun {K i g av H a} h e => by rw [e, h.1]; nofun
section
variable {n1 n2 : Str} {Γ : Gm (penR n1 n2)} {ι : Type} {X : ι → Cx} {E : XK} {sl : List SV} {tm : List (V × D)} {ow : List (Addr × MO)} {g : Int × Int} {σ : L2.St} {H : Hp}
/-- pen[..] read, the pen in slot i -/
def fPen (i : Nat) (p : Addr) (f : Int × Int → D) : FE (penR n1 n2) := fun sl g => match sl[i]? with
  | some (.dat (.hd a)) => if a = p then .ok (f g) g else .bad
  | _ => .bad
theorem ed_pen {i : Nat} {e : Expr} {k : Str} {f : Int × Int → D} (pe : ∀ j, PE (X j) e (tDGet (tVar i) (tC (.str k))))
    (hv : ∀ (c : Addr) (t r : Int), ∃ v, valV (penL n1 n2 c t r) (.inr k) = some v ∧ ((v = .ref c ∧ ∀ g, f g = .lst (Γ.ix.2.2.map D.int)) ∨ Dt Γ.K (fun _ => True) (fun _ => none) v (f (t, r)))) : ED X E Γ e (fPen i Γ.ix.1 f) := by
  refine ⟨_, pe, fun sl tm ow g σ H Q S h => ?_⟩
  unfold fPen at h
  split at h
  · rename_i a e1
    split at h
    · rename_i ea
      subst ea
      obtain ⟨v, e2, dv⟩ := S.slot e1
      cases dv
      obtain ⟨g1, g2, g3, g4⟩ := S.res
      obtain ⟨t, r⟩ := g
      obtain ⟨v, q1, q2⟩ := hv Γ.ix.2.1 t r
      refine ⟨_, e2, Γ.ix.1, v, rfl, .inl ⟨_, .inr k, .inl g1, rfl, q1.symm⟩, h v H S ?_⟩
      rcases q2 with ⟨rfl, q2⟩ | q2
      · rw [q2]
        refine .lst ⟨g2, fun z => ?_⟩ ?_
        · rcases z with z | z
          · have : Γ.ix.2.1 = Γ.ix.1 := z
            rw [this, g1] at g2
            cases g2
          · exact g4 z
        · have : ∀ ns : List Int, DtAll Γ.K (Γ.av sl ow σ) H (ns.map V.int) (ns.map D.int) := fun ns => by
            induction ns with
            | nil => exact .nil
            | cons n ns ih => exact .cons (.int n) ih
          exact this _
      · exact q2.keep fun b o e _ => by cases (show (none : Option HO) = some o from e)
    · exact h.elim
  · exact h.elim
/-- pen[..] = e -/
def sPen (i : Nat) (p : Addr) (u : Int × Int → Int → Int × Int) (f : FE (penR n1 n2)) : FS (penR n1 n2) := fun sl g => match sl[i]? with
  | some (.dat (.hd a)) => (f sl g).toS fun d g => match d with
    | .int z => if a = p then .nx sl (u g z) else .bad
    | _ => .bad
  | _ => .bad
theorem es_pen {i : Nat} {st : Stmt} {k : Str} {f : FE (penR n1 n2)} {u : Int × Int → Int → Int × Int} {e : Expr} (h : ED X E Γ e f) (ps : ∀ {te} j, PE (X j) e te → PS (X j) st (sDPut (tVar i) (tC (.str k)) te))
    (hv : ∀ (c : Addr) (t r z : Int), putK (penL n1 n2 c t r) (.inr k) (.int z) = penL n1 n2 c (u (t, r) z).1 (u (t, r) z).2) : ES X E Γ st (sPen i Γ.ix.1 u f) := by
  obtain ⟨t, p, s⟩ := h
  refine ⟨_, fun j => ps j (p j), fun sl tm ow g σ H Dn S h => ?_⟩
  unfold sPen at h
  split at h
  · rename_i a e1
    refine s sl tm ow g σ H _ S (toS_okV (sl := sl) (σ := σ) h fun d g' _ q v H' S' dv => ?_)
    cases dv with
    | int z =>
      dsimp only at q
      by_cases ea : a = Γ.ix.1
      · rw [if_pos ea] at q
        subst ea
        obtain ⟨v2, e2, dv2⟩ := S'.slot e1
        cases dv2
        obtain ⟨g1, g2, g3, g4⟩ := S'.res
        obtain ⟨t, r⟩ := g'
        have hne : Γ.ix.2.1 ≠ Γ.ix.1 := ne_of g2 g1 (by intro z; cases z)
        refine ⟨_, e2, Γ.ix.1, _, rfl, .inl ⟨_, .inr k, g1, rfl, by show 3 < sizeLine; decide, rfl⟩, q _ _ (S'.called (fun b o e n => ?_) ⟨?_, ?_, g3, g4⟩)⟩
        · rw [upd_ne n]
          exact e
        · rw [upd_same, hv]
        · rw [upd_ne hne]
          exact g2
      · rw [if_neg ea] at q
        exact q.elim
    | _ => exact q.elim
  · exact h.elim
end
end DL

set_option maxHeartbeats 4000000
namespace DL
open PySem PySem.Spec PyProof.Rows L2
section
variable {R : Rs} {Γ : Gm R} {ι : Type} {X : ι → Cx} {E : XK}
theorem ed_ix {r : R2} {o : D → D → Option D} {a b : Expr} {fa fb : FE R} {pos : Pos} (hr : ∀ j, IxR (X j) r) (so : OpS Γ r o) (ha : ED X E Γ a fa) (hb : ED X E Γ b fb) (hs : PlainIx b) : ED X E Γ (.Subscript a b pos) (fOp o fa fb) := by
  obtain ⟨ta, pa, sa⟩ := ha
  obtain ⟨tb, pb, sb⟩ := hb
  refine ⟨_, fun j => pe_ix (hr j) (pa j) (pb j) hs, fun sl tm ow g σ H Q S h => ?_⟩
  unfold fOp at h
  refine sa sl tm ow g σ H _ S ?_
  cases ea : fa sl g with
  | bad => rw [ea] at h; exact h
  | err C fs g1 => rw [ea] at h; exact h
  | ok x g1 =>
    rw [ea] at h
    intro v H1 S1 d1
    refine sb sl ((v, x) :: tm) ow g1 σ H1 _ (S1.push d1) ?_
    dsimp only [bind_ok] at h
    cases eb : fb sl g1 with
    | bad => rw [eb] at h; exact h
    | err C fs g2 => rw [eb] at h; exact fun y H2 S2 x2 => h y H2 S2.pop x2
    | ok y g2 =>
      rw [eb] at h
      dsimp only [bind_ok, lift2] at h
      intro u H2 S2 d2
      cases eo : o x y with
      | none => rw [eo] at h; exact h.elim
      | some z =>
        rw [eo] at h
        exact so sl tm ow g2 σ H2 v u x y z Q S2.pop S2.top d2 eo fun w H3 S3 _ d3 => h w H3 S3 d3
def tYesF : FT R := fun _ g => .ok true g
theorem lc_yes : ∃ tt, (∀ j, PTs (X j) [] tt) ∧ ∀ sl tm ow g σ H Q, SRel Γ sl tm ow g σ H → OkT Γ sl tm ow σ E0 Q ((tYesF : FT R) sl g) → tt σ H Q :=
  ⟨_, fun _ => pts_nil, fun sl tm ow g σ H Q S h => h H S⟩
theorem lc_if {c : Expr} {f : FT R} (h : ET X E0 Γ c f) : ∃ tt, (∀ j, PTs (X j) [c] tt) ∧ ∀ sl tm ow g σ H Q, SRel Γ sl tm ow g σ H → OkT Γ sl tm ow σ E0 Q (f sl g) → tt σ H Q := by
  obtain ⟨t, p, s⟩ := h
  exact ⟨t, fun j => pts_one (p j), s⟩
/-- x = [..] by a comprehension on one line -/
theorem es_setLc {i : Nat} {y : Str} {py : Pos} {spos : Pos} {elt tg iter : Expr} {ifs : List Expr} {scope : Scope} {own : List (Str × Nat)} {pos : Pos} {fi : FA R} {gf : FG} {ft : FT R} {fe : FE R} (hc : ∀ j, (X j).calm = true) (hN : ∀ j, (X j).N.Nodup) (hy : ∀ j, (X j).N[i]? = some y) (hyl : ∀ j, (X j).env.scope.names.lookup y = some .local) (hsw : ∀ j, swapsWith (.ListComp elt [⟨tg, iter, ifs, 0⟩] scope pos) (some (.Name y py)) spos.line (X j).env = pure true) (hi : EI X E Γ tg iter fi) (ok : ∀ j, BlkOk (X j).N (X j).env.scope scope own)
    (hg : EG (fun q : ι × Shared × Hp × Addr × List (Str × Addr) × List Addr => (X q.1).blk q.2.1 q.2.2.1 scope (compEnvC scope q.2.2.2.2.1 q.2.2.2.1 (X q.1).env) q.2.2.2.2.2) Γ tg (own.map (·.2)) gf)
    (ht : ∃ tt, (∀ q : ι × Shared × Hp × Addr × List (Str × Addr) × List Addr, PTs ((X q.1).blk q.2.1 q.2.2.1 scope (compEnvC scope q.2.2.2.2.1 q.2.2.2.1 (X q.1).env) q.2.2.2.2.2) ifs tt) ∧ ∀ sl tm ow g σ H Q, SRel Γ sl tm ow g σ H → OkT Γ sl tm ow σ E0 Q (ft sl g) → tt σ H Q)
    (he : ED (fun q : ι × Shared × Hp × Addr × List (Str × Addr) × List Addr => (X q.1).blk q.2.1 q.2.2.1 scope (compEnvC scope q.2.2.2.2.1 q.2.2.2.1 (X q.1).env) q.2.2.2.2.2) E0 Γ elt fe)
    (hs : ∀ j, ∀ x, foldedSetIterable iter (X j).env x = pure x := by intro _ _; rfl) :
    ES X E Γ (.Assign [.Name y py] (.ListComp elt [⟨tg, iter, ifs, 0⟩] scope pos) spos) (sSet i (fLc fi (own.map (·.2)) gf ft fe)) := by
  obtain ⟨wi, gt, tt, te, pi, pg, pt, pe, snd⟩ := lc_parts (E := E) (pos := pos) hi hg ht he
  refine ⟨_, fun j => ps_setLc (hc j) (hN j) (hy j) (hyl j) (hsw j) (pi j) (ok j) (fun s H C cl fp => pg (j, s, H, C, cl, fp)) (fun s H C cl fp => pt (j, s, H, C, cl, fp)) (fun s H C cl fp => pe (j, s, H, C, cl, fp)) (hs j), fun sl tm ow g σ H Dn S h => ?_⟩
  exact snd sl tm ow g σ H _ S (toS_okV (sl := sl) (σ := σ) h fun d g' _ q v H' S' dv => q _ H' (S'.setD dv))
theorem chain_core {r r' : R2} {o o' : D → D → Option D} {fa fb fc : FE R} {ta tb tc : TE} (so : OpS Γ r o) (so' : OpS Γ r' o')
    (sa : ∀ sl tm ow g σ H Q, SRel Γ sl tm ow g σ H → OkV Γ sl tm ow σ E Q (fa sl g) → ta σ H Q) (sb : ∀ sl tm ow g σ H Q, SRel Γ sl tm ow g σ H → OkV Γ sl tm ow σ E Q (fb sl g) → tb σ H Q) (sc : ∀ sl tm ow g σ H Q, SRel Γ sl tm ow g σ H → OkV Γ sl tm ow σ E Q (fc sl g) → tc σ H Q) :
    ∀ sl tm ow g σ H Q, SRel Γ sl tm ow g σ H → OkV Γ sl tm ow σ E Q (fChain o o' fa fb fc sl g) → tChain r r' ta tb tc σ H Q := by
  intro sl tm ow g σ H Q S h
  unfold fChain at h
  refine sa sl tm ow g σ H _ S ?_
  cases ea : fa sl g with
  | bad => rw [ea] at h; exact h
  | err C fs g1 => rw [ea] at h; exact h
  | ok x g1 =>
    rw [ea] at h
    intro v H1 S1 d1
    refine sb sl ((v, x) :: tm) ow g1 σ H1 _ (S1.push d1) ?_
    dsimp only [bind_ok] at h
    cases eb : fb sl g1 with
    | bad => rw [eb] at h; exact h
    | err C fs g2 => rw [eb] at h; exact fun y H2 S2 x2 => h y H2 S2.pop x2
    | ok y g2 =>
      rw [eb] at h
      dsimp only [bind_ok] at h
      intro u H2 S2 d2
      cases eo : o x y with
      | none => rw [eo] at h; exact h.elim
      | some z =>
        rw [eo] at h
        refine so sl ((u, y) :: tm) ow g2 σ H2 v u x y z _ (S2.pop.push d2) S2.top d2 eo fun w H3 S3 _ d3 => ?_
        cases d3 with
        | bl k =>
          cases k with
          | false => exact ⟨false, rfl, h _ _ S3.pop (.bl false)⟩
          | true =>
            refine ⟨true, rfl, sc sl ((u, y) :: tm) ow g2 σ H3 _ S3 ?_⟩
            dsimp only at h
            cases ec : fc sl g2 with
            | bad => rw [ec] at h; exact h
            | err C fs g3 => rw [ec] at h; exact fun y H2 S2 x2 => h y H2 S2.pop x2
            | ok z g3 =>
              rw [ec] at h
              dsimp only [bind_ok, lift2] at h
              intro q H4 S4 d4
              cases eo' : o' y z with
              | none => rw [eo'] at h; exact h.elim
              | some zz =>
                rw [eo'] at h
                exact so' sl tm ow g3 σ H4 u q y z zz Q S4.pop S4.top d4 eo' fun w H3 S3 _ d3 => h w H3 S3 d3
        | _ => exact h.elim
theorem et_chain {op op' : CmpOp} {r r' : R2} {o o' : D → D → Option D} {a b c : Expr} {fa fb fc : FE R} {pos : Pos} (ho : ∀ j, OpR (X j) (compareOp op) r) (ho' : ∀ j, OpR (X j) (compareOp op') r') (so : OpS Γ r o) (so' : OpS Γ r' o') (ha : ED X E Γ a fa) (hb : ED X E Γ b fb) (hc : ED X E Γ c fc)
    (pe : ∀ {ta tb tc} j, PE (X j) a ta → PE (X j) b tb → PE (X j) c tc → PT (X j) (.Compare a [op, op'] [b, c] pos) (tTest (tChain r r' ta tb tc))) : ET X E Γ (.Compare a [op, op'] [b, c] pos) (tVal (fChain o o' fa fb fc)) := by
  obtain ⟨ta, pa, sa⟩ := ha
  obtain ⟨tb, pb, sb⟩ := hb
  obtain ⟨tc, pc, sc⟩ := hc
  refine ⟨_, fun j => pe j (pa j) (pb j) (pc j), fun sl tm ow g σ H Q S h => ?_⟩
  refine chain_core so so' sa sb sc sl tm ow g σ H _ S ?_
  unfold tVal at h
  cases e : fChain o o' fa fb fc sl g with
  | bad => rw [e] at h; exact h
  | err C fs g1 => rw [e] at h; exact h
  | ok x g1 =>
    rw [e] at h
    dsimp only [bind_ok] at h
    intro v H1 S1 d1
    cases d1 with
    | bl c => exact ⟨c, rfl, h _ S1⟩
    | _ => exact h.elim
end
/-- a def at hand -/
structure LdX (P : Program) (w : World) (K : PySem.W.Frag) (mg : Str → Option Value) (base : Heap) (R : Rs) (nm : Str) (k : Nat) (f : Addr) (fd : FuncData) (ps : List Str) (n : Nat) (F : FF R) : Prop where
  G : FnOk P w K mg base (L2.CX P w) k f fd ps (spD R K n F)
  b : Binds K fd ps []
  g : mg nm = some (.ref f)
  k : PySem.W.keepIn K (.ref f) = true
theorem passX {P : Program} {w : World} {K : PySem.W.Frag} {mg : Str → Option Value} {base : Heap} {N : List Str} {qual : Str} {sc : Scope} {f : Addr} {cd : Value} {A : Around} {outer : List Env} {s : Shared} {H : Hp} {E : XK} : Passes (L2.CX P w) (cxOf (L2.CX P w) P w K mg base N qual sc f cd A outer s H E) E :=
  passes_call (takes_of rfl rfl rfl rfl) (fun _ _ _ _ z => z)
theorem passN {X : Cx} {P : Program} {w : World} : Passes (L2.CX P w) X E0 := fun _ _ _ _ _ _ _ h => by
  obtain ⟨_, _, _, _, _, _, _, _, _, _, _, _, z⟩ := h
  exact z.elim
theorem nomk (b : Expr) {op : CmpOp} (h : op ≠ .In := by decide) (h2 : op ≠ .NotIn := by decide) : behindInMarks op b = false := nobehind b h h2
end DL

set_option maxHeartbeats 4000000
namespace DL
open PySem PySem.Spec PyProof.Rows L2
/-! ## running the functions -/
section
variable {R : Rs} {sl : List SV} {g g1 g2 g3 : R.α} {x y z : D} {xs ys : List D} {a b c : FE R} {r : FA R} {b1 : Bool}
theorem r_var {i : Nat} (h : sl[i]? = some (.dat x) := by rfl) : (fVar i : FE R) sl g = .ok x g := by unfold fVar; rw [h]
theorem r_c : (fC x : FE R) sl g = .ok x g := rfl
theorem r_nil : (fNil : FA R) sl g = .ok [] g := rfl
theorem r_cons (ha : a sl g = .ok x g1) (hr : r sl g1 = .ok xs g2) : fCons a r sl g = .ok (x :: xs) g2 := by unfold fCons; rw [ha, bind_ok, hr, bind_ok]
theorem r_tup (ha : r sl g = .ok xs g1) (hl : xs.length ≤ 100000 := by simp) : fTup r sl g = .ok (.tup xs) g1 := by unfold fTup; rw [ha, bind_ok, if_pos hl]
theorem r_lst (ha : r sl g = .ok xs g1) (hl : xs.length ≤ 100000 := by simp) : fLst r sl g = .ok (.lst xs) g1 := by unfold fLst; rw [ha, bind_ok, if_pos hl]
theorem r_op {o : D → D → Option D} (ha : a sl g = .ok x g1) (hb : b sl g1 = .ok y g2) (ho : o x y = some z) : fOp o a b sl g = .ok z g2 := by unfold fOp lift2; rw [ha, bind_ok, hb, bind_ok, ho]
theorem r_un {o : D → Option D} (ha : a sl g = .ok x g1) (ho : o x = some z) : fUn o a sl g = .ok z g1 := by unfold fUn lift1; rw [ha, bind_ok, ho]
theorem r_callL {o : List D → Option D} (ha : r sl g = .ok xs g1) (ho : o xs = some z) : fCallL o r sl g = .ok z g1 := by unfold fCallL liftL; rw [ha, bind_ok, ho]
theorem r_call {n : Nat} {F : R.α → List D → Rr R.α D} {ds : List D} (ha : r sl g = .ok xs g1) (hF : F g1 (xs ++ ds) = .ok z g2) (hn : (xs ++ ds).length = n := by rfl) : fCall n F ds r sl g = .ok z g2 := by unfold fCall; rw [ha, bind_ok, if_pos hn, hF]
theorem r_and_t (ha : a sl g = .ok (.bl true) g1) (hb : b sl g1 = .ok z g2) : fAnd a b sl g = .ok z g2 := by unfold fAnd; rw [ha, bind_ok]; exact hb
theorem r_and_f (ha : a sl g = .ok (.bl false) g1) : fAnd a b sl g = .ok (.bl false) g1 := by unfold fAnd; rw [ha, bind_ok]
theorem r_if_t {t : FT R} (ht : t sl g = .ok true g1) (ha : a sl g1 = .ok z g2) : fIf t a b sl g = .ok z g2 := by unfold fIf; rw [ht, bind_ok, if_pos rfl, ha]
theorem r_if_f {t : FT R} (ht : t sl g = .ok false g1) (hb : b sl g1 = .ok z g2) : fIf t a b sl g = .ok z g2 := by unfold fIf; rw [ht, bind_ok, if_neg Bool.false_ne_true, hb]
theorem r_val (ha : a sl g = .ok (.bl b1) g1) : tVal a sl g = .ok b1 g1 := by unfold tVal; rw [ha, bind_ok]
theorem r_notF {t : FT R} (ht : t sl g = .ok b1 g1) : tNotF t sl g = .ok (!b1) g1 := by unfold tNotF; rw [ht, bind_ok]
theorem r_andF_f {t u : FT R} (ht : t sl g = .ok false g1) : tAndF t u sl g = .ok false g1 := by unfold tAndF; rw [ht, bind_ok, if_neg Bool.false_ne_true]
theorem r_andF_t {t u : FT R} (ht : t sl g = .ok true g1) (hu : u sl g1 = .ok b1 g2) : tAndF t u sl g = .ok b1 g2 := by unfold tAndF; rw [ht, bind_ok, if_pos rfl, hu]
theorem r_lc {fi : FA R} {js : List Nat} {gf : FG} {ft : FT R} {fe : FE R} (hi : fi sl g = .ok xs g1) (hl : lcD gf ft fe xs sl g1 = .ok ys g2) (hy : ys.length ≤ 100000) (hu : allUn js sl = true := by rfl) : fLc fi js gf ft fe sl g = .ok (.lst ys) g2 := by
  unfold fLc
  rw [hi, bind_ok, if_pos hu, hl, bind_ok, if_pos hy]
theorem r_lcNil {gf : FG} {ft : FT R} {fe : FE R} : lcD gf ft fe [] sl g = .ok [] g := rfl
theorem r_lcCons {gf : FG} {fe : FE R} {sl1 : List SV} {d : D} {ds : List D} (hg : gf d sl = some sl1) (he : fe sl1 g = .ok x g1) (hr : lcD gf tYesF fe ds sl g1 = .ok xs g2) : lcD gf tYesF fe (d :: ds) sl g = .ok (x :: xs) g2 := by
  unfold lcD
  rw [hg]
  dsimp only [tYesF, noerr_ok, bind_ok]
  rw [if_pos rfl, he, noerr_ok, bind_ok, hr, noerr_ok, bind_ok]
theorem r_iL (ha : a sl g = .ok (.lst xs) g1) : iL a sl g = .ok xs g1 := by unfold iL; rw [ha, bind_ok]
theorem r_iT (ha : a sl g = .ok (.tup xs) g1) : iT a sl g = .ok xs g1 := by unfold iT; rw [ha, bind_ok]
theorem r_range {n : Nat} (ha : r sl g = .ok [.int n] g1) (hn : n < 1000000) : iR1 r sl g = .ok (rngD 0 n) g1 := by
  unfold iR1
  rw [ha, bind_ok]
  dsimp only
  rw [if_pos ⟨by omega, by omega⟩, Int.toNat_natCast]
/-! ### statements -/
variable {s t : FS R} {sl1 : List SV} {o : Ro R}
theorem r_seq (h : s sl g = .nx sl1 g1) (k : t sl1 g1 = o) : sSeq s t sl g = o := by unfold sSeq; rw [h, seq_nx, k]
theorem r_seq_rt {d : D} (h : s sl g = .rt d g1) : sSeq s t sl g = .rt d g1 := by unfold sSeq; rw [h, seq_rt]
theorem r_set {i : Nat} (h : a sl g = .ok x g1) : sSet i a sl g = .nx (sl.set i (.dat x)) g1 := by unfold sSet; rw [h, toS_ok]
theorem r_ret (h : a sl g = .ok x g1) : sRet a sl g = .rt x g1 := by unfold sRet; rw [h, toS_ok]
theorem r_expr (h : a sl g = .ok x g1) : sExpr a sl g = .nx sl g1 := by unfold sExpr; rw [h, toS_ok]
theorem r_sif_t {c : FT R} (h : c sl g = .ok true g1) (k : s sl g1 = o) : sIf c s t sl g = o := by unfold sIf; rw [h, toS_ok, if_pos rfl, k]
theorem r_sif_f {c : FT R} (h : c sl g = .ok false g1) (k : t sl g1 = o) : sIf c s t sl g = o := by unfold sIf; rw [h, toS_ok, if_neg Bool.false_ne_true, k]
theorem r_nx : (sNx : FS R) sl g = .nx sl g := rfl
theorem r_par {i j : Nat} (h : r sl g = .ok [x, y] g1) : sPar i j r sl g = .nx ((sl.set i (.dat x)).set j (.dat y)) g1 := by unfold sPar; rw [h, toS_ok]
theorem r_asgT {gf : FG} (h : a sl g = .ok x g1) (hg : gf x sl = some sl1) : sAsgT gf a sl g = .nx sl1 g1 := by unfold sAsgT; rw [h, toS_ok, hg]
theorem r_app {i : Nat} (e : sl[i]? = some (.mu (.lst xs))) (h : a sl g = .ok x g1) (hl : xs.length < 100000) : sApp i a sl g = .nx (sl.set i (.mu (.lst (xs ++ [x])))) g1 := by
  unfold sApp
  rw [e]
  dsimp only
  rw [h, toS_ok, if_pos hl]
theorem r_ext {i : Nat} (e : sl[i]? = some (.mu (.lst xs))) (h : a sl g = .ok (.lst ys) g1) (hl : xs.length + ys.length ≤ 100000) : sExt i a sl g = .nx (sl.set i (.mu (.lst (xs ++ ys)))) g1 := by
  unfold sExt
  rw [e]
  dsimp only
  rw [h, toS_ok]
  dsimp only
  rw [if_pos hl]
theorem r_for {fi : FA R} {gf : FG} {fb : FS R} (h : fi sl g = .ok xs g1) (k : forD gf fb xs sl g1 = o) : sFor fi gf fb sl g = o := by unfold sFor; rw [h, toS_ok, k]
theorem r_forNil {gf : FG} {fb : FS R} : forD gf fb [] sl g = .nx sl g := rfl
theorem r_forCons {gf : FG} {fb : FS R} {d : D} {ds : List D} {sl2 : List SV} (hg : gf d sl = some sl1) (h : fb sl1 g = .nx sl2 g1) (k : forD gf fb ds sl2 g1 = o) : forD gf fb (d :: ds) sl g = o := by
  unfold forD
  rw [hg]
  dsimp only
  rw [h]
  exact k
theorem r_frz {i : Nat} {m : MO} (e : sl[i]? = some (.mu m)) (k : s (sl.set i (.dat m.d)) g = o) : sFrz i s sl g = o := by
  unfold sFrz
  rw [e]
  exact k
theorem r_run {n : Nat} {fb : R.ix → FS R} {ix : R.ix} {ds : List D} {d : D} (h : fb ix (startS n ds) g = .rt d g1) : runF n fb ix g ds = .ok d g1 := by unfold runF; rw [h]; rfl
/-- a loop, by an invariant of the slots and of the state -/
theorem for_inv {gf : FG} {fb : FS R} (Inv : Nat → List SV → R.α → Prop) : ∀ (ds : List D) (i : Nat) (sl : List SV) (g : R.α), Inv i sl g → (∀ (j : Nat) (d : D) sl g, ds[j]? = some d → Inv (i + j) sl g → ∃ sl1 sl2 g2, gf d sl = some sl1 ∧ fb sl1 g = .nx sl2 g2 ∧ Inv (i + j + 1) sl2 g2) →
    ∃ sl' g', forD gf fb ds sl g = .nx sl' g' ∧ Inv (i + ds.length) sl' g'
  | [], i, sl, g, h, _ => ⟨sl, g, rfl, h⟩
  | d :: ds, i, sl, g, h, st => by
    obtain ⟨sl1, sl2, g2, e1, e2, h2⟩ := st 0 d sl g rfl h
    obtain ⟨sl', g', e3, h3⟩ := for_inv Inv ds (i + 1) sl2 g2 h2 fun j d sl g e q => by
      have := st (j + 1) d sl g (by simpa using e) (by rw [show i + (j + 1) = i + 1 + j by omega]; exact q)
      rw [show i + (j + 1) + 1 = i + 1 + j + 1 by omega] at this
      exact this
    exact ⟨sl', g', r_forCons e1 e2 e3, by rw [List.length_cons, show i + (ds.length + 1) = i + 1 + ds.length by omega]; exact h3⟩
/-- a comprehension, by an invariant of the state, its elements by a property -/
theorem lc_inv {gf : FG} {fe : FE R} {sl : List SV} (Inv : Nat → R.α → Prop) (Pd : D → D → Prop) : ∀ (ds : List D) (i : Nat) (g : R.α), Inv i g → (∀ (j : Nat) (d : D) g, ds[j]? = some d → Inv (i + j) g → ∃ sl1 x g2, gf d sl = some sl1 ∧ fe sl1 g = .ok x g2 ∧ Pd d x ∧ Inv (i + j + 1) g2) →
    ∃ xs g', lcD gf tYesF fe ds sl g = .ok xs g' ∧ Paired Pd ds xs ∧ Inv (i + ds.length) g'
  | [], i, g, h, _ => ⟨[], g, rfl, .nil, h⟩
  | d :: ds, i, g, h, st => by
    obtain ⟨sl1, x, g2, e1, e2, px, h2⟩ := st 0 d g rfl h
    obtain ⟨xs, g', e3, p3, h3⟩ := lc_inv Inv Pd ds (i + 1) g2 h2 fun j d g e q => by
      have := st (j + 1) d g (by simpa using e) (by rw [show i + (j + 1) = i + 1 + j by omega]; exact q)
      rw [show i + (j + 1) + 1 = i + 1 + j + 1 by omega] at this
      exact this
    exact ⟨x :: xs, g', r_lcCons e1 e2 e3, .cons px p3, by rw [List.length_cons, show i + (ds.length + 1) = i + 1 + ds.length by omega]; exact h3⟩
end
end DL

set_option maxHeartbeats 4000000
namespace DL
open PySem PySem.Spec PyProof.Rows L2
/-! ## own operators -/
def rOwn (C : Addr) (sp : Sp) (E : XK) : R2 := fun x y H Q => ∃ a b dx dy fs gs, x = .ref a ∧ y = .ref b ∧ H a = some (.ins C dx fs) ∧ H b = some (.ins C dy gs) ∧ sp [.ref a, .ref b] H Q E
def rOwn1 (C : Addr) (sp : Sp) (E : XK) : V → Hp → VK → Prop := fun x H Q => ∃ a dx fs, x = .ref a ∧ H a = some (.ins C dx fs) ∧ sp [.ref a] H Q E
theorem cmp_back {X : Cx} {pins : List (Addr × Obj)} {σ : L2.St} {Q : VK} {v : Value} {s : Shared} (h : EP X pins σ Q v s) : PySem.W.CmpBack (EP X pins σ Q) v s := by
  obtain ⟨x, H1, I1, r, q⟩ := h
  unfold PySem.W.CmpBack
  split
  · cases x <;> simp [L2.RelV] at r
  · exact ⟨x, H1, I1, r, q⟩
section
variable {X : Cx} {CX : CXT} {k : Nat} {f C : Addr} {fd : FuncData} {ps : List Str} {sp : Sp} {E : XK}
theorem op_own {op : Operator} (F : FnOk X.prog X.w X.K X.mg X.base CX k f fd ps sp) (hr : Room k X.A) (hb : Binds X.K fd ps []) (hx : Passes CX X E) (hc : PySem.W.selfFirst X.K C = true)
    (hs : PySem.W.findIn X.K (.ref C) (PySem.dunder op.info.2) = some (some (.ref f))) (hf : PySem.W.isFn X.K (.ref f) = true) : OpR X (binaryOp op) (rOwn C sp E) := by
  intro pins s σ H x y v u Q I rx ry h
  obtain ⟨a, b, dx, dy, fs, gs, rfl, rfl, ha, hb', h⟩ := h
  cases rx
  cases ry
  obtain ⟨mA, J, _⟩ := ins_get I.hok ha
  obtain ⟨mB, J', _⟩ := ins_get I.hok hb'
  obtain ⟨od, J, _⟩ := J.look
  obtain ⟨od', J', _⟩ := J'.look
  obtain ⟨m, hF⟩ := I.fr
  refine PySem.W.binop_K hF I.ok.mod.kin J J'.type hc hs hf ?_
  exact wpAny_mono (run_fn (us := [.ref a, .ref b]) (vs := [.ref a, .ref b]) F hr hb .nil hx I (.cons rfl (.cons rfl .nil)) h) (fun r s' q => cmp_back q) fun _ _ e => e
theorem un_own (F : FnOk X.prog X.w X.K X.mg X.base CX k f fd ps sp) (hr : Room k X.A) (hb : Binds X.K fd ps []) (hx : Passes CX X E)
    (hs : PySem.W.findIn X.K (.ref C) "__neg__" = some (some (.ref f))) (hf : PySem.W.isFn X.K (.ref f) = true) : UnR X (unaryOp .USub) (rOwn1 C sp E) := by
  intro pins s σ H x v Q I rx h
  obtain ⟨a, dx, fs, rfl, ha, h⟩ := h
  cases rx
  obtain ⟨mA, J, _⟩ := ins_get I.hok ha
  obtain ⟨od, J, _⟩ := J.look
  obtain ⟨m, hF⟩ := I.fr
  refine PySem.W.ksp_neg hF I.ok.mod.kin J hs hf ?_
  exact run_fn (us := [.ref a]) (vs := [.ref a]) F hr hb .nil hx I (.cons rfl .nil) h
end
section
variable {R : Rs} {Γ : Gm R} {sl sl' : List SV} {tm : List (V × D)} {ow : List (Addr × MO)} {g : R.α} {σ σ' : L2.St} {H H' : Hp} {ι : Type} {X : ι → Cx} {E : XK}
/-- x op y, both of the class at C, by a def F -/
def fOwn (C : Addr) (F : R.α → List D → Rr R.α D) (a b : FE R) : FE R := fun sl g => (a sl g).bind fun x g => (b sl g).bind fun y g => match x, y with
  | .obj C1 fs, .obj C2 gs => if C1 = C ∧ C2 = C then F g [.obj C1 fs, .obj C2 gs] else .bad
  | _, _ => .bad
def fOwn1 (C : Addr) (F : R.α → List D → Rr R.α D) (a : FE R) : FE R := fun sl g => (a sl g).bind fun x g => match x with
  | .obj C1 fs => if C1 = C then F g [.obj C1 fs] else .bad
  | _ => .bad
theorem ed_own {C : Addr} {F : FF R} {e : Expr} {a b : Expr} {fa fb : FE R} (ha : ED X E Γ a fa) (hb : ED X E Γ b fb)
    (pe : ∀ {ta tb} j, PE (X j) a ta → PE (X j) b tb → PE (X j) e (tOp (rOwn C (spD R Γ.K 2 F) E) ta tb)) : ED X E Γ e (fOwn C (F Γ.ix) fa fb) := by
  obtain ⟨ta, pa, sa⟩ := ha
  obtain ⟨tb, pb, sb⟩ := hb
  refine ⟨_, fun j => pe j (pa j) (pb j), fun sl tm ow g σ H Q S h => ?_⟩
  unfold fOwn at h
  refine sa sl tm ow g σ H _ S ?_
  cases ea : fa sl g with
  | bad => rw [ea] at h; exact h
  | err C fs g1 => rw [ea] at h; exact h
  | ok x g1 =>
    rw [ea] at h
    intro v H1 S1 d1
    refine sb sl ((v, x) :: tm) ow g1 σ H1 _ (S1.push d1) ?_
    dsimp only [bind_ok] at h
    cases eb : fb sl g1 with
    | bad => rw [eb] at h; exact h
    | err C fs g2 => rw [eb] at h; exact fun y H2 S2 x2 => h y H2 S2.pop x2
    | ok y g2 =>
      rw [eb] at h
      dsimp only [bind_ok] at h
      intro u H2 S2 d2
      have d1' := S2.top
      cases d1' with
      | obj h1 n1 f1 =>
        cases d2 with
        | obj h2 n2 f2 =>
          dsimp only at h
          rename_i a1 C1 dx1 xs1 ds1 a2 C2 dx2 xs2 ds2
          by_cases c : C1 = C ∧ C2 = C
          · rw [if_pos c] at h
            obtain ⟨rfl, rfl⟩ := c
            refine ⟨_, _, _, _, _, _, rfl, rfl, h1, h2, ?_⟩
            exact spD_call S2.pop (.cons S2.top (.cons (.obj h2 n2 f2) .nil)) rfl h
          · rw [if_neg c] at h
            exact h.elim
        | _ => exact h.elim
      | _ => cases d2 <;> exact h.elim
theorem ed_own1 {C : Addr} {F : FF R} {e : Expr} {a : Expr} {fa : FE R} (ha : ED X E Γ a fa)
    (pe : ∀ {ta} j, PE (X j) a ta → PE (X j) e (tUn (rOwn1 C (spD R Γ.K 1 F) E) ta)) : ED X E Γ e (fOwn1 C (F Γ.ix) fa) := by
  obtain ⟨ta, pa, sa⟩ := ha
  refine ⟨_, fun j => pe j (pa j), fun sl tm ow g σ H Q S h => ?_⟩
  unfold fOwn1 at h
  refine sa sl tm ow g σ H _ S ?_
  cases ea : fa sl g with
  | bad => rw [ea] at h; exact h
  | err C fs g1 => rw [ea] at h; exact h
  | ok x g1 =>
    rw [ea] at h
    intro v H1 S1 d1
    dsimp only [bind_ok] at h
    cases d1 with
    | obj h1 n1 f1 =>
      dsimp only at h
      rename_i a1 C1 dx1 xs1 ds1
      by_cases c : C1 = C
      · rw [if_pos c] at h
        subst c
        exact ⟨_, _, _, rfl, h1, spD_call S1 (.cons (.obj h1 n1 f1) .nil) rfl h⟩
      · rw [if_neg c] at h
        exact h.elim
    | _ => exact h.elim
/-! ## x in xs -/
def inP (x y : D) : Option D := match toPy x, toPy y with
  | some d, some (.list ds) => if SeqAt.shaped d = true ∧ SeqAt.shaped (.list ds) = true then some (.bl (ds.any fun z => PyData.eqv z d)) else none
  | _, _ => none
theorem s_inP : OpS Γ (rInD Γ.K) inP := by
  intro sl tm ow g σ H x y d e z Q S dx dy eo k
  unfold inP at eo
  cases e1 : toPy d with
  | none => rw [e1] at eo; cases eo
  | some p =>
    cases e2 : toPy e with
    | none => rw [e1, e2] at eo; cases eo
    | some q =>
      rw [e1, e2] at eo
      cases q with
      | list ds =>
        dsimp only at eo
        split at eo
        · rename_i c
          cases eo
          exact ⟨p, ds, dp_of dx e1, dp_of dy e2, c.1, c.2, k _ _ S (fun _ _ e => e) (.bl _)⟩
        · cases eo
      | _ => cases eo
end
end DL

set_option maxHeartbeats 4000000
namespace DL
open PySem PySem.Spec PyProof.Rows L2
/-! ## sorted of tuples of equally many ints -/
def lexL : List Int → List Int → Bool
  | x :: xs, y :: ys => if x = y then lexL xs ys else decide (x < y)
  | [], _ :: _ => true
  | _, [] => false
theorem lexL_irr : ∀ xs : List Int, lexL xs xs = false
  | [] => rfl
  | x :: xs => by unfold lexL; rw [if_pos rfl, lexL_irr xs]
theorem lexL_tri : ∀ xs ys : List Int, lexL xs ys = false → lexL ys xs = false → xs = ys
  | [], [], _, _ => rfl
  | [], _ :: _, h, _ => by cases h
  | _ :: _, [], _, h => by cases h
  | x :: xs, y :: ys, h1, h2 => by
    unfold lexL at h1 h2
    by_cases e : x = y
    · subst e
      rw [if_pos rfl] at h1 h2
      rw [lexL_tri xs ys h1 h2]
    · rw [if_neg e] at h1
      rw [if_neg fun z => e z.symm] at h2
      have a := of_decide_eq_false h1
      have b := of_decide_eq_false h2
      omega
theorem lexL_asym : ∀ xs ys : List Int, lexL xs ys = true → lexL ys xs = false
  | [], [], h => by cases h
  | [], _ :: _, _ => rfl
  | _ :: _, [], h => by cases h
  | x :: xs, y :: ys, h => by
    unfold lexL at h ⊢
    by_cases e : x = y
    · subst e
      rw [if_pos rfl] at h ⊢
      exact lexL_asym xs ys h
    · rw [if_neg e] at h
      rw [if_neg fun z => e z.symm]
      have a := of_decide_eq_true h
      exact decide_eq_false (by omega)
theorem lexL_trans : ∀ xs ys zs : List Int, lexL ys xs = false → lexL zs ys = false → lexL zs xs = false
  | [], _, zs, h1, h2 => by cases zs <;> rfl
  | x :: xs, [], _, h1, _ => by cases h1
  | x :: xs, y :: ys, [], _, h2 => by cases h2
  | x :: xs, y :: ys, z :: zs, h1, h2 => by
    unfold lexL at h1 h2 ⊢
    by_cases e1 : y = x
    · subst e1
      rw [if_pos rfl] at h1
      by_cases e2 : z = y
      · subst e2
        rw [if_pos rfl] at h2 ⊢
        exact lexL_trans xs ys zs h1 h2
      · rw [if_neg e2] at h2 ⊢
        exact h2
    · rw [if_neg e1] at h1
      have a := of_decide_eq_false h1
      by_cases e2 : z = y
      · subst e2
        rw [if_neg e1]
        exact h1
      · rw [if_neg e2] at h2
        have b := of_decide_eq_false h2
        rw [if_neg (by omega)]
        exact decide_eq_false (by omega)
theorem swo_lexL {α : Type} (k : α → List Int) : SrtO.Swo fun v u => lexL (k v) (k u) := ⟨fun x y => lexL_asym _ _, fun x y z => lexL_trans _ _ _⟩
def IsInts (h : Heap) (v : Value) (xs : List Int) : Prop := ∃ a o us n, v = .ref a ∧ h.get? a = some o ∧ o.cls = .type "tuple" ∧ o.data = .seq us n ∧ L2.Vals (xs.map V.int) us.toList
theorem IsInts.keeps {h h' : Heap} {v : Value} {xs : List Int} (p : IsInts h v xs) (k : ∀ b o, h.get? b = some o → o.cls = .type "tuple" → h'.get? b = some o) : IsInts h' v xs := by
  obtain ⟨a, o, us, n, e, ho, hc, hd, r⟩ := p
  exact ⟨a, o, us, n, e, k _ _ ho hc, hc, hd, r⟩
section
variable {prog : Program} {w : World} {A : Around} {E : Value → Shared → Prop} {s : Shared}
theorem kat_ints : ∀ (xs ys : List Int) (us ws : List Value) (i : Nat), L2.Vals (xs.map V.int) us → L2.Vals (ys.map V.int) ws → xs.length = ys.length → PySem.W.KatLex prog w A true false (fun r s' => s' = s ∧ r = lexL xs ys) (us.zip ws) i s
  | [], [], _, _, i, .nil, .nil, _ => PySem.W.kat_nil ⟨rfl, rfl⟩
  | x :: xs, y :: ys, _, _, i, .cons r t, .cons r' t', hl => by
    obtain ⟨tx, rfl⟩ := r
    obtain ⟨ty, rfl⟩ := r'
    refine PySem.W.kat_cons (SeqAt.EqAt.int_int x tx y ty prog w _ _ ?_)
    refine PySem.W.kat_go (fun e1 => ?_) (fun e1 => ?_)
    · have ex : x = y := by simpa using e1
      refine PySem.W.kat_yes ?_
      have := kat_ints xs ys _ _ (i + 1) t t' (by simpa using hl)
      unfold lexL
      rw [if_pos ex]
      exact this
    · have ex : ¬ x = y := by simpa using e1
      refine PySem.W.kat_no (TS.oneLt_ints _ ⟨rfl, ?_⟩)
      unfold lexL
      rw [if_neg ex]
theorem ints_cmp {vs : List Value} {k : Value → List Int} {n : Nat} (hp : ∀ v ∈ vs, IsInts s.heap v (k v)) (hl : ∀ v ∈ vs, (k v).length = n) : SrtO.Cmp prog w A s (tuples' true) (fun p => p.1 ∈ vs) (SrtO.lt2 fun v u => lexL (k v) (k u)) := by
  intro p q hm hm'
  have h1 := hp _ hm
  have h2 := hp _ hm'
  have l1 := hl _ hm
  have l2 := hl _ hm'
  show wpAny (model prog w) A (keyLt' (tuples' true) p.1 q.1) (fun r s' => s' = s ∧ r = lexL (k p.1) (k q.1)) (fun _ _ => False) s
  generalize k p.1 = xs at h1 l1 ⊢
  generalize k q.1 = ys at h2 l2 ⊢
  obtain ⟨a, o, us, m, e, ho, hc, hd, r⟩ := h1
  obtain ⟨a', o', us', m', e', ho', hc', hd', r'⟩ := h2
  rw [e, e']
  refine PySem.W.kat_lt ho hd ho' hd' ?_
  have hz : us.size = us'.size := by
    have z1 := r.length
    have z2 := r'.length
    rw [List.length_map] at z1 z2
    rw [← Array.length_toList, ← Array.length_toList]
    omega
  rw [show (decide (us.size < us'.size)) = false from decide_eq_false (by omega)]
  exact kat_ints _ _ _ _ 0 r r' (by rw [l1, l2])
theorem firsts_ints {h : Heap} : ∀ {vs : List Value}, (∀ v ∈ vs, ∃ xs, IsInts h v xs ∧ xs ≠ []) → ∃ fs : List Value, PySem.W.KatTups h vs fs ∧ fs.length = vs.length ∧ ∀ f ∈ fs, ∃ x t, f = Value.int x t
  | [], _ => ⟨[], PySem.W.KatTups.nil, rfl, fun _ hm => by simp at hm⟩
  | v :: vs, hp => by
    obtain ⟨fs, h1, h2, h3⟩ := firsts_ints (vs := vs) fun v' hm => hp v' (List.mem_cons_of_mem _ hm)
    obtain ⟨xs, ⟨a, o, us, n, rfl, ho, hc, hd, r⟩, ne⟩ := hp v List.mem_cons_self
    cases xs with
    | nil => exact absurd rfl ne
    | cons x xs =>
      obtain ⟨u, eu, ru⟩ := r.get (i := 0) (x := V.int x) rfl
      obtain ⟨t, rfl⟩ := ru
      refine ⟨Value.int x t :: fs, PySem.W.KatTups.cons ho hc hd (by simpa using eu) h1, by simp [h2], fun f hm => ?_⟩
      rcases List.mem_cons.mp hm with rfl | hm
      · exact ⟨x, t, rfl⟩
      · exact h3 f hm
theorem ints_sortable {a : Addr} {vs : List Value} {k : Value → List Int} {n : Nat} (h0 : 0 < vs.length) (hn : 0 < n) (hp : ∀ v ∈ vs, IsInts s.heap v (k v)) (hl : ∀ v ∈ vs, (k v).length = n) (ha : ∀ o, s.heap.get? a = some o → o.cls ≠ .type "tuple") : SrtO.SortableO prog w A s a vs fun v u => lexL (k v) (k u) := by
  intro h' keep
  have hp' : ∀ v ∈ vs, IsInts h' v (k v) := fun v hm => (hp v hm).keeps fun b o e c => keep b o (fun z => by subst z; exact ha o e c) e
  obtain ⟨fs, h1, h2, h3⟩ := firsts_ints fun v hm => ⟨_, hp' v hm, fun z => by have := hl v hm; rw [z] at this; simp at this; omega⟩
  refine ⟨tuples' true, fun Q E hq => ?_, ints_cmp hp' hl⟩
  refine PySem.W.kat_kind (T := .type "int") h1 (by omega) (fun f hm => ?_) (by rfl) ?_
  · obtain ⟨x, t, rfl⟩ := h3 f hm
    exact PySem.W.Looks.now
  · have e : (Value.type "int" != Value.type "tuple") = true := by first | decide +kernel | rfl | decide
    rw [e]
    exact hq
theorem sorted_ints {l : Addr} {vs : List Value} {k : Value → List Int} {n : Nat} {Q : Value → Shared → Prop} (hl : s.heap.IsList l vs.toArray) (hz : vs.length ≤ sizeLine) (hn : 0 < n) (hp : ∀ v ∈ vs, IsInts s.heap v (k v)) (hk : ∀ v ∈ vs, (k v).length = n)
    (h : ∀ (h' : Heap) (d : Addr) (out : List Value), SrtO.Srtd (fun v u => lexL (k v) (k u)) out → SrtO.Stb (fun v u => lexL (k v) (k u)) out vs → (∀ b o, s.heap.get? b = some o → h'.get? b = some o) → s.heap.objs.size ≤ d → (∃ n, h'.get? d = some (seqObj "list" out.toArray n)) → Q (.ref d) { s with heap := h' }) :
    wpAny (model prog w) A (call (.builtin "sorted") [.ref l]) Q E s := by
  refine SrtO.sorted_ord (swo_lexL k) hl hz (fun h2 h₁ a ha kk => ?_) fun out hs hb => ?_
  · refine ints_sortable (s := { s with heap := h₁ }) (by omega) hn (fun v hm => (hp v hm).keeps fun b o e _ => (kk b o e).2) hk fun o e => ?_
    have e' : some o = some (seqObj "list" vs.toArray 0) := e.symm.trans ha
    cases e'
    intro c
    exact absurd (Value.type.inj c) (by decide)
  · exact h _ _ out hs hb (fun b o e => PyProof.Rows.sortedAll_old e) (Nat.le_succ _) (PyProof.Rows.sortedAll_at s.heap vs out.toArray)
end
/-- sorted(xs), xs a list of tuples of n ints each, of any length -/
def rSortedT (K : PySem.W.Frag) : List V → Hp → VK → Prop := fun vs H Q => ∃ (a : Addr) (xs : List V) (k : V → List Int) (n : Nat), vs = [V.ref a] ∧ SqL K H a xs ∧ 0 < n ∧ (∀ x ∈ xs, ∃ t, x = V.ref t ∧ H t = some (.tup ((k x).map V.int)) ∧ (k x).length = n) ∧
  ∀ ys p, SrtO.Srtd (fun v u => lexL (k v) (k u)) ys → ys.Perm xs → H p = none → Q (.ref p) (upd H p (.lst ys))
section
variable {X : Cx}
theorem cr_sortedT : CallR X (.builtin "sorted") (rSortedT X.K) := by
  intro pins s σ H vs us Q I r h
  obtain ⟨a, xs, k, n, rfl, hs, hn, hx, q⟩ := h
  obtain ⟨its, rv, hl, hz⟩ := I.list hs
  obtain ⟨u, rfl, ru⟩ := vals1 r
  obtain rfl : u = Value.ref a := ru
  obtain ⟨e1, e2⟩ := refs_back rv fun x m => by
    obtain ⟨t, e, _⟩ := hx x m
    exact ⟨t, e⟩
  have hm : ∀ t, Value.ref t ∈ its → V.ref t ∈ xs := fun t hv => by rw [e1]; exact List.mem_map.mpr ⟨_, hv, rfl⟩
  refine sorted_ints (k := fun u => k (backV u)) (n := n) hl.isList (by rw [← rv.length]; exact hz) hn (fun v hv => ?_) (fun v hv => ?_) fun h' d out h1 h2 kp hd hn => ?_
  · obtain ⟨t, rfl⟩ := e2 v hv
    obtain ⟨t', e, ht, _⟩ := hx _ (hm t hv)
    cases e
    obtain ⟨_, its2, r2, o, ho, hc, n, hd⟩ := I.hok _ _ ht
    exact ⟨t, o, _, n, rfl, ho, hc, hd, by show L2.Vals ((k (V.ref t)).map V.int) _; simpa using r2⟩
  · obtain ⟨t, rfl⟩ := e2 v hv
    obtain ⟨t', e, _, hk⟩ := hx _ (hm t hv)
    exact hk
  · have h3 : ∀ u ∈ out, ∃ a, u = Value.ref a := fun u hu => e2 u (h2.perm.mem_iff.mp hu)
    obtain ⟨n, hn⟩ := hn
    have hb : (out.map backV).Perm xs := by
      rw [e1]
      exact h2.perm.map backV
    refine ⟨.ref d, upd H d (.lst (out.map backV)), I.laid (t' := s.toks) kp hd ⟨?_, out, n, vals_back h3, hn⟩, rfl, q _ d (SrtO.srtd_map h1) hb (I.hok.fresh hd)⟩
    rw [hb.length_eq]
    exact hz
end
end DL

set_option maxHeartbeats 4000000
namespace DL
open PySem PySem.Spec PyProof.Rows L2
def SrtL (l : List (List Int)) : Prop := l.Pairwise fun x y => lexL y x = false
theorem srt_uniq : ∀ {l m : List (List Int)}, SrtL l → SrtL m → l.Perm m → l = m
  | [], m, _, _, h => (List.Perm.eq_nil h.symm).symm
  | x :: l, [], _, _, h => absurd h.length_eq (by simp)
  | x :: l, y :: m, hl, hm, h => by
    have h1 : lexL x y = false := by
      rcases List.mem_cons.mp (h.mem_iff.mp (List.mem_cons_self (a := x) (l := l))) with e | hx
      · rw [e]; exact lexL_irr y
      · exact (List.pairwise_cons.mp hm).1 x hx
    have h2 : lexL y x = false := by
      rcases List.mem_cons.mp (h.mem_iff.mpr (List.mem_cons_self (a := y) (l := m))) with e | hy
      · rw [e]; exact lexL_irr x
      · exact (List.pairwise_cons.mp hl).1 y hy
    have e := lexL_tri x y h1 h2
    subst e
    rw [srt_uniq (List.pairwise_cons.mp hl).2 (List.pairwise_cons.mp hm).2 h.cons_inv]
def sortK (l : List (List Int)) : List (List Int) := l.mergeSort fun a b => !lexL b a
theorem sortK_perm (l : List (List Int)) : (sortK l).Perm l := List.mergeSort_perm _ _
theorem sortK_srt (l : List (List Int)) : SrtL (sortK l) := by
  have := List.pairwise_mergeSort (le := fun a b => !lexL b a) (fun a b c h1 h2 => ?_) (fun a b => ?_) l
  · exact this.imp fun {a b} h => by simpa using h
  · simp only [Bool.not_eq_true'] at h1 h2 ⊢
    exact lexL_trans a b c h1 h2
  · cases q : lexL b a with
    | false => rfl
    | true => rw [lexL_asym b a q]; rfl
def tupI (k : List Int) : D := .tup (k.map .int)
def keyD : D → Option (List Int)
  | .tup ds => intL ds
  | _ => none
def keysD : List D → Option (List (List Int))
  | [] => some []
  | d :: r => match keyD d, keysD r with
    | some k, some ks => some (k :: ks)
    | _, _ => none
def sameLen : List (List Int) → Bool
  | [] => true
  | k :: r => decide (0 < k.length) && r.all fun q => decide (q.length = k.length)
/-- sorted(xs): all tuples of n ints, n the first one's -/
def sortedD : List D → Option D
  | [.lst a] => match keysD a with
    | some ks => if sameLen ks = true then some (.lst ((sortK ks).map tupI)) else none
    | none => none
  | _ => none
def kOf (H : Hp) (v : V) : List Int := match v with
  | .ref t => match H t with
    | some (.tup us) => us.map fun u => match u with
      | .int i => i
      | _ => 0
    | _ => []
  | _ => []
section
variable {K : PySem.W.Frag} {av : Addr → Prop} {H : Hp}
theorem intL_vals : ∀ {vs : List V} {ds : List D} {is : List Int}, DtAll K av H vs ds → intL ds = some is → vs = is.map V.int ∧ ds = is.map D.int
  | _, _, _, .nil, e => by cases e; exact ⟨rfl, rfl⟩
  | _, _, _, .cons (d := d) (ds := r) a t, e => by
    cases a with
    | int i =>
      unfold intL at e
      cases q : intL r with
      | none => rw [q] at e; cases e
      | some js =>
        rw [q] at e
        cases e
        obtain ⟨h1, h2⟩ := intL_vals t q
        rw [h1, h2]
        exact ⟨rfl, rfl⟩
    | _ => cases e
theorem kOf_tup {t : Addr} {is : List Int} (h : H t = some (.tup (is.map V.int))) : kOf H (.ref t) = is := by
  unfold kOf
  simp only [h, List.map_map]
  conv => rhs; rw [← List.map_id is]
  rfl
theorem key_ok {v : V} {d : D} {is : List Int} (h : Dt K av H v d) (e : keyD d = some is) : d = tupI is ∧ ∃ t, v = .ref t ∧ H t = some (.tup (is.map V.int)) ∧ kOf H v = is := by
  cases h with
  | tup h r =>
    obtain ⟨h1, h2⟩ := intL_vals r e
    subst h1
    subst h2
    exact ⟨rfl, _, rfl, h.1, kOf_tup h.1⟩
  | _ => cases e
theorem keys_ok : ∀ {vs : List V} {ds : List D} {ks : List (List Int)}, DtAll K av H vs ds → keysD ds = some ks → vs.map (kOf H) = ks ∧ (∀ v ∈ vs, ∃ t, v = .ref t ∧ H t = some (.tup ((kOf H v).map V.int)) ∧ Dt K av H v (tupI (kOf H v)))
  | _, _, _, .nil, e => by cases e; exact ⟨rfl, fun _ m => nomatch m⟩
  | _, _, _, .cons (d := d) (ds := r) a t, e => by
    unfold keysD at e
    cases q1 : keyD d with
    | none => rw [q1] at e; cases e
    | some k =>
      cases q2 : keysD r with
      | none => rw [q1, q2] at e; cases e
      | some ks =>
        rw [q1, q2] at e
        cases e
        obtain ⟨e1, t', ev, ht, ek⟩ := key_ok a q1
        obtain ⟨i1, i2⟩ := keys_ok t q2
        subst e1
        refine ⟨by rw [List.map_cons, ek, i1], fun v m => ?_⟩
        rcases List.mem_cons.mp m with rfl | m
        · rw [ek]
          exact ⟨t', ev, ht, a⟩
        · exact i2 v m
theorem dtAll_of : ∀ {vs : List V}, (∀ v ∈ vs, Dt K av H v (tupI (kOf H v))) → DtAll K av H vs (vs.map fun v => tupI (kOf H v))
  | [], _ => .nil
  | v :: vs, h => .cons (h v List.mem_cons_self) (dtAll_of fun x m => h x (List.mem_cons_of_mem _ m))
end
section
variable {R : Rs} {Γ : Gm R}
theorem s_sortedT : CallS Γ (rSortedT Γ.K) sortedD := by
  intro sl tm ow g σ H xs ds z Q S dx eo k
  cases dx with
  | nil => cases eo
  | cons d1 d2 =>
    cases d2 with
    | cons => cases d1 <;> cases eo
    | nil =>
      cases d1 <;> first | (cases eo; done) | skip
      rename_i h r
      simp only [sortedD] at eo
      cases q : keysD _ with
      | none => rw [q] at eo; cases eo
      | some ks =>
        rw [q] at eo
        dsimp only at eo
        split at eo
        · rename_i hc
          cases eo
          obtain ⟨e1, al⟩ := keys_ok r q
          rename_i a vs l
          obtain ⟨n, hn, hlen⟩ : ∃ n, 0 < n ∧ ∀ k ∈ ks, k.length = n := by
            cases ks with
            | nil => exact ⟨1, by decide, fun _ m => nomatch m⟩
            | cons k0 kr =>
              unfold sameLen at hc
              simp only [Bool.and_eq_true, decide_eq_true_eq, List.all_eq_true] at hc
              exact ⟨k0.length, hc.1, fun k m => by
                rcases List.mem_cons.mp m with rfl | m
                · rfl
                · exact hc.2 k m⟩
          refine ⟨a, vs, kOf H, n, rfl, h.seq, hn, fun x m => ?_, fun ys p hs hp hq => ?_⟩
          · obtain ⟨t, e, ht, _⟩ := al x m
            exact ⟨t, e, ht, hlen _ (by rw [← e1]; exact List.mem_map_of_mem m)⟩
          · have e2 : ys.map (kOf H) = sortK ks := by
              refine srt_uniq (List.pairwise_map.mpr hs) (sortK_srt _) ?_
              rw [← e1]
              exact (hp.map _).trans (sortK_perm _).symm
            have dA : DtAll Γ.K (Γ.av sl ow σ) H ys ((sortK ks).map tupI) := by
              rw [← e2, List.map_map]
              exact dtAll_of fun v m => (al v (hp.mem_iff.mp m)).elim fun t q => q.2.2
            have S2 := S.newL dA hq
            exact k _ _ S2.pop (upd_keep hq) S2.top
        · cases eo
end
end DL

set_option maxHeartbeats 4000000
namespace DL
open PySem PySem.Spec PyProof.Rows L2
/-! ## new lists: an expression whose value is a list of its own -/
section
variable {R : Rs} (Γ : Gm R)
def OkN (sl : List SV) (tm : List (V × D)) (ow : List (Addr × MO)) (σ : L2.St) (E : XK) (Q : VK) : Rr R.α (List D) → Prop
  | .ok l g => ∀ p vs H, SRel Γ sl tm ow g σ H → H p = none → DtAll Γ.K (Γ.av sl ow σ) H vs l → Q (.ref p) (upd H p (.lst vs))
  | .err C fs g => OkX Γ sl tm ow σ E C fs g
  | .bad => False
def EN {ι : Type} (X : ι → Cx) (E : XK) (e : Expr) (f : FA R) : Prop := ∃ te, (∀ j, PE (X j) e te) ∧ ∀ sl tm ow g σ H Q, SRel Γ sl tm ow g σ H → OkN Γ sl tm ow σ E Q (f sl g) → te σ H Q
def CallN (r : List V → Hp → VK → Prop) (o : List D → Option (List D)) : Prop := ∀ sl tm ow g σ H xs ds z Q, SRel Γ sl tm ow g σ H → DtAll Γ.K (Γ.av sl ow σ) H xs ds → o ds = some z →
  (∀ p vs, H p = none → DtAll Γ.K (Γ.av sl ow σ) H vs z → Q (.ref p) (upd H p (.lst vs))) → r xs H Q
def OkRN (tm : List (V × D)) (ow : List (Addr × MO)) (E : XK) (Dn : Ends) : Rr R.α (List D) → Prop
  | .ok l g => ∀ p vs H, RRel Γ g H → Γ.H0 p = none → H p = none → DtAll Γ.K Γ.avR H vs l → Dn.rt (.ref p) (upd H p (.lst vs))
  | .err C fs g => ∀ x H, RRel Γ g H → XAt Γ.K Γ.avR H x fs → E (.ref C) x H
  | .bad => False
def ESsN {ι : Type} (X : ι → Cx) (E : XK) (st : List Stmt) (f : FA R) : Prop := ∃ t, (∀ j, PSs (X j) st t) ∧ ∀ sl tm ow g σ H Dn, SRel Γ sl tm ow g σ H → OkRN Γ tm ow E Dn (f sl g) → t Dn σ H
end
abbrev FFN (R : Rs) := R.ix → R.α → List D → Rr R.α (List D)
/-- a def that returns a list of its own -/
def spN (R : Rs) (K : PySem.W.Frag) (n : Nat) (F : FFN R) : Sp := fun vs H Q E => vs.length = n ∧ ∃ (ix : R.ix) (av : Addr → Prop) (g : R.α) (ds : List D), (∀ a, av a → H a ≠ none) ∧ R.G K ix g av H ∧ DtAll K (fun a => R.mu ix a ∨ av a) H vs ds ∧
  (match F ix g ds with
  | .ok l g' => ∀ p vs' H', (∀ b o, H b = some o → ¬ R.mu ix b → H' b = some o) → R.G K ix g' av H' → H p = none → H' p = none → DtAll K (fun a => R.mu ix a ∨ av a) H' vs' l → Q (.ref p) (upd H' p (.lst vs'))
  | .err C fs g' => ∀ x H', (∀ b o, H b = some o → ¬ R.mu ix b → H' b = some o) → R.G K ix g' av H' → XAt K (fun a => R.mu ix a ∨ av a) H' x fs → E (.ref C) x H'
  | .bad => False)
section
variable {R : Rs} {Γ : Gm R} {sl sl' : List SV} {tm : List (V × D)} {ow : List (Addr × MO)} {g : R.α} {σ σ' : L2.St} {H H' : Hp} {ι : Type} {X : ι → Cx} {E : XK}
theorem spN_call {n : Nat} {F : FFN R} {vs : List V} {ds : List D} {Q : VK} (S : SRel Γ sl tm ow g σ H) (d : DtAll Γ.K (Γ.av sl ow σ) H vs ds) (hn : ds.length = n) (h : OkN Γ sl tm ow σ E Q (F Γ.ix g ds)) : spN R Γ.K n F vs H Q E := by
  refine ⟨d.length.trans hn, Γ.ix, Γ.avG sl ow σ, g, ds, S.dom, S.res, d, ?_⟩
  cases e : F Γ.ix g ds with
  | bad => rw [e] at h; exact h
  | ok x g' => rw [e] at h; exact fun p vs' H' k hG _ hp' dA => h p vs' H' (S.called k hG) hp' dA
  | err C fs g' => rw [e] at h; exact fun v H' k hG dv => h v H' (S.called k hG) dv
def fCallN (n : Nat) (F : R.α → List D → Rr R.α (List D)) (dds : List D) (fa : FA R) : FA R := fun sl g => (fa sl g).bind fun ds g => if (ds ++ dds).length = n then F g (ds ++ dds) else .bad
theorem en_call {n : Nat} {F : FFN R} {e : Expr} {es : List Expr} {p pos : Pos} {x : Str} {fa : FA R} {dvs : List V} {dds : List D} (ha : EA X E Γ (e :: es) fa) (pe : ∀ {ta} j, PA (X j) (e :: es) ta → PE (X j) (.Call (.Name x p) (e :: es) [] pos) (tCall (spN R Γ.K n F) dvs E ta))
    (hdd : ∀ av H, DtAll Γ.K av H dvs dds := by intro _ _; exact .nil) : EN Γ X E (.Call (.Name x p) (e :: es) [] pos) (fCallN n (F Γ.ix) dds fa) := by
  obtain ⟨ta, pa, sa⟩ := ha
  refine ⟨_, fun j => pe j (pa j), fun sl tm ow g σ H Q S h => ?_⟩
  unfold fCallN at h
  refine sa sl tm ow g σ H _ S ?_
  cases e1 : fa sl g with
  | bad => rw [e1] at h; exact h
  | err C fs g' => rw [e1] at h; exact h
  | ok ds g' =>
    rw [e1] at h
    dsimp only [bind_ok] at h
    intro vs H1 S1 d1
    by_cases hn : (ds ++ dds).length = n
    · rw [if_pos hn] at h
      exact spN_call S1 (d1.app (hdd _ _)) hn h
    · rw [if_neg hn] at h
      exact h.elim
def fCallLN (o : List D → Option (List D)) (fa : FA R) : FA R := fun sl g => (fa sl g).bind fun ds g => match o ds with
  | some z => .ok z g
  | none => .bad
theorem en_callL {r : List V → Hp → VK → Prop} {o : List D → Option (List D)} {e : Expr} {es : List Expr} {p pos : Pos} {x : Str} {fa : FA R} (ha : EA X E Γ (e :: es) fa) (so : CallN Γ r o)
    (pe : ∀ {ta} j, PA (X j) (e :: es) ta → PE (X j) (.Call (.Name x p) (e :: es) [] pos) (tCB r ta)) : EN Γ X E (.Call (.Name x p) (e :: es) [] pos) (fCallLN o fa) := by
  obtain ⟨ta, pa, sa⟩ := ha
  refine ⟨_, fun j => pe j (pa j), fun sl tm ow g σ H Q S h => ?_⟩
  unfold fCallLN at h
  refine sa sl tm ow g σ H _ S ?_
  cases e1 : fa sl g with
  | bad => rw [e1] at h; exact h
  | err C fs g' => rw [e1] at h; exact h
  | ok ds g' =>
    rw [e1] at h
    dsimp only [bind_ok] at h
    intro vs H1 S1 d1
    cases eo : o ds with
    | none => rw [eo] at h; exact h.elim
    | some z =>
      rw [eo] at h
      exact so sl tm ow g' σ H1 vs ds z Q S1 d1 eo fun p us hp dA => h p us H1 S1 hp dA
def sortedL : List D → Option (List D)
  | [.lst a] => match keysD a with
    | some ks => if sameLen ks = true then some ((sortK ks).map tupI) else none
    | none => none
  | _ => none
theorem n_sortedT : CallN Γ (rSortedT Γ.K) sortedL := by
  intro sl tm ow g σ H xs ds z Q S dx eo k
  cases dx with
  | nil => cases eo
  | cons d1 d2 =>
    cases d2 with
    | cons => cases d1 <;> cases eo
    | nil =>
      cases d1 <;> first | (cases eo; done) | skip
      rename_i h r
      simp only [sortedL] at eo
      cases q : keysD _ with
      | none => rw [q] at eo; cases eo
      | some ks =>
        rw [q] at eo
        dsimp only at eo
        split at eo
        · rename_i hc
          cases eo
          obtain ⟨e1, al⟩ := keys_ok r q
          rename_i a vs l
          obtain ⟨n, hn, hlen⟩ : ∃ n, 0 < n ∧ ∀ k ∈ ks, k.length = n := by
            cases ks with
            | nil => exact ⟨1, by decide, fun _ m => nomatch m⟩
            | cons k0 kr =>
              unfold sameLen at hc
              simp only [Bool.and_eq_true, decide_eq_true_eq, List.all_eq_true] at hc
              exact ⟨k0.length, hc.1, fun k m => by
                rcases List.mem_cons.mp m with rfl | m
                · rfl
                · exact hc.2 k m⟩
          refine ⟨a, vs, kOf H, n, rfl, h.seq, hn, fun x m => ?_, fun ys p hs hp hq => ?_⟩
          · obtain ⟨t, e, ht, _⟩ := al x m
            exact ⟨t, e, ht, hlen _ (by rw [← e1]; exact List.mem_map_of_mem m)⟩
          · have e2 : ys.map (kOf H) = sortK ks := by
              refine srt_uniq (List.pairwise_map.mpr hs) (sortK_srt _) ?_
              rw [← e1]
              exact (hp.map _).trans (sortK_perm _).symm
            have dA : DtAll Γ.K (Γ.av sl ow σ) H ys ((sortK ks).map tupI) := by
              rw [← e2, List.map_map]
              exact dtAll_of fun v m => (al v (hp.mem_iff.mp m)).elim fun t q => q.2.2
            exact k p ys hq dA
        · cases eo
/-- a new list as data -/
theorem ed_of_en {e : Expr} {f : FA R} (h : EN Γ X E e f) : ED X E Γ e (fun sl g => (f sl g).bind fun l g => .ok (.lst l) g) := by
  obtain ⟨t, p, s⟩ := h
  refine ⟨t, p, fun sl tm ow g σ H Q S h => s sl tm ow g σ H Q S ?_⟩
  dsimp only at h
  cases e1 : f sl g with
  | bad => rw [e1] at h; exact h
  | err C fs g' => rw [e1] at h; exact h
  | ok l g' =>
    rw [e1] at h
    exact fun p vs H' S' hp dA => h _ _ (S'.newL dA hp).pop (S'.newL dA hp).top
/-- x = a new list, to be changed -/
def sSetN (i : Nat) (f : FA R) : FS R := fun sl g => (f sl g).toS fun l g => .nx (sl.set i (.mu (.lst l))) g
theorem es_setN {i : Nat} {x : Str} {e : Expr} {f : FA R} {pos pos' : Pos} (hN : ∀ j, (X j).N.Nodup) (hi : ∀ j, (X j).N[i]? = some x) (hx : ∀ j, Loc (X j).env.scope x) (h : EN Γ X E e f) (hs : ∀ j, swapsWith e (some (.Name x pos')) pos.line (X j).env = pure false := by intro _; rfl)
    (hf : ∀ j, (X j).fn x = true ∨ (X j).env.scope.names.lookup x = some .local := by intro _; first | exact .inl rfl | exact .inr rfl | assumption) : ES X E Γ (.Assign [.Name x pos'] e pos) (sSetN i f) := by
  obtain ⟨t, p, s⟩ := h
  refine ⟨_, fun j => ps_set (hN j) (hi j) (hx j) (p j) (hs j) (hf j), fun sl tm ow g σ H Dn S h => ?_⟩
  refine s sl tm ow g σ H _ S ?_
  unfold sSetN at h
  cases e1 : f sl g with
  | bad => rw [e1] at h; exact h
  | err C fs g' => rw [e1] at h; exact OkX.of h
  | ok l g' =>
    rw [e1] at h
    exact fun p vs H' S' hp dA => h _ _ (S'.setNew hp ⟨vs, upd_same, dA.keep fun b o e n => ⟨upd_keep hp b o e, fun z => by
      rcases z with z | z
      · exact n z
      · exact ne_of_none e hp z⟩⟩)
/-! ### a def that returns a new list -/
theorem fresh0 (S : SRel Γ sl tm ow g σ H) {p : Addr} (hp : H p = none) : Γ.H0 p = none := by
  cases q : Γ.H0 p with
  | none => rfl
  | some u =>
    exfalso
    by_cases hmu : R.mu Γ.ix p
    · exact R.trk S.res hmu hp
    · have := S.frame p u q hmu
      rw [hp] at this
      cases this
theorem essn_ret {e : Expr} {f : FA R} {pos : Pos} (h : EN Γ X E e f) : ESsN Γ X E [.Return (some e) pos] f := by
  obtain ⟨t, p, s⟩ := h
  refine ⟨_, fun j => pss_one (ps_ret (p j)), fun sl tm ow g σ H Dn S h => s sl tm ow g σ H _ S ?_⟩
  cases e1 : f sl g with
  | bad => rw [e1] at h; exact h
  | err C fs g' => rw [e1] at h; exact OkX.of h
  | ok l g' =>
    rw [e1] at h
    exact fun p vs H' S' hp dA => h p vs H' S'.rrel (fresh0 S' hp) hp (dA.keep fun b o e n => ⟨e, fun z => n (av_ret b z)⟩)
def sSeqN (f : FS R) (k : FA R) : FA R := fun sl g => match f sl g with
  | .nx sl g => k sl g
  | .err C fs g => .err C fs g
  | _ => .bad
theorem essn_cons {st : Stmt} {rest : List Stmt} {f : FS R} {k : FA R} (h : ES X E Γ st f) (hr : ESsN Γ X E rest k) : ESsN Γ X E (st :: rest) (sSeqN f k) := by
  obtain ⟨t, p, s⟩ := h
  obtain ⟨u, q, r⟩ := hr
  refine ⟨_, fun j => pss_cons (p j) (q j), fun sl tm ow g σ H Dn S h => ?_⟩
  refine s sl tm ow g σ H _ S ?_
  unfold sSeqN at h
  cases e : f sl g with
  | nx sl' g' => rw [e] at h; exact fun σ' H' S' => r sl' tm ow g' σ' H' Dn S' h
  | err C fs g' => rw [e] at h; exact h
  | rt d g' => rw [e] at h; exact h.elim
  | bk sl' g' => rw [e] at h; exact h.elim
  | ct sl' g' => rw [e] at h; exact h.elim
  | bad => rw [e] at h; exact h.elim
def runN (n : Nat) (fb : R.ix → FA R) : FFN R := fun ix g ds => fb ix (startS n ds) g
theorem fdN_mk {P : Program} {w : World} {K : PySem.W.Frag} {mg : Str → Option Value} {base : Heap} {x qual : Str} {st : Stmt} {f : Addr} {fd : FuncData} {N ps : List Str} {k n : Nat} {fb : R.ix → FA R} (F : Fun K x qual st f fd) (S : FnScope N ps (defScope st)) (hn : N.length = n)
    (hb : ∀ (cdv : Value) (A : Around) (outer : List Env) (s : Shared) (H : Hp) (E : XK) (ix : R.ix) (av : Addr → Prop) (h1 : ∀ a, av a → H a ≠ none) (h2 : ∀ a, R.mu ix a → H a ≠ none), Room k (A.deeper (envOfC qual (defScope st) s.heap.objs.size f cdv)) →
      ESsN (⟨K, 0, ix, av, H, h1, h2⟩ : Gm R) (fun _ : Unit => cxOf (L2.CX P w) P w K mg base N qual (defScope st) f cdv A outer s H E) E (defBody st) (fb ix)) : FnOk P w K mg base (L2.CX P w) (k + 1) f fd ps (spN R K ps.length (runN n fb)) := by
  refine F.okX S (fun vs H Q E h => h.1) fun cdv A outer s H vs Q E hr h => ?_
  obtain ⟨hl, ix, av, g, ds, hav, hG, hd, h⟩ := h
  obtain ⟨t, p, q⟩ := hb cdv A outer s H E ix av hav (fun a z => R.trk hG z) hr
  refine ⟨t, p (), q _ [] [] g _ H _ (start_rel (Γ := ⟨K, 0, ix, av, H, hav, fun a z => R.trk hG z⟩) hn hG hd) ?_⟩
  unfold runN at h
  cases e : fb ix (startS n ds) g with
  | ok l g' => rw [e] at h; exact fun p vs' H' r h0 hp dA => h p vs' H' r.frame r.res h0 hp dA
  | err C fs g' => rw [e] at h; exact fun x H' r dv => h x H' r.frame r.res dv
  | bad => rw [e] at h; exact h
/-! ### a list that is changed, read by a builtin -/
def scal : D → Bool
  | .non => true
  | .bl _ => true
  | .int _ => true
  | .str _ => true
  | _ => false
theorem Dt.scal {K : PySem.W.Frag} {av av' : Addr → Prop} {H : Hp} {v : V} {d : D} (h : Dt K av H v d) (hs : scal d = true) : Dt K av' H v d := by
  cases h <;> first | (cases hs; done) | constructor
def fCallMu (o : List D → Option D) (i : Nat) : FE R := fun sl g => match sl[i]? with
  | some (.mu m) => match o [m.d] with
    | some z => if scal z = true then .ok z g else .bad
    | none => .bad
  | _ => .bad
theorem ed_callMu {i : Nat} {r : List V → Hp → VK → Prop} {o : List D → Option D} {p py pos : Pos} {x y : Str} (hv : ∀ j, PE (X j) (.Name y py) (tVar i)) (so : CallS Γ r o)
    (pe : ∀ {ta} j, PA (X j) [.Name y py] ta → PE (X j) (.Call (.Name x p) [.Name y py] [] pos) (tCB r ta)) : ED X E Γ (.Call (.Name x p) [.Name y py] [] pos) (fCallMu o i) := by
  refine ⟨_, fun j => pe j (pa_cons (hv j) pa_nil), fun sl tm ow g σ H Q S h => ?_⟩
  unfold fCallMu at h
  split at h
  · rename_i m e1
    split at h
    · rename_i z eo
      by_cases hs : scal z = true
      · rw [if_pos hs] at h
        have S2 := S.freeze e1
        obtain ⟨v, e2, dv⟩ := S2.slots i (.dat m.d) (by rw [List.getElem?_set_self (List.getElem?_eq_some_iff.mp e1).1])
        exact ⟨v, e2, so _ tm ow g σ H [v] [m.d] z Q S2 (.cons dv .nil) eo fun w H3 _ k3 d3 => h w H3 (S.ext k3) (d3.scal hs)⟩
      · rw [if_neg hs] at h
        exact h.elim
    · exact h.elim
  · exact h.elim
def sClear (i : Nat) : FS R := fun sl g => match sl[i]? with
  | some (.mu (.lst _)) => .nx (sl.set i (.mu (.lst []))) g
  | _ => .bad
theorem es_clear {i : Nat} {x : Str} {px apos cpos pos : Pos} (hv : ∀ j, PE (X j) (.Name x px) (tVar i))
    (pe : ∀ j, PE (X j) (.Name x px) (tVar i) → PE (X j) (.Call (.Attribute (.Name x px) "clear" apos) [] [] cpos) (tBM0 Γ.K "list" rClear (tVar i)))
    (hs : ∀ j, swapsWith (.Call (.Attribute (.Name x px) "clear" apos) [] [] cpos) none pos.line (X j).env = pure false := by intro _; rfl) : ES X E Γ (.Expr (.Call (.Attribute (.Name x px) "clear" apos) [] [] cpos) pos) (sClear i) := by
  refine ⟨_, fun j => ps_expr (pe j (hv j)) (hs j), fun sl tm ow g σ H Dn S h => ?_⟩
  unfold sClear at h
  split at h
  · rename_i ds e1
    obtain ⟨a, e2, vs, hl, hd⟩ := S.slots i _ e1
    refine ⟨_, e2, .inl ⟨rfl, vs, SqL.of hl⟩, a, vs, rfl, rfl, hl, ?_⟩
    exact h _ _ (S.change e1 e2 ⟨[], upd_same, .nil⟩)
  · exact h.elim
end
end DL

set_option maxHeartbeats 4000000
namespace DL
open PySem PySem.Spec PyProof.Rows L2
/-! ## a def with defaults -/
section
variable {R : Rs} {P : Program} {w : World} {K : PySem.W.Frag} {mg : Str → Option Value} {base : Heap}
theorem fdD_mk {x qual : Str} {st : Stmt} {dvs : List V} {f : Addr} {fd : FuncData} {N ps : List Str} {k n : Nat} {fb : R.ix → FS R} (F : FunD K x qual (defArgs st) (defBody st) (defScope st) dvs [] f fd) (S : FnScope N ps (defScope st)) (hn : N.length = n)
    (hb : ∀ (cdv : Value) (A : Around) (outer : List Env) (s : Shared) (H : Hp) (E : XK) (ix : R.ix) (av : Addr → Prop) (h1 : ∀ a, av a → H a ≠ none) (h2 : ∀ a, R.mu ix a → H a ≠ none), Room k (A.deeper (envOfC qual (defScope st) s.heap.objs.size f cdv)) →
      ESs (fun _ : Unit => cxOf (L2.CX P w) P w K mg base N qual (defScope st) f cdv A outer s H E) E (⟨K, 0, ix, av, H, h1, h2⟩ : Gm R) (defBody st) (fb ix)) : FnOk P w K mg base (L2.CX P w) (k + 1) f fd ps (spD R K ps.length (runF n fb)) := by
  refine F.ok S (fun vs H Q E h => h.1) fun cdv A outer s H vs Q E hr h => ?_
  obtain ⟨hl, ix, av, g, ds, hav, hG, hd, h⟩ := h
  obtain ⟨t, p, q⟩ := hb cdv A outer s H E ix av hav (fun a z => R.trk hG z) hr
  refine ⟨t, p (), q _ [] [] g _ H _ (start_rel (Γ := ⟨K, 0, ix, av, H, hav, fun a z => R.trk hG z⟩) hn hG hd) ?_⟩
  unfold runF Ro.fin at h
  cases e : fb ix (startS n ds) g with
  | nx sl g' => rw [e] at h; exact fun σ' H' S' => h .non H' S'.frame S'.rrel.res .non
  | rt d g' => rw [e] at h; exact fun v H' r dv => h v H' r.frame r.res dv
  | err C fs g' => rw [e] at h; exact fun x H' r dv => h x H' r.frame r.res dv
  | bk sl g' => rw [e] at h; exact h.elim
  | ct sl g' => rw [e] at h; exact h.elim
  | bad => rw [e] at h; exact h
end
/-- a def with defaults at hand: dvs are those that fill up -/
structure LdY (P : Program) (w : World) (K : PySem.W.Frag) (mg : Str → Option Value) (base : Heap) (R : Rs) (nm : Str) (k : Nat) (f : Addr) (fd : FuncData) (ps : List Str) (dvs : List V) (n : Nat) (F : FF R) : Prop where
  G : FnOk P w K mg base (L2.CX P w) k f fd ps (spD R K n F)
  b : ∃ ds, L2.Vals dvs ds ∧ Binds K fd ps ds
  g : mg nm = some (.ref f)
  k : PySem.W.keepIn K (.ref f) = true
/-- a def that returns a new list, at hand -/
structure LdN (P : Program) (w : World) (K : PySem.W.Frag) (mg : Str → Option Value) (base : Heap) (R : Rs) (nm : Str) (k : Nat) (f : Addr) (fd : FuncData) (ps : List Str) (n : Nat) (F : FFN R) : Prop where
  G : FnOk P w K mg base (L2.CX P w) k f fd ps (spN R K n F)
  b : Binds K fd ps []
  g : mg nm = some (.ref f)
  k : PySem.W.keepIn K (.ref f) = true
section
variable {R : Rs} {Γ : Gm R} {ι : Type} {X : ι → Cx} {E : XK}
theorem un65 {k : Nat} {A : Around} (hr : Room k A) : A.units + 65 < cLine := by have := hr.un; omega
/-- an expression that is never evaluated -/
def fNever : FE R := fun _ _ => .bad
theorem pe_any {X : Cx} {e : Expr} : PE X e (fun σ H Q => ∃ t, PE X e t ∧ t σ H Q) := ⟨fun pins s σ H Q I ⟨t, p, q⟩ => p.run pins s σ H Q I q⟩
theorem ed_never {e : Expr} : ED X E Γ e fNever := ⟨fun _ _ _ => False, fun j => ⟨fun pins s σ H Q I h => h.elim⟩, fun sl tm ow g σ H Q S h => h.elim⟩
end
end DL

set_option maxHeartbeats 4000000
namespace DL
open PySem PySem.Spec PyProof.Rows L2
/-! ## list(zip(t, u)) of two tuples -/
section
variable {prog : Program} {w : World} {A : Around} {E : Value → Shared → Prop} {s : Shared}
/-- the pair at T -/
abbrev PairT (h : Heap) (T : Addr) (p : Value × Value) : Prop := IsPair h T p.1 p.2
/-- a step behind a pair that was handed out and is still there -/
theorem zt_step {z TI TO T i1 i2 l1 l2 : Addr} {f : Bool} {oT : Obj} {k : Nat} {xs ys : Array Value} {x y : Value} {Q : Option Value → Shared → Prop} (D : ZipApart z TI TO i1 i2 l1 l2)
    (zz : IsZipHeld s.heap z TI TO T f) (tt : s.heap.get? T = some oT) (pp : IsPair s.heap TI (.ref i1) (.ref i2)) (n1 : s.heap.IsTupleIter i1 l1 k) (n2 : s.heap.IsTupleIter i2 l2 k) (t1 : s.heap.IsTuple l1 xs) (t2 : s.heap.IsTuple l2 ys)
    (ex : xs[k]? = some x) (ey : ys[k]? = some y)
    (q : ∀ h', IsZipHeld h' z TI TO T true → h'.IsTupleIter i1 l1 (k + 1) → h'.IsTupleIter i2 l2 (k + 1) → PairT h' s.heap.objs.size (x, y) → h'.objs.size = s.heap.objs.size + 1 → (∀ c o, c ≠ z → c ≠ i1 → c ≠ i2 → s.heap.get? c = some o → h'.get? c = some o) →
      Q (some (.ref s.heap.objs.size)) { s with heap := h' }) : wpAny (model prog w) A (pyNext (.ref z)) Q E s := by
  have ty : s.TypeIs (.ref z) "zip" := ⟨_, zz, rfl⟩
  have body : wpAny (model prog w) A.in1 (Builtin.«zip.__next__» ⟨[.ref z], []⟩) (fun fin s' => ∃ v, fin = .done (.ret v) ∧ (v = .ref s.heap.objs.size ∧ Q (some v) s')) (fun _ _ => False) s := by
    show wpAny _ _ (field (.ref z) 2 >>= _) _ _ _
    refine wpAny_bind (wpAny_field zz rfl (x := .bool false) rfl ?_)
    show wpAny _ _ (field (.ref z) 3 >>= _) _ _ _
    refine wpAny_bind (wpAny_field zz rfl (x := .ref TI) rfl (wpAny_bind (wpAny_seqItems pp rfl ?_)))
    show wpAny _ _ (Builtin.SmallTypes.ownedTupleIsFree (.ref z) >>= _) _ _ _
    refine wpAny_bind (wpAny_tupleHeld_zip zz tt fun g1 z1 s1 => ?_)
    simp only [Bool.false_eq_true, if_false]
    refine wpAny_bind ?_
    rw [← Array.forIn_toList]
    simp only [List.forIn_cons, List.forIn_nil]
    refine wpAny_bind (wpAny_bind (wpAny_holding ?_))
    show wpAny _ _ (Builtin.SmallTypes.nextOf (.ref i1) >>= _) _ _ _
    refine wpAny_bind (RZ.nextOf_tuple_item (s := { s with heap := g1 }) (n1.extBut s1.extBut D.i1z) (t1.extBut s1.extBut D.l1z) ex fun g2 m1 s2 => wpAny_pure (wpAny_pure ?_))
    refine wpAny_bind (wpAny_bind (wpAny_holding ?_))
    show wpAny _ _ (Builtin.SmallTypes.nextOf (.ref i2) >>= _) _ _ _
    refine wpAny_bind (RZ.nextOf_tuple_item (s := { s with heap := g2 }) ((n2.extBut s1.extBut D.i2z).extBut s2.extBut D.i12.symm) ((t2.extBut s1.extBut D.l2z).extBut s2.extBut D.l2i1) ey fun g3 m2 s3 => wpAny_pure (wpAny_pure (wpAny_pure ?_)))
    show wpAny _ _ (newTuple [x, y] >>= _) _ _ _
    have e0 : g3.objs.size = s.heap.objs.size := by rw [s3.1, s2.1, s1.1]
    have z3 : IsZipHeld g3 z TI TO T true := s3.extBut _ _ D.i2z.symm (s2.extBut _ _ D.i1z.symm z1)
    have old : ∀ c o, c ≠ z → c ≠ i1 → c ≠ i2 → s.heap.get? c = some o → g3.get? c = some o := fun c o a1 a2 a3 e => s3.extBut _ _ a3 (s2.extBut _ _ a2 (s1.extBut _ _ a1 e))
    have n3 : g3.IsTupleIter i1 l1 (k + 1) := m1.extBut s3.extBut D.i12
    refine wpAny_bind (wpAny_newTuple (wpAny_pure ⟨_, rfl, ?_⟩))
    have np : PairT (g3.push { cls := .type "tuple", data := .seq #[x, y] }) g3.objs.size (x, y) := Heap.get?_push_size _ rfl
    have ns : (g3.push { cls := .type "tuple", data := .seq #[x, y] }).objs.size = g3.objs.size + 1 := Heap.size_push ..
    show _ ∧ Q (some (.ref g3.objs.size)) _
    rw [e0] at np ns ⊢
    exact ⟨rfl, q _ (Heap.get?_push_of_some _ z3) (n3.at fun o e => Heap.get?_push_of_some _ e) (m2.at fun o e => Heap.get?_push_of_some _ e) np ns fun c o a1 a2 a3 e => Heap.get?_push_of_some _ (old c o a1 a2 a3 e)⟩
  unfold pyNext
  refine wpAny_bind (wpAny_attempt (wpAny_callSpecial?_slot (name := Str.ofString "__next__") ty F.slot_zip_next (wpAny_call_entry F.slot_zip_next ty F.entry_zip_next (wpAny_mono body (fun fin s' r => ?_) fun _ _ z => z.elim) (F.args_zip_next_1 _))))
  obtain ⟨v, rfl, e, r⟩ := r
  exact ⟨v, rfl, wpAny_pure r⟩
/-- .. behind the last pair -/
theorem zt_stop {z TI TO T i1 i2 l1 l2 : Addr} {f : Bool} {oT : Obj} {k : Nat} {xs ys : Array Value} {Q : Option Value → Shared → Prop} (hh : A.handled = none) (D : ZipApart z TI TO i1 i2 l1 l2)
    (zz : IsZipHeld s.heap z TI TO T f) (tt : s.heap.get? T = some oT) (pp : IsPair s.heap TI (.ref i1) (.ref i2)) (n1 : s.heap.IsTupleIter i1 l1 k) (n2 : s.heap.IsTupleIter i2 l2 k) (t1 : s.heap.IsTuple l1 xs) (t2 : s.heap.IsTuple l2 ys)
    (no : xs[k]? = none ∨ ys[k]? = none) (q : ∀ h', (∀ c o, c ≠ z → c ≠ i1 → c ≠ i2 → s.heap.get? c = some o → h'.get? c = some o) → Q none { s with heap := h' }) : wpAny (model prog w) A (pyNext (.ref z)) Q E s := by
  have ty : s.TypeIs (.ref z) "zip" := ⟨_, zz, rfl⟩
  have body : ∀ {B : Around} {Q2 : Fin → Shared → Prop} {E2 : Value → Shared → Prop}, B.handled = none → (∀ h' e, (∀ c o, c ≠ z → c ≠ i1 → c ≠ i2 → s.heap.get? c = some o → h'.get? c = some o) → (∃ o, h'.get? e = some o ∧ o.cls = .type "StopIteration") → E2 (.ref e) { s with heap := h' }) →
      wpAny (model prog w) B (Builtin.«zip.__next__» ⟨[.ref z], []⟩) Q2 E2 s := by
    intro B Q2 E2 hb out
    show wpAny _ _ (field (.ref z) 2 >>= _) _ _ _
    refine wpAny_bind (wpAny_field zz rfl (x := .bool false) rfl ?_)
    show wpAny _ _ (field (.ref z) 3 >>= _) _ _ _
    refine wpAny_bind (wpAny_field zz rfl (x := .ref TI) rfl (wpAny_bind (wpAny_seqItems pp rfl ?_)))
    show wpAny _ _ (Builtin.SmallTypes.ownedTupleIsFree (.ref z) >>= _) _ _ _
    refine wpAny_bind (wpAny_tupleHeld_zip zz tt fun g1 z1 s1 => ?_)
    simp only [Bool.false_eq_true, if_false]
    refine wpAny_bind ?_
    rw [← Array.forIn_toList]
    simp only [List.forIn_cons, List.forIn_nil]
    refine wpAny_bind (wpAny_bind (wpAny_holding ?_))
    show wpAny _ _ (Builtin.SmallTypes.nextOf (.ref i1) >>= _) _ _ _
    cases ex : xs[k]? with
    | none => exact wpAny_bind (RZ.nextOf_tuple_end (s := { s with heap := g1 }) hb (n1.extBut s1.extBut D.i1z) (t1.extBut s1.extBut D.l1z) ex fun g2 e s2 he => out g2 e (fun c o a1 a2 _ x => s2 _ _ a2 (s1.extBut _ _ a1 x)) he)
    | some x =>
      have ey : ys[k]? = none := no.resolve_left (by rw [ex]; nofun)
      refine wpAny_bind (RZ.nextOf_tuple_item (s := { s with heap := g1 }) (n1.extBut s1.extBut D.i1z) (t1.extBut s1.extBut D.l1z) ex fun g2 m1 s2 => wpAny_pure (wpAny_pure ?_))
      refine wpAny_bind (wpAny_bind (wpAny_holding ?_))
      show wpAny _ _ (Builtin.SmallTypes.nextOf (.ref i2) >>= _) _ _ _
      exact wpAny_bind (RZ.nextOf_tuple_end (s := { s with heap := g2 }) hb ((n2.extBut s1.extBut D.i2z).extBut s2.extBut D.i12.symm) ((t2.extBut s1.extBut D.l2z).extBut s2.extBut D.l2i1) ey fun g3 e s3 he => out g3 e (fun c o a1 a2 a3 x => s3 _ _ a3 (s2.extBut _ _ a2 (s1.extBut _ _ a1 x))) he)
  unfold pyNext
  refine wpAny_bind (wpAny_attempt (wpAny_callSpecial?_slot (name := Str.ofString "__next__") ty F.slot_zip_next (wpAny_call_entry F.slot_zip_next ty F.entry_zip_next (body hh fun h' e k ⟨o, ho, hc⟩ => ?_) (F.args_zip_next_1 _))))
  exact wpAny_bind (wpAny_isInstance (T := "StopIteration") (b := true) ⟨o, ho, hc⟩ isSubtype_stop (wpAny_pure (q _ k)))
/-- a zip of two tuples at its turn i: nothing handed out yet, or a pair that is still there -/
def ZS (h : Heap) (z TI TO i1 i2 l1 l2 S : Addr) (i : Nat) : Prop := IsPair h TI (.ref i1) (.ref i2) ∧ h.IsTupleIter i1 l1 i ∧ h.IsTupleIter i2 l2 i ∧
  ((IsZip h z TI TO .none ∧ ∃ a b, IsPair h TO a b) ∨ ∃ T f oT, IsZipHeld h z TI TO T f ∧ h.get? T = some oT ∧ T ≠ z ∧ T ≠ i1 ∧ T ≠ i2 ∧ T ≠ S)
theorem ZS.keep {h h' : Heap} {z TI TO i1 i2 l1 l2 S : Addr} {i : Nat} (st : ZS h z TI TO i1 i2 l1 l2 S i) (k : ∀ b o, b ≠ S → h.get? b = some o → h'.get? b = some o) (a : z ≠ S) (b : TI ≠ S) (c : TO ≠ S) (d : i1 ≠ S) (e : i2 ≠ S) : ZS h' z TI TO i1 i2 l1 l2 S i := by
  obtain ⟨p1, p2, p3, p4⟩ := st
  refine ⟨k _ _ b p1, p2.at fun o q => k _ o d q, p3.at fun o q => k _ o e q, ?_⟩
  rcases p4 with ⟨q1, x, y, q2⟩ | ⟨T, f, oT, q1, q2, q3, q4, q5, q6⟩
  · exact .inl ⟨k _ _ a q1, x, y, k _ _ c q2⟩
  · exact .inr ⟨T, f, oT, k _ _ a q1, k _ _ q6 q2, q3, q4, q5, q6⟩
theorem zs_item {z TI TO i1 i2 l1 l2 S : Addr} {i : Nat} {xs ys : Array Value} {x y : Value} {Q : Option Value → Shared → Prop} (D : ZipApart z TI TO i1 i2 l1 l2) (st : ZS s.heap z TI TO i1 i2 l1 l2 S i) (sl : S < s.heap.objs.size) (t1 : s.heap.IsTuple l1 xs) (t2 : s.heap.IsTuple l2 ys)
    (ex : xs[i]? = some x) (ey : ys[i]? = some y) (q : ∀ h', ZS h' z TI TO i1 i2 l1 l2 S (i + 1) → PairT h' s.heap.objs.size (x, y) → h'.objs.size = s.heap.objs.size + 1 → (∀ c o, c ≠ z → c ≠ TO → c ≠ i1 → c ≠ i2 → s.heap.get? c = some o → h'.get? c = some o) →
      Q (some (.ref s.heap.objs.size)) { s with heap := h' }) : wpAny (model prog w) A (pyNext (.ref z)) Q E s := by
  obtain ⟨p1, p2, p3, p4⟩ := st
  have zl : z < s.heap.objs.size := by
    rcases p4 with ⟨q1, _⟩ | ⟨T, f, oT, q1, _⟩
    · exact Heap.lt_size q1
    · exact Heap.lt_size q1
  have l1' : i1 < s.heap.objs.size := let ⟨_, e, _⟩ := p2; Heap.lt_size e
  have l2' : i2 < s.heap.objs.size := let ⟨_, e, _⟩ := p3; Heap.lt_size e
  rcases p4 with ⟨q1, a, b, q2⟩ | ⟨T, f, oT, q1, q2, q3, q4, q5, q6⟩
  · exact RZ.pyNext_zipT_item D q1 p1 q2 p2 p3 t1 t2 ex ey fun h' a1 a2 a3 a4 a5 a6 a7 => q h' ⟨a7 _ _ D.TIz D.TITO D.TIi1 D.TIi2 p1, a3, a4, .inr ⟨_, false, _, a1, a5, Nat.ne_of_gt zl, Nat.ne_of_gt l1', Nat.ne_of_gt l2', Nat.ne_of_gt sl⟩⟩ a5 a6 a7
  · exact zt_step D q1 q2 p1 p2 p3 t1 t2 ex ey fun h' a1 a2 a3 a4 a5 a6 => q h' ⟨a6 _ _ D.TIz D.TIi1 D.TIi2 p1, a2, a3, .inr ⟨T, true, oT, a1, a6 _ _ q3 q4 q5 q2, q3, q4, q5, q6⟩⟩ a4 a5 fun c o c1 _ c3 c4 e => a6 c o c1 c3 c4 e
theorem zs_stop {z TI TO i1 i2 l1 l2 S : Addr} {i : Nat} {xs ys : Array Value} {Q : Option Value → Shared → Prop} (hh : A.handled = none) (D : ZipApart z TI TO i1 i2 l1 l2) (st : ZS s.heap z TI TO i1 i2 l1 l2 S i) (t1 : s.heap.IsTuple l1 xs) (t2 : s.heap.IsTuple l2 ys)
    (no : xs[i]? = none ∨ ys[i]? = none) (q : ∀ h', (∀ c o, c ≠ z → c ≠ TO → c ≠ i1 → c ≠ i2 → s.heap.get? c = some o → h'.get? c = some o) → Q none { s with heap := h' }) : wpAny (model prog w) A (pyNext (.ref z)) Q E s := by
  obtain ⟨p1, p2, p3, p4⟩ := st
  rcases p4 with ⟨q1, a, b, q2⟩ | ⟨T, f, oT, q1, q2, _⟩
  · exact RZ.pyNext_zipT_end hh D q1 p1 q2 p2 p3 t1 t2 no q
  · exact zt_stop hh D q1 q2 p1 p2 p3 t1 t2 no fun h' k => q h' fun c o c1 _ c3 c4 e => k c o c1 c3 c4 e
/-- the pairs so far -/
structure PairG (ps : List (Value × Value)) (lo : Nat) (h : Heap) (as : List Addr) : Prop where
  nd : as.Nodup
  up : ∀ a ∈ as, lo ≤ a
  at_ : ∀ (j : Nat) (a : Addr), as[j]? = some a → ∃ p, ps[j]? = some p ∧ PairT h a p
end
section
variable {prog : Program} {w : World} {A : Around} {s : Shared} {R : Result → Shared → Prop}
theorem zl_loop {S z TI TO i1 i2 l1 l2 : Addr} {xl yl : List Value} {lo : Nat} (hh : A.handled = none) (D : ZipApart z TI TO i1 i2 l1 l2) (oS : z ≠ S ∧ TI ≠ S ∧ TO ≠ S ∧ i1 ≠ S ∧ i2 ≠ S ∧ l1 ≠ S ∧ l2 ≠ S) (lw : z < lo ∧ TO < lo ∧ i1 < lo ∧ i2 < lo ∧ S < lo) (hn : (xl.zip yl).length ≤ sizeLine) (res : Value) {h₁ : Heap}
    (fin : ∀ h' tk acc c as, (∀ b o, b ≠ S → b ≠ z → b ≠ TO → b ≠ i1 → b ≠ i2 → h₁.get? b = some o → h'.get? b = some o) → h'.get? S = some { cls := .type "list", dict := none, data := .seq acc c, slots := #[] } → as.length = (xl.zip yl).length → PairG (xl.zip yl) lo h' as →
      acc.toList = as.map Value.ref → R (.ok (.ret res)) { s with heap := h', toks := tk }) :
    ∀ (k i : Nat) (h : Heap) (tk c : Nat) (acc : Array Value) (as : List Addr), (xl.zip yl).length - i = k → i ≤ (xl.zip yl).length → ZS h z TI TO i1 i2 l1 l2 S i → h.IsTuple l1 xl.toArray → h.IsTuple l2 yl.toArray →
      (∀ b o, b ≠ S → b ≠ z → b ≠ TO → b ≠ i1 → b ≠ i2 → h₁.get? b = some o → h.get? b = some o) → h.get? S = some { cls := .type "list", dict := none, data := .seq acc c, slots := #[] } → acc.toList = as.map Value.ref → as.length = i → PairG (xl.zip yl) lo h as → lo ≤ h.objs.size →
      codeAny (model prog w) A (.builtin "list.extend.loop" ⟨[.ref S, .ref z, res], []⟩) R { s with heap := h, toks := tk } := by
  obtain ⟨oz, oTI, oTO, o1, o2, ol1, ol2⟩ := oS
  obtain ⟨lz, lTO, li1, li2, lS⟩ := lw
  intro k
  induction k with
  | zero =>
    intro i h tk c acc as hk hi st t1 t2 old hS ha hl hG hlo
    have e : i = (xl.zip yl).length := by omega
    have no : xl.toArray[i]? = none ∨ yl.toArray[i]? = none := by
      rw [List.length_zip] at e
      rcases Nat.le_total xl.length yl.length with q | q
      · exact .inl (by simp; omega)
      · exact .inr (by simp; omega)
    refine codeAny_builtin PySem.F.entry_extend_loop ?_
    rw [Around.under_plainId PySem.F.plain_extend_loop _]
    show wpAny _ A.in1 (pyNext (.ref z) >>= _) _ _ _
    refine wpAny_bind (zs_stop (s := { s with heap := h, toks := tk }) (A := A.in1) hh D st t1 t2 no fun h' kp => wpAny_pure (fin h' tk acc c as (fun b o b1 b2 b3 b4 b5 q => kp b o b2 b3 b4 b5 (old b o b1 b2 b3 b4 b5 q)) (kp S _ (Ne.symm oz) (Ne.symm oTO) (Ne.symm o1) (Ne.symm o2) hS) (by omega) ⟨hG.nd, hG.up, fun j a q => ?_⟩ ha))
    obtain ⟨p, q1, q2⟩ := hG.at_ j a q
    have hb := hG.up a (List.mem_of_getElem? q)
    exact ⟨p, q1, kp a _ (Nat.ne_of_gt (Nat.lt_of_lt_of_le lz hb)) (Nat.ne_of_gt (Nat.lt_of_lt_of_le lTO hb)) (Nat.ne_of_gt (Nat.lt_of_lt_of_le li1 hb)) (Nat.ne_of_gt (Nat.lt_of_lt_of_le li2 hb)) q2⟩
  | succ k ih =>
    intro i h tk c acc as hk hi st t1 t2 old hS ha hl hG hlo
    have lt : i < (xl.zip yl).length := by omega
    have ep : (xl.zip yl)[i]? = some (xl.zip yl)[i] := List.getElem?_eq_getElem lt
    obtain ⟨ex, ey⟩ := List.getElem?_zip_eq_some.mp ep
    generalize hp : (xl.zip yl)[i] = p at ep ex ey
    have sz : acc.size = i := by rw [← Array.length_toList, ha, List.length_map, hl]
    refine codeAny_builtin PySem.F.entry_extend_loop ?_
    rw [Around.under_plainId PySem.F.plain_extend_loop _]
    show wpAny _ A.in1 (pyNext (.ref z) >>= _) _ _ _
    refine wpAny_bind (zs_item (s := { s with heap := h, toks := tk }) (A := A.in1) (S := S) D st (Heap.lt_size hS) t1 t2 (x := p.1) (y := p.2) (by simpa using ex) (by simpa using ey) fun h' st' np ns kp => ?_)
    dsimp only at np ns kp ⊢
    have hS' := kp S _ (Ne.symm oz) (Ne.symm oTO) (Ne.symm o1) (Ne.symm o2) hS
    have up : ∀ b o, b ≠ S → h'.get? b = some o → (h'.update S (Obj.mapSeq fun v => v.push (Value.ref h.objs.size))).get? b = some o := fun b o hb e => (Heap.get?_update_other _ _ (Ne.symm hb)).trans e
    have off : ∀ a, lo ≤ a → a ≠ S ∧ a ≠ z ∧ a ≠ TO ∧ a ≠ i1 ∧ a ≠ i2 := fun a q => ⟨Nat.ne_of_gt (Nat.lt_of_lt_of_le lS q), Nat.ne_of_gt (Nat.lt_of_lt_of_le lz q), Nat.ne_of_gt (Nat.lt_of_lt_of_le lTO q), Nat.ne_of_gt (Nat.lt_of_lt_of_le li1 q), Nat.ne_of_gt (Nat.lt_of_lt_of_le li2 q)⟩
    have zu : (h'.update S (Obj.mapSeq fun v => v.push (Value.ref h.objs.size))).objs.size = h.objs.size + 1 := by rw [Heap.size_update]; exact ns
    have got : ∀ a ∈ as, a < h.objs.size := fun a m => by
      obtain ⟨j, q⟩ := List.mem_iff_getElem?.mp m
      obtain ⟨_, _, e⟩ := hG.at_ j a q
      exact Heap.lt_size e
    show wpAny _ A.in1 (updateSeq S (fun v => v.push (Value.ref h.objs.size)) >>= _) _ _ _
    refine wpAny_bind (wpAny_updateSeq hS' rfl (wpAny_pure ⟨plainId_quiet PySem.F.plain_extend_loop _, ?_⟩) (by rw [sz]; omega) (by show (acc.push (Value.ref h.objs.size)).size ≤ sizeLine + 1; rw [Array.size_push, sz]; omega))
    refine ih (i + 1) _ tk _ (acc.push (Value.ref h.objs.size)) (as ++ [h.objs.size]) (by omega) lt (st'.keep up oz oTI oTO o1 o2) ?_ ?_ (fun b o b1 b2 b3 b4 b5 e => up b o b1 (kp b o b2 b3 b4 b5 (old b o b1 b2 b3 b4 b5 e))) (Heap.get?_update_self _ hS' rfl) (by rw [Array.toList_push, ha, List.map_append]; rfl) (by rw [List.length_append, hl]; rfl) ⟨?_, ?_, ?_⟩ (by rw [zu]; exact Nat.le_succ_of_le hlo)
    · obtain ⟨o, e, r⟩ := t1
      exact ⟨o, up _ _ ol1 (kp _ _ D.l1z D.l1TO D.l1i1 D.l1i2 e), r⟩
    · obtain ⟨o, e, r⟩ := t2
      exact ⟨o, up _ _ ol2 (kp _ _ D.l2z D.l2TO D.l2i1 D.l2i2 e), r⟩
    · exact List.nodup_append.mpr ⟨hG.nd, by simp, fun a m b m2 => by
        rw [List.mem_singleton.mp m2]
        exact Nat.ne_of_lt (got a m)⟩
    · intro a m
      rcases List.mem_append.mp m with m | m
      · exact hG.up a m
      · rw [List.mem_singleton.mp m]; exact hlo
    · intro j b q
      rcases Nat.lt_trichotomy j as.length with c1 | c1 | c1
      · rw [List.getElem?_append_left c1] at q
        obtain ⟨p2, q1, q2⟩ := hG.at_ j b q
        obtain ⟨b1, b2, b3, b4, b5⟩ := off b (hG.up b (List.mem_of_getElem? q))
        exact ⟨p2, q1, up b _ b1 (kp b _ b2 b3 b4 b5 q2)⟩
      · subst c1
        have hb : h.objs.size = b := by simpa using q
        subst hb
        exact ⟨p, by rw [hl]; exact ep, up _ _ (off _ hlo).1 np⟩
      · rw [List.getElem?_eq_none (by rw [List.length_append, List.length_singleton]; omega)] at q
        cases q
theorem ar_ne {I n b : Nat} (h : I + 4 < n) (q : b < I + 5) : b ≠ n := by omega
theorem ar_lt {I n b : Nat} (h : I + 4 < n) (q : b < I + 5) : b < n + 1 := by omega
theorem ar_ap {I b c : Nat} (h : b < I) (q : I ≤ c) : b ≠ c := by omega
theorem zip_no_len : typeLookup (.type "zip") "__len__" = pure none := am_miss_of_fast (by decide +kernel)
theorem zip_no_hint : typeLookup (.type "zip") "__length_hint__" = pure none := am_miss_of_fast (by decide +kernel)
theorem PairG.low {ps : List (Value × Value)} {lo lo' : Nat} {h : Heap} {as : List Addr} (g : PairG ps lo h as) (q : lo' ≤ lo) : PairG ps lo' h as := ⟨g.nd, fun a m => Nat.le_trans q (g.up a m), g.at_⟩
theorem zl_call {I l1 l2 : Addr} {xl yl : List Value} {E : Value → Shared → Prop} {Q : Value → Shared → Prop} (hh : A.handled = none) (z0 : IsZip s.heap (I + 4) (I + 2) (I + 3) .none) (p0 : IsPair s.heap (I + 2) (.ref I) (.ref (I + 1))) (o0 : IsPair s.heap (I + 3) .none .none)
    (n1 : s.heap.IsTupleIter I l1 0) (n2 : s.heap.IsTupleIter (I + 1) l2 0) (t1 : s.heap.IsTuple l1 xl.toArray) (t2 : s.heap.IsTuple l2 yl.toArray) (b1 : l1 < I) (b2 : l2 < I) (hn : (xl.zip yl).length ≤ sizeLine)
    (q : ∀ h' tk acc c as, (∀ b o, b < I → s.heap.get? b = some o → h'.get? b = some o) → h'.get? s.heap.objs.size = some { cls := .type "list", dict := none, data := .seq acc c, slots := #[] } → as.length = (xl.zip yl).length → PairG (xl.zip yl) (s.heap.objs.size + 1) h' as →
      acc.toList = as.map Value.ref → Q (.ref s.heap.objs.size) { s with heap := h', toks := tk }) :
    wpAny (model prog w) A (call (.type "list") [.ref (I + 4)]) Q E s := by
  have D := PySem.W.ktu_apart I l1 l2 b1 b2
  have bound : I + 4 < s.heap.objs.size := Heap.lt_size z0
  have nS : ∀ {b : Nat}, b < I + 5 → b ≠ s.heap.objs.size := fun {b} h => ar_ne bound h
  refine callType_codes (Q₁ := fun obj s₁ => obj = .ref s.heap.objs.size ∧ s₁ = { s with heap := s.heap.push { cls := .type "list", data := .seq #[] } }) PySem.F.called_list (PySem.F.typeCall_list_1 _) PySem.F.entry_list_init (code_list_new _ ⟨rfl, rfl⟩) fun obj s₁ h₁ => ?_
  obtain ⟨rfl, rfl⟩ := h₁
  have hS : (s.heap.push { cls := .type "list", data := .seq #[] }).get? s.heap.objs.size = some { cls := .type "list", data := .seq #[] } := Heap.get?_push_size _ rfl
  have kp0 : ∀ b o, s.heap.get? b = some o → (s.heap.push { cls := .type "list", data := .seq #[] }).get? b = some o := fun b o e => Heap.get?_push_of_some _ e
  have sz0 : (s.heap.push { cls := .type "list", data := .seq #[] }).objs.size = s.heap.objs.size + 1 := Heap.size_push ..
  generalize s.heap.push { cls := .type "list", data := .seq #[] } = g0 at hS kp0 sz0 ⊢
  refine ⟨⟨_, hS, rfl⟩, PySem.F.args_list_init_2 _ _, ?_⟩
  show wpAny _ _ (Builtin.List.listItems (.ref s.heap.objs.size) >>= fun old => Builtin.List.listUpdate (.ref s.heap.objs.size) (fun _ => #[]) >>= fun _ => letGo old.toList.reverse >>= fun _ => Builtin.List.listExtendWith (.ref s.heap.objs.size) (.ref (I + 4)) .none) _ _ _
  refine wpAny_bind ?_
  unfold Builtin.List.listItems
  refine wpAny_bind (wpAny_seqItems hS rfl (wpAny_pure ?_))
  show wpAny _ _ (updateSeq s.heap.objs.size (fun _ => #[]) >>= fun _ => letGo (#[] : Array Value).toList.reverse >>= fun _ => Builtin.List.listExtendWith (.ref s.heap.objs.size) (.ref (I + 4)) .none) _ _ _
  refine wpAny_bind (wpAny_updateSeq hS rfl ?_)
  have hS1 := Heap.get?_update_self (Obj.mapSeq fun _ => (#[] : Array Value)) hS rfl
  have kp1 : ∀ b o, b ≠ s.heap.objs.size → s.heap.get? b = some o → (g0.update s.heap.objs.size (Obj.mapSeq fun _ => (#[] : Array Value))).get? b = some o := fun b o hb e => (Heap.get?_update_other _ _ (Ne.symm hb)).trans (kp0 b o e)
  have sz1 : (g0.update s.heap.objs.size (Obj.mapSeq fun _ => (#[] : Array Value))).objs.size = s.heap.objs.size + 1 := by rw [Heap.size_update, sz0]
  generalize g0.update s.heap.objs.size (Obj.mapSeq fun _ => (#[] : Array Value)) = g1 at hS1 kp1 sz1 ⊢
  refine wpAny_bind (wpAny_letGo ?_)
  have ty1 : Shared.TypeIs { s with heap := g1 } (.ref (I + 4)) "zip" := ⟨_, kp1 _ _ (nS (by omega)) z0, rfl⟩
  unfold Builtin.List.listExtendWith
  refine wpAny_bind (wpAny_typeOf (T := "zip") ty1 ?_)
  have c1 : Builtin.List.listSameRef (.ref s.heap.objs.size) (.ref (I + 4)) = false := by
    show (s.heap.objs.size == I + 4) = false
    exact beq_false_of_ne (Ne.symm (nS (by omega)))
  have c2 : (Value.type "zip" == Value.type "list") = false := by decide
  have c3 : (Value.type "zip" == Value.type "tuple") = false := by decide
  simp only [c1, c2, c3, Bool.or_false, Bool.false_eq_true, if_false]
  refine wpAny_bind (wpAny_pyIter_zip (z := I + 4) (TI := I + 2) (TO := I + 3) (kp1 _ _ (nS (by omega)) z0) ?_)
  refine wpAny_bind (wpAny_holding ?_)
  unfold Builtin.List.listLengthHint
  refine wpAny_bind (wpAny_specialOf ty1 zip_no_len ?_)
  show wpAny _ _ (specialOf (Value.ref (I + 4)) (Str.ofString "__length_hint__") >>= _) _ _ _
  refine wpAny_bind (wpAny_specialOf ty1 zip_no_hint (wpAny_pure ?_))
  show wpAny _ _ (rule "list.extend.makes-room" >>= fun _ => Builtin.List.listTouch (.ref s.heap.objs.size) >>= fun _ => again (.builtin "list.extend.loop" ⟨[.ref s.heap.objs.size, .ref (I + 4), .none], []⟩)) _ _ _
  refine wpAny_bind (wpAny_rule (wpAny_bind ?_))
  show wpAny _ _ (updateSeq s.heap.objs.size (fun v => v.push .none) >>= fun _ => updateSeq s.heap.objs.size (fun v => v.pop)) _ _ _
  refine wpAny_bind (wpAny_updateSeq hS1 rfl ?_)
  have hS2 := Heap.get?_update_self (Obj.mapSeq fun v => v.push Value.none) hS1 rfl
  refine wpAny_updateSeq (hz := by seq_fits) hS2 rfl ?_
  have hS3 := Heap.get?_update_self (Obj.mapSeq fun v => v.pop) hS2 rfl
  have kp3 : ∀ b o, b ≠ s.heap.objs.size → s.heap.get? b = some o → ((g1.update s.heap.objs.size (Obj.mapSeq fun v => v.push Value.none)).update s.heap.objs.size (Obj.mapSeq fun v => v.pop)).get? b = some o := fun b o hb e => (Heap.get?_update_other _ _ (Ne.symm hb)).trans ((Heap.get?_update_other _ _ (Ne.symm hb)).trans (kp1 b o hb e))
  have sz3 : ((g1.update s.heap.objs.size (Obj.mapSeq fun v => v.push Value.none)).update s.heap.objs.size (Obj.mapSeq fun v => v.pop)).objs.size = s.heap.objs.size + 1 := by rw [Heap.size_update, Heap.size_update, sz1]
  have hb1 : l1 < I + 5 := Nat.lt_of_lt_of_le b1 (Nat.le_add_right _ _)
  have hb2 : l2 < I + 5 := Nat.lt_of_lt_of_le b2 (Nat.le_add_right _ _)
  have low : ∀ {b : Nat}, b < I + 5 → b < s.heap.objs.size + 1 := fun {b} h => ar_lt bound h
  refine wpAny_pure ⟨plainId_quiet PySem.F.plain_extend_loop _, zl_loop (A := A.in1) (s := s) (xl := xl) (yl := yl) (lo := s.heap.objs.size + 1) (h₁ := s.heap) hh D ⟨nS (by omega), nS (by omega), nS (by omega), nS (by omega), nS (by omega), nS hb1, nS hb2⟩ ⟨low (by omega), low (by omega), low (by omega), low (by omega), Nat.lt_succ_self _⟩ hn .none
    (fun h' tk acc c as k1 k2 k3 k4 k5 => ⟨rfl, q h' tk acc c as (fun b o hb e => ?_) k2 k3 k4 k5⟩) _ 0 _ _ _ #[] [] rfl (Nat.zero_le _) ⟨kp3 _ _ (nS (by omega)) p0, n1.at fun o e => kp3 _ o (nS (by omega)) e, n2.at fun o e => kp3 _ o (nS (by omega)) e, .inl ⟨kp3 _ _ (nS (by omega)) z0, _, _, kp3 _ _ (nS (by omega)) o0⟩⟩
    (let ⟨o, e, r⟩ := t1; ⟨o, kp3 _ _ (nS hb1) e, r⟩) (let ⟨o, e, r⟩ := t2; ⟨o, kp3 _ _ (nS hb2) e, r⟩) (fun b o hb _ _ _ _ e => kp3 b o hb e) hS3 rfl rfl ⟨List.nodup_nil, (fun _ m => nomatch m), (fun j a m => by simp at m)⟩ (by rw [sz3]; exact Nat.le_refl _)⟩
  exact k1 b o (fun z => absurd (Heap.lt_size e) (by rw [z]; exact Nat.lt_irrefl _)) (ar_ap hb (Nat.le_add_right _ _)) (ar_ap hb (Nat.le_add_right _ _)) (ar_ap hb (Nat.le_refl _)) (ar_ap hb (Nat.le_add_right _ _)) e
end
/-! ### as the hand layer's rule -/
def putP : Hp → List Addr → List (V × V) → Hp
  | H, a :: as, q :: qs => upd (putP H as qs) a (.tup [q.1, q.2])
  | H, _, _ => H
theorem putP_off {H : Hp} {b : Addr} : ∀ (as : List Addr) (qs : List (V × V)), b ∉ as → putP H as qs b = H b
  | [], _, _ => by unfold putP; rfl
  | _ :: _, [], _ => by unfold putP; rfl
  | a :: as, q :: qs, h => by
    unfold putP
    rw [upd_ne (fun z => h (by rw [z]; exact List.mem_cons_self)), putP_off as qs fun z => h (List.mem_cons_of_mem _ z)]
theorem putP_at {H : Hp} : ∀ (as : List Addr) (qs : List (V × V)), as.Nodup → ∀ (j : Nat) (a : Addr) (q : V × V), as[j]? = some a → qs[j]? = some q → putP H as qs a = some (.tup [q.1, q.2])
  | [], _, _, j, a, q, h, _ => by simp at h
  | _ :: _, [], _, j, a, q, _, h => by simp at h
  | a :: as, q :: qs, nd, 0, b, p, h1, h2 => by
    simp only [List.getElem?_cons_zero, Option.some.injEq] at h1 h2
    subst h1 h2
    unfold putP
    rw [upd_same]
  | a :: as, q :: qs, nd, j + 1, b, p, h1, h2 => by
    have nd' := List.nodup_cons.mp nd
    have h1' : as[j]? = some b := by simpa using h1
    unfold putP
    rw [upd_ne (fun z => nd'.1 (by rw [← z]; exact List.mem_of_getElem? h1')), putP_at as qs nd'.2 j b p h1' (by simpa using h2)]
def rListZip (K : PySem.W.Frag) : List V → Hp → VK → Prop := fun vs H Q => ∃ a b xs ys, vs = [.ref a, .ref b] ∧ SqT K H a xs ∧ SqT K H b ys ∧ ∀ (H' : Hp) (p : Addr) (ts : List Addr), (∀ b o, H b = some o → H' b = some o) → H p = none → H' p = some (.lst (ts.map V.ref)) → ts.length = (xs.zip ys).length →
  (∀ (j : Nat) (t : Addr) (q : V × V), ts[j]? = some t → (xs.zip ys)[j]? = some q → H t = none ∧ H' t = some (.tup [q.1, q.2])) → Q (.ref p) H'
def tListZip (K : PySem.W.Frag) (ta : TA) : TE := fun σ H Q => ta σ H fun vs H1 => rListZip K vs H1 Q
theorem valsP : ∀ as : List Addr, L2.Vals (as.map V.ref) (as.map Value.ref)
  | [] => .nil
  | _ :: as => .cons rfl (valsP as)
section
variable {X : Cx}
theorem pairs_laid {pins : List (Addr × Obj)} {σ : L2.St} {H : Hp} {s : Shared} {h' : Heap} {tk : Nat} {xs ys : List V} {xl yl : List Value} {acc : Array Value} {c : Nat} {p : Addr} {as : List Addr} (I : Inv X pins σ H s) (rx : L2.Vals xs xl) (ry : L2.Vals ys yl) (hn : xs.length ≤ sizeLine)
    (hk : ∀ b o, s.heap.get? b = some o → h'.get? b = some o) (hp : s.heap.objs.size ≤ p) (hS : h'.get? p = some { cls := .type "list", dict := none, data := .seq acc c, slots := #[] }) (hl : as.length = (xl.zip yl).length) (hG : PairG (xl.zip yl) (p + 1) h' as) (ha : acc.toList = as.map Value.ref) :
    ∃ H' : Hp, (∀ b o, H b = some o → H' b = some o) ∧ H p = none ∧ H' p = some (.lst (as.map V.ref)) ∧ (∀ (j : Nat) (t : Addr) (q : V × V), as[j]? = some t → (xs.zip ys)[j]? = some q → H t = none ∧ H' t = some (.tup [q.1, q.2])) ∧ Inv X pins σ H' { s with heap := h', toks := tk } := by
  have newA : ∀ t ∈ as, H t = none := fun t m => I.hok.fresh (Nat.le_trans hp (Nat.le_trans (Nat.le_succ _) (hG.up t m)))
  have newP : H p = none := I.hok.fresh hp
  have pn : p ∉ as := fun m => Nat.lt_irrefl _ (hG.up p m)
  have lxy : (xs.zip ys).length = (xl.zip yl).length := by rw [List.length_zip, List.length_zip, rx.length, ry.length]
  generalize eH : putP (upd H p (.lst (as.map V.ref))) as (xs.zip ys) = H'
  have off : ∀ b, b ∉ as → b ≠ p → H' b = H b := fun b m n => by rw [← eH, putP_off _ _ m, upd_ne n]
  have atP : H' p = some (.lst (as.map V.ref)) := by rw [← eH, putP_off _ _ pn, upd_same]
  have atA : ∀ (j : Nat) (t : Addr) (q : V × V), as[j]? = some t → (xs.zip ys)[j]? = some q → H' t = some (.tup [q.1, q.2]) := fun j t q e1 e2 => by rw [← eH]; exact putP_at _ _ hG.nd j t q e1 e2
  have kp : ∀ b u, H b = some u → H' b = some u := fun b u e => by
    rw [off b (fun z => by rw [newA b z] at e; cases e) (fun z => by rw [z, newP] at e; cases e)]
    exact e
  have low : ∀ b o, s.heap.get? b = some o → b ∉ as ∧ b ≠ p := fun b o e => ⟨fun z => absurd (Heap.lt_size e) (Nat.not_lt.mpr (Nat.le_trans hp (Nat.le_trans (Nat.le_succ _) (hG.up b z)))), fun z => absurd (Heap.lt_size e) (by rw [z]; exact Nat.not_lt.mpr hp)⟩
  refine ⟨H', kp, newP, atP, fun j t q e1 e2 => ⟨newA t (List.mem_of_getElem? e1), atA j t q e1 e2⟩, ?_⟩
  refine I.call' (ch := []) rfl ⟨fun b o q _ _ _ => hk b o q, fun b o q _ _ _ => ⟨o.slots, hk b o q⟩, fun b o q n _ => ?_, fun b o q _ => ⟨o, hk b o q⟩, fun b xs q => kp b _ q, fun b o u q => kp b _ q, fun b ps q => ⟨#[], by rw [kp b _ q]; simp⟩⟩ (fun b u q => ?_) I.bare fun b z => by simp at z
  · obtain ⟨z1, z2⟩ := low b o q
    rw [off b z1 z2]
    exact n
  · by_cases hb : b ∈ as
    · obtain ⟨j, e1⟩ := List.mem_iff_getElem?.mp hb
      have jl : j < (xs.zip ys).length := by rw [lxy, ← hl]; exact (List.getElem?_eq_some_iff.mp e1).1
      have e2 : (xs.zip ys)[j]? = some (xs.zip ys)[j] := List.getElem?_eq_getElem jl
      generalize (xs.zip ys)[j] = qv at e2
      rw [atA j b qv e1 e2] at q
      cases q
      obtain ⟨pv, f1, f2⟩ := hG.at_ j b e1
      obtain ⟨g1, g2⟩ := List.getElem?_zip_eq_some.mp f1
      obtain ⟨g3, g4⟩ := List.getElem?_zip_eq_some.mp e2
      obtain ⟨u1, w1, r1⟩ := rx.get g3
      obtain ⟨u2, w2, r2⟩ := ry.get g4
      rw [g1] at w1
      rw [g2] at w2
      cases w1
      cases w2
      exact ⟨by show 2 ≤ sizeLine; decide, [pv.1, pv.2], .cons r1 (.cons r2 .nil), ⟨_, f2, rfl, _, rfl⟩⟩
    · by_cases hb2 : b = p
      · subst hb2
        rw [atP] at q
        cases q
        refine ⟨by rw [List.length_map, hl, ← lxy, List.length_zip]; exact Nat.le_trans (Nat.min_le_left _ _) hn, acc.toList, c, by rw [ha]; exact valsP as, ?_⟩
        rw [Array.toArray_toList]
        exact hS
      · rw [off b hb hb2] at q
        exact (I.hok b u q).stay (fun d v _ y => hk d v y) (fun d y => kp d _ y) fun d xs y => kp d _ y
theorem pe_listZip {e e2 : Expr} {ta : TA} {p p2 zpos pos : Pos} (hc : X.calm = true) (hg : Gl X "list") (hm : X.mg "list" = none) (hg2 : Gl X "zip") (hm2 : X.mg "zip" = none) (pa : PA X [e, e2] ta)
    (hs : starEach [e, e2] X.env = (false, eval e X.env) :: starEach [e2] X.env := by rfl) (hpl : (backTo zpos (starEach [e2] X.env)).any (·.1) = false := by rfl) (hs2 : starEach [.Call (.Name "zip" p2) [e, e2] [] zpos] X.env = (false, eval (.Call (.Name "zip" p2) [e, e2] [] zpos) X.env) :: starEach [] X.env := by rfl) :
    PE X (.Call (.Name "list" p) [.Call (.Name "zip" p2) [e, e2] [] zpos] [] pos) (tListZip X.K ta) := by
  refine ⟨fun pins s σ H Q I hq => ?_⟩
  refine wpAny_Call_Name_kw (ld_blt I hg hm (show bootBuiltins "list" = some (.type "list") by decide +kernel) (PyProof.Rows.callWith_type1 ?_ hs2 rfl))
  rw [hs2]
  show wpAny _ _ (spliced ((false, eval (.Call (.Name "zip" p2) [e, e2] [] zpos) X.env) :: backTo pos (starEach [] X.env))) _ _ s
  refine PySem.Calls.spliced_cons ?_
  refine wpAny_Call_Name_kw (ld_blt I hg2 hm2 PyProof.Rows.boot_zip (PyProof.Rows.callWith_type1 (thn (pa.run zpos pins s σ H _ I hq) fun us s1 ⟨vs, H1, I1, r1, q1⟩ => ?_) hs hpl))
  obtain ⟨a, b, xs, ys, rfl, hx, hy, q⟩ := q1
  cases r1 with
  | cons r rr =>
    cases rr with
    | cons r' rr =>
      cases rr
      cases r
      cases r'
      obtain ⟨xl, rvx, px, hzx⟩ := I1.tuple hx
      obtain ⟨yl, rvy, py, hzy⟩ := I1.tuple hy
      obtain ⟨o1, ho1, _⟩ := id px
      obtain ⟨o2, ho2, _⟩ := id py
      refine RZ.call_zipT (show s1.heap.IsTuple a xl.toArray from px) (show s1.heap.IsTuple b yl.toArray from py) fun h' hz hTI hTO n1 n2 hsz hk => ?_
      refine PySem.Calls.spliced_nil ?_
      refine zl_call (s := { s1 with heap := h' }) (I := s1.heap.objs.size) (xl := xl) (yl := yl) (I1.ok.hd hc) hz hTI hTO n1 n2 (let ⟨o, e, r⟩ := px; ⟨o, hk _ _ e, r⟩) (let ⟨o, e, r⟩ := py; ⟨o, hk _ _ e, r⟩) (Heap.lt_size ho1) (Heap.lt_size ho2) ?_ fun h2 tk acc c as k2 hS hl hG ha => ?_
      · rw [List.length_zip]
        refine Nat.le_trans (Nat.min_le_left _ _) ?_
        rw [← rvx.length]
        omega
      · have up : s1.heap.objs.size ≤ h'.objs.size := by rw [hsz]; exact Nat.le_add_right _ _
        obtain ⟨H', k1, k3, k4, k5, J⟩ := pairs_laid (tk := tk) I1 rvx rvy (by omega) (fun b o e => k2 b o (Heap.lt_size e) (hk b o e)) up hS hl hG ha
        exact ⟨.ref _, H', J, rfl, q H' _ as k1 k3 k4 (by rw [hl, List.length_zip, List.length_zip, rvx.length, rvy.length]) k5⟩
end
end DL

set_option maxHeartbeats 4000000
namespace DL
open PySem PySem.Spec PyProof.Rows L2
section
variable {R : Rs} {Γ : Gm R} {sl sl' : List SV} {tm : List (V × D)} {ow : List (Addr × MO)} {g : R.α} {σ σ' : L2.St} {H H' : Hp} {ι : Type} {X : ι → Cx} {E : XK}
/-! ## list(zip(t, u)), t[i:], not in -/
def zipD : List D → List D → List D
  | a :: as, b :: bs => .tup [a, b] :: zipD as bs
  | _, _ => []
theorem zipD_len : ∀ as bs : List D, (zipD as bs).length = min as.length bs.length
  | [], _ => by simp [zipD]
  | _ :: _, [] => by simp [zipD]
  | a :: as, b :: bs => by simp [zipD, zipD_len as bs, Nat.succ_min_succ]
theorem zip_data {K : PySem.W.Frag} {av : Addr → Prop} {H : Hp} : ∀ {xs ys : List V} {ds es : List D} {ts : List Addr}, DtAll K av H xs ds → DtAll K av H ys es → ts.length = (xs.zip ys).length → (∀ (j : Nat) (t : Addr) (q : V × V), ts[j]? = some t → (xs.zip ys)[j]? = some q → H t = some (.tup [q.1, q.2]) ∧ ¬ av t) →
    DtAll K av H (ts.map V.ref) (zipD ds es)
  | _, _, _, _, ts, .nil, _, hl, _ => by
    have : ts = [] := by simpa using hl
    subst this
    exact .nil
  | _, _, _, _, ts, .cons _ _, .nil, hl, _ => by
    have : ts = [] := by simpa using hl
    subst this
    exact .nil
  | _, _, _, _, [], .cons _ _, .cons _ _, hl, _ => by simp at hl
  | _, _, _, _, t :: ts, .cons (v := x) (vs := xs) d1 r1, .cons (v := y) (vs := ys) d2 r2, hl, h => by
    obtain ⟨e1, e2⟩ := h 0 t (x, y) rfl rfl
    refine .cons (.tup (SqTv.of e1 e2) (.cons d1 (.cons d2 .nil))) (zip_data r1 r2 (by simpa using hl) fun j t q a b => h (j + 1) t q (by simpa using a) (by simpa using b))
def fListZip (fa : FA R) : FE R := fun sl g => (fa sl g).bind fun ds g => match ds with
  | [.tup a, .tup b] => .ok (.lst (zipD a b)) g
  | _ => .bad
theorem ed_listZip {e e2 : Expr} {p p2 zpos pos : Pos} {fa : FA R} (ha : EA X E Γ [e, e2] fa) (pe : ∀ {ta} j, PA (X j) [e, e2] ta → PE (X j) (.Call (.Name "list" p) [.Call (.Name "zip" p2) [e, e2] [] zpos] [] pos) (tListZip Γ.K ta)) :
    ED X E Γ (.Call (.Name "list" p) [.Call (.Name "zip" p2) [e, e2] [] zpos] [] pos) (fListZip fa) := by
  obtain ⟨ta, pa, sa⟩ := ha
  refine ⟨_, fun j => pe j (pa j), fun sl tm ow g σ H Q S h => ?_⟩
  unfold fListZip at h
  refine sa sl tm ow g σ H _ S ?_
  cases e1 : fa sl g with
  | bad => rw [e1] at h; exact h
  | err C fs g' => rw [e1] at h; exact h
  | ok ds g' =>
    rw [e1] at h
    dsimp only [bind_ok] at h
    intro vs H1 S1 d1
    split at h
    · rename_i a b
      cases d1 with
      | cons d1 d2 =>
        cases d2 with
        | cons d2 d3 =>
          cases d3
          cases d1 with
          | tup q1 r1 =>
            cases d2 with
            | tup q2 r2 =>
              refine ⟨_, _, _, _, rfl, q1.seq, q2.seq, fun H' p ts k hp hl ln hz => h _ _ (S1.ext k) ?_⟩
              have k2 : ∀ b o, H1 b = some o → ¬ Γ.av sl ow σ b → H' b = some o ∧ ¬ Γ.av sl ow σ b := fun b o e n => ⟨k b o e, n⟩
              exact .lst (SqLv.of hl fun z => S1.avd z hp) (zip_data (r1.keep k2) (r2.keep k2) ln fun j t q e1 e2 => ⟨(hz j t q e1 e2).2, fun z => S1.avd z (hz j t q e1 e2).1⟩)
    · exact h.elim
/-- t[i:] -/
def fSlT (fa fi : FE R) : FE R := fun sl g => (fa sl g).bind fun d g => (fi sl g).bind fun e g => match d, e with
  | .tup ds, .int i => if 0 ≤ i then .ok (.tup (ds.drop i.toNat)) g else .bad
  | _, _ => .bad
theorem sIx_lo {n : Nat} {i : Int} (h : 0 ≤ i) : HT.sIx n 0 (some i) = min i.toNat n := by
  show (if i < 0 then (i + (n : Int)).toNat else min i.toNat n) = _
  rw [if_neg (by omega)]
theorem cut_drop {xs : List V} {i : Int} (h : 0 ≤ i) : cutV xs (some i) none = xs.drop i.toNat := by
  show (xs.drop (HT.sIx xs.length 0 (some i))).take (HT.sIx xs.length xs.length none - HT.sIx xs.length 0 (some i)) = _
  rw [sIx_lo h, show HT.sIx xs.length xs.length none = xs.length from rfl]
  by_cases q : i.toNat ≤ xs.length
  · rw [Nat.min_eq_left q, List.take_of_length_le (by rw [List.length_drop]; exact Nat.le_refl _)]
  · rw [Nat.min_eq_right (by omega), List.drop_length, List.drop_eq_nil_of_le (by omega), List.take_nil]
theorem ed_slT {a i : Expr} {fa fi : FE R} {p2 pos : Pos} (ha : ED X E Γ a fa) (hi : ED X E Γ i fi)
    (pe : ∀ {ta ti} j, PE (X j) a ta → PE (X j) i ti → PE (X j) (.Subscript a (.Slice (some i) none none p2) pos) (tSl (rSlA Γ.K) ta (tPart ti) tNoPart)) : ED X E Γ (.Subscript a (.Slice (some i) none none p2) pos) (fSlT fa fi) := by
  obtain ⟨ta, pa, sa⟩ := ha
  obtain ⟨tb, pb, sb⟩ := hi
  refine ⟨_, fun j => pe j (pa j) (pb j), fun sl tm ow g σ H Q S h => ?_⟩
  unfold fSlT at h
  refine sa sl tm ow g σ H _ S ?_
  cases ea : fa sl g with
  | bad => rw [ea] at h; exact h
  | err C fs g1 => rw [ea] at h; exact h
  | ok x g1 =>
    rw [ea] at h
    intro v H1 S1 d1
    refine sb sl ((v, x) :: tm) ow g1 σ H1 _ (S1.push d1) ?_
    dsimp only [bind_ok] at h
    cases eb : fi sl g1 with
    | bad => rw [eb] at h; exact h
    | err C fs g2 => rw [eb] at h; exact fun y H2 S2 x2 => h y H2 S2.pop x2
    | ok y g2 =>
      rw [eb] at h
      dsimp only [bind_ok] at h
      intro u H2 S2 d2
      have d1' := S2.top
      split at h
      · rename_i ds i
        by_cases hi : 0 ≤ i
        · rw [if_pos hi] at h
          cases d2
          cases d1' with
          | tup q r =>
            refine ⟨i, rfl, _, _, rfl, q.seq, fun hw => ?_, fun _ p hp => ?_⟩
            · have e : i.toNat = 0 ∨ ds.length = 0 := by
                rw [sIx_lo hi, r.length] at hw
                have := hw.1
                omega
              refine h _ _ S2.pop ?_
              have e2 : ds.drop i.toNat = ds := by
                rcases e with e | e
                · rw [e]; rfl
                · rw [List.eq_nil_of_length_eq_zero e, List.drop_nil]
              rw [e2]
              exact S2.top
            · rw [cut_drop hi]
              have S3 := S2.pop.newT (r.dropN i.toNat) hp
              exact h _ _ S3.pop S3.top
        · rw [if_neg hi] at h
          exact h.elim
      · exact h.elim
/-- None not in xs, of a list of integers and None -/
def isNI : D → Bool
  | .non => true
  | .int _ => true
  | _ => false
def ninN : D → D → Option D
  | .non, .lst ds => if ds.all isNI = true then some (.bl (!ds.any D.isNon)) else none
  | _, _ => none
theorem inV_non {K : PySem.W.Frag} {av : Addr → Prop} {H : Hp} : ∀ {xs : List V} {ds : List D}, DtAll K av H xs ds → ds.all isNI = true → xs.all flatV = true ∧ inV V.non xs = ds.any D.isNon
  | _, _, .nil, _ => ⟨rfl, rfl⟩
  | _, _, .cons (vs := vs) d r, h => by
    simp only [List.all_cons, Bool.and_eq_true] at h
    obtain ⟨h1, h2⟩ := h
    obtain ⟨a, b⟩ := inV_non r h2
    cases d <;> first | (cases h1; done) | skip
    · exact ⟨by simpa [flatV] using a, by
        show (eqV V.non V.non || inV V.non vs) = _
        rw [b]
        rfl⟩
    · exact ⟨by simpa [flatV] using a, by
        rename_i z
        show (eqV (V.int z) V.non || inV V.non vs) = _
        rw [b]
        rfl⟩
theorem s_ninN : OpS Γ (rIn Γ.K true) ninN := by
  intro sl tm ow g σ H x y d e z Q S dx dy eo k
  unfold ninN at eo
  split at eo
  · rename_i ds
    split at eo
    · rename_i c
      cases eo
      cases dx
      cases dy with
      | lst q r =>
        obtain ⟨a, b⟩ := inV_non r c
        refine ⟨_, _, rfl, .inl q.seq, rfl, a, ?_⟩
        rw [if_pos rfl, b]
        exact k _ _ S (fun _ _ e => e) (.bl _)
    · cases eo
  · cases eo
/-! ## tuple(xs) of a list that is changed -/
def fTupMu (i : Nat) : FE R := fun sl g => match sl[i]? with
  | some (.mu (.lst ds)) => .ok (.tup ds) g
  | _ => .bad
theorem ed_tupMu {i : Nat} {e : Expr} (pe : ∀ j, PE (X j) e (tCB (fun xs H Q => ∃ p ys, xs = [V.ref p] ∧ ((SqL Γ.K H p ys ∧ ∀ l, H l = none → Q (.ref l) (upd H l (.tup ys))) ∨ (SqT Γ.K H p ys ∧ Q (.ref p) H))) (tCons (tVar i) tNil))) : ED X E Γ e (fTupMu i) := by
  refine ⟨_, pe, fun sl tm ow g σ H Q S h => ?_⟩
  unfold fTupMu at h
  split at h
  · rename_i ds e1
    obtain ⟨a, e2, vs, hl, hd⟩ := S.slots i _ e1
    refine ⟨_, e2, a, vs, rfl, .inl ⟨SqL.of hl, fun l hp => ?_⟩⟩
    have S2 := S.newT hd hp
    exact h _ _ S2.pop S2.top
  · exact h.elim
/-! ## a, xs = e, [] -/
def sParN (i j : Nat) (f : FE R) : FS R := fun sl g => (f sl g).toS fun d g => .nx ((sl.set i (.dat d)).set j (.mu (.lst []))) g
theorem es_parN {i j : Nat} {x y : Str} {a : Expr} {f : FE R} {px py pt pl : Pos} {kt k2 pt2 pos} (h : ED X E Γ a f) (ps : ∀ {ta} k, PA (X k) [a, .List [] pl] ta → PS (X k) (.Assign [.Tuple [.Name x px, .Name y py] kt pt] (.Tuple [a, .List [] pl] k2 pt2) pos) (tPar i j ta)) (hs : ∀ k, starEach [a, .List [] pl] (X k).env = (false, eval a (X k).env) :: starEach [.List [] pl] (X k).env := by intro _; rfl) :
    ES X E Γ (.Assign [.Tuple [.Name x px, .Name y py] kt pt] (.Tuple [a, .List [] pl] k2 pt2) pos) (sParN i j f) := by
  obtain ⟨t, p, s⟩ := h
  refine ⟨_, fun k => ps k (pa_cons (p k) (pa_cons (pe_lst pa_nil) pa_nil) (hs k)), fun sl tm ow g σ H Dn S h => ?_⟩
  unfold sParN at h
  refine s sl tm ow g σ H _ S (toS_okV (sl := sl) (σ := σ) h fun d g' _ q v H' S' dv => ?_)
  exact ⟨Nat.zero_le _, fun p hp => ⟨_, _, rfl, q _ _ ((S'.setD (i := i) dv).setNew (i := j) hp ⟨[], upd_same, .nil⟩)⟩⟩
/-! ## xs[i] = e of a list that is changed -/
def sItm (i : Nat) (fi fe : FE R) : FS R := fun sl g => match sl[i]? with
  | some (.mu (.lst ds)) => (fe sl g).toS fun d g => (fi sl g).toS fun k g => match k with
    | .int n => if 0 ≤ n ∧ n.toNat < ds.length then .nx (sl.set i (.mu (.lst (ds.set n.toNat d)))) g else .bad
    | _ => .bad
  | _ => .bad
theorem DtAll.set {K : PySem.W.Frag} {av : Addr → Prop} {H : Hp} {v : V} {d : D} (h : Dt K av H v d) : ∀ {xs : List V} {ds : List D} (n : Nat), DtAll K av H xs ds → DtAll K av H (xs.set n v) (ds.set n d)
  | _, _, _, .nil => .nil
  | _, _, 0, .cons _ t => .cons h t
  | _, _, n + 1, .cons a t => .cons a (DtAll.set h n t)
theorem es_itm {i : Nat} {x : Str} {ei e : Expr} {fi fe : FE R} {px pt pos : Pos} (hv : ∀ j, PE (X j) (.Name x px) (tVar i)) (hi : ED X E Γ ei fi) (he : ED X E Γ e fe)
    (ps : ∀ {ti te} j, PE (X j) ei ti → PE (X j) e te → PS (X j) (.Assign [.Subscript (.Name x px) ei pt] e pos) (tAsg te (gSub (tVar i) ti rSetL))) : ES X E Γ (.Assign [.Subscript (.Name x px) ei pt] e pos) (sItm i fi fe) := by
  obtain ⟨t1, p1, s1⟩ := he
  obtain ⟨t2, p2, s2⟩ := hi
  refine ⟨_, fun j => ps j (p2 j) (p1 j), fun sl tm ow g σ H Dn S h => ?_⟩
  unfold sItm at h
  split at h
  · rename_i ds e1
    refine s1 sl tm ow g σ H _ S (toS_okV (sl := sl) (σ := σ) h fun d g' _ q v H' S' dv => ?_)
    obtain ⟨a, e2, vs, hl, hd⟩ := S'.slots i _ e1
    refine ⟨_, e2, ?_⟩
    refine s2 sl ((v, d) :: tm) ow g' σ H' _ (S'.push dv) ?_
    cases ek : fi sl g' with
    | bad => rw [ek] at q; exact q
    | err C fs g2 => rw [ek] at q; exact OkX.of q
    | ok k g2 =>
      rw [ek] at q
      dsimp only [toS_ok] at q
      intro u H2 S2 dk
      split at q
      · rename_i n
        by_cases hc : 0 ≤ n ∧ n.toNat < ds.length
        · rw [if_pos hc] at q
          cases dk
          obtain ⟨a', e3, vs', hl', hd'⟩ := S2.slots i _ e1
          rw [e2] at e3
          cases e3
          have hlen := hd'.length
          refine ⟨a, vs', n, n.toNat, rfl, rfl, hl', ?_, ?_⟩
          · show (if 0 ≤ n then (if n < (vs'.length : Int) then some n.toNat else none) else _) = _
            rw [if_pos hc.1, if_pos (by omega)]
          · refine q _ _ ((S2.pop.change e1 e2 ⟨vs'.set n.toNat v, upd_same, (DtAll.set S2.top n.toNat hd').keep fun b o e nn => ⟨?_, nn⟩⟩))
            have : b ≠ a := fun z => nn (by rw [z]; exact .inr (.inr (.inl ⟨i, _, e1, e2⟩)))
            rw [upd_ne this]
            exact e
        · rw [if_neg hc] at q
          exact q.elim
      · exact q.elim
  · exact h.elim
end
end DL

set_option maxHeartbeats 4000000
namespace DL
open PySem PySem.Spec PyProof.Rows L2
section
variable {R : Rs} {Γ : Gm R} {sl sl' : List SV} {tm : List (V × D)} {ow : List (Addr × MO)} {g : R.α} {σ σ' : L2.St} {H H' : Hp} {ι : Type} {X : ι → Cx} {E : XK}
/-! ## a comprehension as a new list -/
def rmH (H : Hp) (p : Addr) : Hp := fun b => if b = p then none else H b
theorem rm_same {H : Hp} {p : Addr} : rmH H p p = none := if_pos rfl
theorem rm_ne {H : Hp} {p b : Addr} (h : b ≠ p) : rmH H p b = H b := if_neg h
theorem rm_upd {H : Hp} {p : Addr} {o : HO} (h : H p = some o) : upd (rmH H p) p o = H := by
  funext b
  by_cases e : b = p
  · rw [e, upd_same, h]
  · rw [upd_ne e, rm_ne e]
theorem SRel.unlay {m : MO} {p : Addr} (S : SRel Γ sl tm ((p, m) :: ow) g σ H) : SRel Γ sl tm ow g σ (rmH H p) := by
  have op : own sl ((p, m) :: ow) σ p := .inr ⟨m, List.mem_cons_self⟩
  have sub : ∀ b, own sl ow σ b → own sl ((p, m) :: ow) σ b := fun b h => by
    rcases h with h | ⟨m2, h⟩
    · exact .inl h
    · exact .inr ⟨m2, List.mem_cons_of_mem _ h⟩
  have sav : ∀ b, Γ.av sl ow σ b → Γ.av sl ((p, m) :: ow) σ b := fun b h => by
    rcases h with h | h | h
    · exact .inl h
    · exact .inr (.inl h)
    · exact .inr (.inr (sub b h))
  have k2 : ∀ b o, H b = some o → ¬ Γ.av sl ((p, m) :: ow) σ b → rmH H p b = some o ∧ ¬ Γ.av sl ow σ b := fun b o e n => ⟨by rw [rm_ne fun z => n (by rw [z]; exact .inr (.inr op))]; exact e, fun z => n (sav b z)⟩
  refine ⟨S.len, fun b o e n => ?_, R.stab (fun b o e n => ⟨?_, fun z => n ?_⟩) S.res, fun i s e => ?_, fun v d e => (S.tms v d e).keep k2, fun a m2 e => ?_, fun a h => S.ofr a (sub a h), S.uq1, fun i a m2 m' e1 e2 e3 => S.uq2 i a m2 m' e1 e2 (List.mem_cons_of_mem _ e3), ?_⟩
  · rw [rm_ne fun z => ?_]
    · exact S.frame b o e n
    · rw [z, S.ofr p op] at e
      cases e
  · rw [rm_ne fun z => n (by rw [z]; exact .inr op)]
    exact e
  · rcases z with z | z
    · exact .inl z
    · exact .inr (sub b z)
  · have q := S.slots i s e
    cases s with
    | un => trivial
    | dat d => obtain ⟨v, e1, e2⟩ := q; exact ⟨v, e1, e2.keep k2⟩
    | mu m2 =>
      obtain ⟨a, e1, e2⟩ := q
      refine ⟨a, e1, e2.keep k2 fun o z => ?_⟩
      rw [rm_ne fun y => S.uq2 i a m2 m e e1 (by rw [y]; exact List.mem_cons_self)]
      exact z
  · refine (S.ows a m2 (List.mem_cons_of_mem _ e)).keep k2 fun o z => ?_
    have nd := S.uq3
    rw [List.map_cons, List.nodup_cons] at nd
    rw [rm_ne fun y => nd.1 (by rw [← y]; exact List.mem_map_of_mem (f := Prod.fst) (a := (a, m2)) e)]
    exact z
  · have nd := S.uq3
    rw [List.map_cons, List.nodup_cons] at nd
    exact nd.2
def fLcN (fi : FA R) (js : List Nat) (gf : FG) (ft : FT R) (fe : FE R) : FA R := fun sl g => (fi sl g).bind fun ds g => if allUn js sl = true then (lcD gf ft fe ds sl g).bind fun xs g => if xs.length ≤ 100000 then .ok xs g else .bad else .bad
theorem lcn_parts {elt tg iter : Expr} {ifs : List Expr} {scope : Scope} {own : List (Str × Nat)} {pos : Pos} {fi : FA R} {gf : FG} {ft : FT R} {fe : FE R} (hi : EI X E Γ tg iter fi)
    (hg : EG (fun q : ι × Shared × Hp × Addr × List (Str × Addr) × List Addr => (X q.1).blk q.2.1 q.2.2.1 scope (compEnvC scope q.2.2.2.2.1 q.2.2.2.1 (X q.1).env) q.2.2.2.2.2) Γ tg (own.map (·.2)) gf)
    (ht : ∃ tt, (∀ q : ι × Shared × Hp × Addr × List (Str × Addr) × List Addr, PTs ((X q.1).blk q.2.1 q.2.2.1 scope (compEnvC scope q.2.2.2.2.1 q.2.2.2.1 (X q.1).env) q.2.2.2.2.2) ifs tt) ∧ ∀ sl tm ow g σ H Q, SRel Γ sl tm ow g σ H → OkT Γ sl tm ow σ E0 Q (ft sl g) → tt σ H Q)
    (he : ED (fun q : ι × Shared × Hp × Addr × List (Str × Addr) × List Addr => (X q.1).blk q.2.1 q.2.2.1 scope (compEnvC scope q.2.2.2.2.1 q.2.2.2.1 (X q.1).env) q.2.2.2.2.2) E0 Γ elt fe) :
    ∃ (wi : TI) (gt : TG) (tt : TT) (te : TE), (∀ j, PI (X j) tg iter wi) ∧ (∀ q : ι × Shared × Hp × Addr × List (Str × Addr) × List Addr, PG ((X q.1).blk q.2.1 q.2.2.1 scope (compEnvC scope q.2.2.2.2.1 q.2.2.2.1 (X q.1).env) q.2.2.2.2.2) tg gt) ∧
      (∀ q : ι × Shared × Hp × Addr × List (Str × Addr) × List Addr, PTs ((X q.1).blk q.2.1 q.2.2.1 scope (compEnvC scope q.2.2.2.2.1 q.2.2.2.1 (X q.1).env) q.2.2.2.2.2) ifs tt) ∧
      (∀ q : ι × Shared × Hp × Addr × List (Str × Addr) × List Addr, PE ((X q.1).blk q.2.1 q.2.2.1 scope (compEnvC scope q.2.2.2.2.1 q.2.2.2.1 (X q.1).env) q.2.2.2.2.2) elt te) ∧
      ∀ sl tm ow g σ H Q, SRel Γ sl tm ow g σ H → OkN Γ sl tm ow σ E Q (fLcN fi (own.map (·.2)) gf ft fe sl g) → tLc wi gt tt te (own.map (·.2)) σ H Q := by
  obtain ⟨wi, pi, si⟩ := hi
  obtain ⟨gt, pg, apg, sg⟩ := hg
  obtain ⟨tt, pt, st⟩ := ht
  obtain ⟨te, pe, se⟩ := he
  refine ⟨wi, gt, tt, te, pi, pg, pt, pe, fun sl tm ow g σ H Q S h => ?_⟩
  refine si sl tm ow g σ H _ S ?_
  unfold fLcN at h
  cases e : fi sl g with
  | bad => rw [e] at h; exact h
  | err C fs g' => rw [e] at h; exact h
  | ok ds g' =>
    rw [e] at h
    dsimp only [bind_ok] at h
    intro J H1 hs S1 wk Dd hD
    by_cases hu : allUn (own.map (·.2)) sl = true
    · rw [if_pos hu] at h
      have un := allUn_of hu
      refine ⟨fun i m H => i ≤ ds.length ∧ m = ds.length - i ∧ ∃ g acc, SRel Γ sl (hs ++ tm) ((Dd, .lst acc) :: ow) g (wipe σ (own.map (·.2))) H ∧ OkN Γ sl tm ow σ E Q ((lcD gf ft fe (ds.drop i) sl g).bind fun xs g => if (acc ++ xs).length ≤ 100000 then .ok (acc ++ xs) g else .bad),
        ⟨ds.length, Nat.zero_le _, rfl, g', [], wipe_un un (S1.hide hD ⟨[], upd_same, .nil⟩), h⟩, ?_⟩
      rintro i m H ⟨hi, rfl, g, acc, S, h⟩
      by_cases hl : i < ds.length
      · refine .inr ⟨wk.go S hl, fun H' => ∃ g acc, SRel Γ sl (hs ++ tm) ((Dd, .lst acc) :: ow) g (wipe σ (own.map (·.2))) H' ∧ OkN Γ sl tm ow σ E Q ((lcD gf ft fe (ds.drop (i + 1)) sl g).bind fun xs g => if (acc ++ xs).length ≤ 100000 then .ok (acc ++ xs) g else .bad), fun H' q => ⟨ds.length - (i + 1), by omega, hl, rfl, q⟩, fun x H' y => ?_⟩
        obtain ⟨S', d, e1, e2⟩ := wk.yld S hl y
        have ed : ds.drop i = d :: ds.drop (i + 1) := by
          rw [List.drop_eq_getElem_cons hl]
          rw [List.getElem?_eq_getElem hl] at e1
          rw [Option.some.inj e1]
        rw [ed] at h
        unfold lcD at h
        cases eg : gf d sl with
        | none => rw [eg] at h; exact h.elim
        | some sl1 =>
          rw [eg] at h
          dsimp only at h
          have ap1 := apg _ _ _ eg
          refine sg sl (hs ++ tm) ((Dd, .lst acc) :: ow) g _ H' x d sl1 _ S' e2 eg fun σ1 S2 ap2 => ⟨wipe_ap ap2, ?_⟩
          have back : ∀ {tm' : List (V × D)} {ow' : List (Addr × MO)} {g' : R.α} {H3 : Hp}, SRel Γ sl1 tm' ow' g' σ1 H3 → SRel Γ sl tm' ow' g' (wipe σ (own.map (·.2))) H3 := fun {tm' ow' g' H3} S3 => S3.forget ap1.1.symm ap2.1.symm fun i => by
            by_cases hi : i ∈ own.map (·.2)
            · exact .inl (un i hi)
            · exact .inr ⟨(ap1.2 i hi).symm, (ap2.2 i hi).symm⟩
          refine st sl1 (hs ++ tm) ((Dd, .lst acc) :: ow) g σ1 H' _ S2 ?_
          cases et : ft sl1 g with
          | bad => rw [et] at h; exact h.elim
          | err C fs g2 => rw [et] at h; exact h.elim
          | ok c g2 =>
            rw [et] at h
            dsimp only [bind_ok, noerr_ok] at h
            intro H3 S3
            cases c with
            | false =>
              refine iteF ⟨g2, acc, back S3, ?_⟩
              rw [if_neg Bool.false_ne_true] at h
              exact h
            | true =>
              rw [if_pos rfl] at h
              refine iteT (se sl1 (hs ++ tm) ((Dd, .lst acc) :: ow) g2 σ1 H3 _ S3 ?_)
              cases ee : fe sl1 g2 with
              | bad => rw [ee] at h; exact h.elim
              | err C fs g3 => rw [ee] at h; exact h.elim
              | ok x2 g3 =>
                rw [ee] at h
                dsimp only [bind_ok, noerr_ok] at h
                intro y H4 S4 dy
                obtain ⟨vs, hv1, hv2⟩ := S4.ows Dd _ List.mem_cons_self
                have hacc : acc.length < 100000 ∨ False := by
                  cases el : lcD gf ft fe (ds.drop (i + 1)) sl g3 with
                  | bad => rw [el] at h; exact h.elim
                  | err C fs g4 => rw [el] at h; exact h.elim
                  | ok xs g4 =>
                    rw [el] at h
                    dsimp only [bind_ok, noerr_ok] at h
                    by_cases hz : (acc ++ (x2 :: xs)).length ≤ 100000
                    · rw [List.length_append, List.length_cons] at hz
                      exact .inl (by omega)
                    · rw [if_neg hz] at h
                      exact h.elim
                refine ⟨vs, hv1, by rw [hv2.length]; exact lim_lt (hacc.resolve_right id), g3, acc ++ [x2], back (S4.hidden ⟨vs ++ [y], upd_same, (DtAll.app hv2 (.cons dy .nil)).keep fun b o e n => ⟨?_, n⟩⟩), ?_⟩
                · have : b ≠ Dd := fun z => n (by rw [z]; exact .inr (.inr (.inr ⟨_, List.mem_cons_self⟩)))
                  rw [upd_ne this]
                  exact e
                · cases el : lcD gf ft fe (ds.drop (i + 1)) sl g3 with
                  | bad => rw [el] at h; exact h.elim
                  | err C fs g4 => rw [el] at h; exact h.elim
                  | ok xs g4 =>
                    rw [el] at h
                    dsimp only [bind_ok, noerr_ok] at h ⊢
                    rw [List.append_assoc]
                    exact h
      · have ei : i = ds.length := by omega
        refine .inl ⟨wk.stop S ei, ?_⟩
        rw [ei, List.drop_length] at h
        unfold lcD at h
        dsimp only [bind_ok] at h
        rw [List.append_nil] at h
        by_cases hz : acc.length ≤ 100000
        · rw [if_pos hz] at h
          have S5 := unwipe un S
          obtain ⟨vs, hv1, hv2⟩ := S5.ows Dd _ List.mem_cons_self
          have S6 := S5.unlay
          have z := h Dd vs (rmH _ Dd) (S6.sub fun p q => List.mem_append_right _ q) rm_same (hv2.keep fun b o e n => ⟨?_, fun y => n ?_⟩)
          · rw [rm_upd hv1] at z
            exact z
          · rw [rm_ne fun y => n (by rw [y]; exact .inr (.inr (.inr ⟨_, List.mem_cons_self⟩)))]
            exact e
          · rcases y with y | y | y | ⟨m2, y⟩
            · exact .inl y
            · exact .inr (.inl y)
            · exact .inr (.inr (.inl y))
            · exact .inr (.inr (.inr ⟨m2, List.mem_cons_of_mem _ y⟩))
        · rw [if_neg hz] at h
          exact h.elim
    · rw [if_neg hu] at h
      exact h.elim
theorem en_lc {elt tg iter : Expr} {ifs : List Expr} {scope : Scope} {own : List (Str × Nat)} {pos : Pos} {fi : FA R} {gf : FG} {ft : FT R} {fe : FE R} (hc : ∀ j, (X j).calm = true) (hN : ∀ j, (X j).N.Nodup) (hi : EI X E Γ tg iter fi) (ok : ∀ j, BlkOk (X j).N (X j).env.scope scope own)
    (hg : EG (fun q : ι × Shared × Hp × Addr × List (Str × Addr) × List Addr => (X q.1).blk q.2.1 q.2.2.1 scope (compEnvC scope q.2.2.2.2.1 q.2.2.2.1 (X q.1).env) q.2.2.2.2.2) Γ tg (own.map (·.2)) gf)
    (ht : ∃ tt, (∀ q : ι × Shared × Hp × Addr × List (Str × Addr) × List Addr, PTs ((X q.1).blk q.2.1 q.2.2.1 scope (compEnvC scope q.2.2.2.2.1 q.2.2.2.1 (X q.1).env) q.2.2.2.2.2) ifs tt) ∧ ∀ sl tm ow g σ H Q, SRel Γ sl tm ow g σ H → OkT Γ sl tm ow σ E0 Q (ft sl g) → tt σ H Q)
    (he : ED (fun q : ι × Shared × Hp × Addr × List (Str × Addr) × List Addr => (X q.1).blk q.2.1 q.2.2.1 scope (compEnvC scope q.2.2.2.2.1 q.2.2.2.1 (X q.1).env) q.2.2.2.2.2) E0 Γ elt fe)
    (hs : ∀ j, ∀ x, foldedSetIterable iter (X j).env x = pure x := by intro _ _; rfl) : EN Γ X E (.ListComp elt [⟨tg, iter, ifs, 0⟩] scope pos) (fLcN fi (own.map (·.2)) gf ft fe) := by
  obtain ⟨wi, gt, tt, te, pi, pg, pt, pe, snd⟩ := lcn_parts (E := E) (pos := pos) hi hg ht he
  exact ⟨_, fun j => pe_lc (hc j) (hN j) (pi j) (ok j) (fun s H C cl fp => pg (j, s, H, C, cl, fp)) (fun s H C cl fp => pt (j, s, H, C, cl, fp)) (fun s H C cl fp => pe (j, s, H, C, cl, fp)) (hs j), snd⟩

theorem es_setLcN {i : Nat} {y : Str} {py : Pos} {spos : Pos} {elt tg iter : Expr} {ifs : List Expr} {scope : Scope} {own : List (Str × Nat)} {pos : Pos} {fi : FA R} {gf : FG} {ft : FT R} {fe : FE R} (hc : ∀ j, (X j).calm = true) (hN : ∀ j, (X j).N.Nodup) (hy : ∀ j, (X j).N[i]? = some y) (hyl : ∀ j, (X j).env.scope.names.lookup y = some .local) (hsw : ∀ j, swapsWith (.ListComp elt [⟨tg, iter, ifs, 0⟩] scope pos) (some (.Name y py)) spos.line (X j).env = pure true) (hi : EI X E Γ tg iter fi) (ok : ∀ j, BlkOk (X j).N (X j).env.scope scope own)
    (hg : EG (fun q : ι × Shared × Hp × Addr × List (Str × Addr) × List Addr => (X q.1).blk q.2.1 q.2.2.1 scope (compEnvC scope q.2.2.2.2.1 q.2.2.2.1 (X q.1).env) q.2.2.2.2.2) Γ tg (own.map (·.2)) gf)
    (ht : ∃ tt, (∀ q : ι × Shared × Hp × Addr × List (Str × Addr) × List Addr, PTs ((X q.1).blk q.2.1 q.2.2.1 scope (compEnvC scope q.2.2.2.2.1 q.2.2.2.1 (X q.1).env) q.2.2.2.2.2) ifs tt) ∧ ∀ sl tm ow g σ H Q, SRel Γ sl tm ow g σ H → OkT Γ sl tm ow σ E0 Q (ft sl g) → tt σ H Q)
    (he : ED (fun q : ι × Shared × Hp × Addr × List (Str × Addr) × List Addr => (X q.1).blk q.2.1 q.2.2.1 scope (compEnvC scope q.2.2.2.2.1 q.2.2.2.1 (X q.1).env) q.2.2.2.2.2) E0 Γ elt fe)
    (hs : ∀ j, ∀ x, foldedSetIterable iter (X j).env x = pure x := by intro _ _; rfl) :
    ES X E Γ (.Assign [.Name y py] (.ListComp elt [⟨tg, iter, ifs, 0⟩] scope pos) spos) (sSetN i (fLcN fi (own.map (·.2)) gf ft fe)) := by
  obtain ⟨wi, gt, tt, te, pi, pg, pt, pe, snd⟩ := lcn_parts (E := E) (pos := pos) hi hg ht he
  refine ⟨_, fun j => ps_setLc (hc j) (hN j) (hy j) (hyl j) (hsw j) (pi j) (ok j) (fun s H C cl fp => pg (j, s, H, C, cl, fp)) (fun s H C cl fp => pt (j, s, H, C, cl, fp)) (fun s H C cl fp => pe (j, s, H, C, cl, fp)) (hs j), fun sl tm ow g σ H Dn S h => ?_⟩
  refine snd sl tm ow g σ H _ S ?_
  unfold sSetN at h
  cases e1 : fLcN fi (own.map (·.2)) gf ft fe sl g with
  | bad => rw [e1] at h; exact h
  | err C fs g' => rw [e1] at h; exact OkX.of h
  | ok l g' =>
    rw [e1] at h
    exact fun p vs H' S' hp dA => h _ _ (S'.setNew hp ⟨vs, upd_same, dA.keep fun b o e n => ⟨upd_keep hp b o e, fun z => by
      rcases z with z | z
      · exact n z
      · exact ne_of_none e hp z⟩⟩)
end
end DL

set_option maxHeartbeats 4000000
namespace DL
open PySem PySem.Spec PyProof.Rows L2
/-! ## C.m(e, *y), a classmethod; x(e) where x is a class; x in a tuple -/
def tCmS (K : PySem.W.Frag) (C : Addr) (sp : Sp) (E : XK) (ta t1 t2 : TE) : TE := fun σ H Q => ta σ H fun x H1 => x = .ref C ∧ t1 σ H1 fun y1 H2 => t2 σ H2 fun y2 H3 => ∃ b vs, y2 = .ref b ∧ (SqT K H3 b vs ∨ SqL K H3 b vs) ∧ sp (.ref C :: y1 :: vs) H3 Q E
theorem pe_cmS {X : Cx} {CX : CXT} {k : Nat} {C p g : Addr} {mc : Value} {m : Str} {sp : Sp} {E : XK} {o e1 e2 : Expr} {ta t1 t2 : TE} {sp_ apos pos : Pos} (he : PE X o ta) (r : ClX.CRead X.K C mc) (c : ClX.CMet X.K C mc m p g) (F : FnR X.prog X.w X.K X.mg X.base CX k g sp) (hr : Room k X.A)
    (hx : Passes CX X E) (h1 : PE X e1 t1) (h2 : PE X e2 t2) (hbase : attributeBase o m X.env (eval o X.env) = eval o X.env := by rfl) (hst : starEach [e1, .Starred e2 sp_] X.env = [(false, eval e1 X.env), (true, eval e2 X.env)] := by rfl) :
    PE X (.Call (.Attribute o m apos) [e1, .Starred e2 sp_] [] pos) (tCmS X.K C sp E ta t1 t2) := by
  refine ⟨fun pins s σ H Q I h => starcall2_of hbase hst (thn (he.run pins s σ H _ I h) fun u s1 ⟨x, H1, I1, rx, ex, q⟩ => ?_)⟩
  subst ex
  obtain rfl : u = Value.ref C := rx
  refine ClX.getcmet_ok I1 r c fun s2 I2 => ?_
  refine PySem.W.ks_call (P := PySem.W.MethP X.K s1.heap.objs.size g (.ref C)) rfl (PySem.W.keeps_M c.fi) (Calls.evalArgs_plain (Calls.spliced_cons (thn (h1.run _ s2 σ _ _ I2 q) fun v1 s3 ⟨y1, H2, I3, ry1, q2⟩ =>
    PySem.W.ks_spliced (thn (h2.run _ s3 σ H2 _ I3 q2) fun v2 s4 ⟨y2, H3, I4, ry2, t, vs, ey, ht, hsp⟩ => ?_))))
  subst ey
  obtain rfl : v2 = Value.ref t := ry2
  refine StX.star_any I4 ht fun us s5 I5 rv => Calls.spliced_nil ?_
  show PySem.W.MethP X.K s1.heap.objs.size g (.ref C) s5.heap ∧ wpAny (model X.prog X.w) X.A (call (.ref s1.heap.objs.size) (v1 :: (us ++ [])) []) (EP X pins σ Q) X.xe s5
  rw [List.append_nil]
  exact ⟨⟨ClX.pin_at I5, I5.kIn⟩, ClX.run_cm F hr hx I5 (.cons ry1 rv) hsp⟩
/-- x(e, ..) where the local x is the class at C -/
def tMakeV (i : Nat) (C : Addr) (sp : Sp) (dvs : List V) (E : XK) (t : TA) : TE := fun σ H Q => σ[i]? = some (some (V.ref C)) ∧ tMake C sp dvs E t σ H Q
theorem pe_makeV {X : Cx} {CX : CXT} {k i : Nat} {f C : Addr} {fd : FuncData} {ps : List Str} {ds : List Value} {dvs : List V} {sp : Sp} {E : XK} {x : Str} {e : Expr} {es : List Expr} {t : TA} {p pos : Pos} (hv : PE X (.Name x p) (tVar i)) (M : Mk X.K C f) (F : FnOk X.prog X.w X.K X.mg X.base CX k f fd ps sp) (hr : Room (k + 1) X.A)
    (hb : Binds X.K fd ps ds) (hd : L2.Vals dvs ds) (hx : Passes CX X E) (ha : PA X (e :: es) t) (he : starEach (e :: es) X.env = (false, eval e X.env) :: starEach es X.env := by rfl) (hpl : (backTo pos (starEach es X.env)).any (·.1) = false := by rfl) :
    PE X (.Call (.Name x p) (e :: es) [] pos) (tMakeV i C sp dvs E t) := by
  refine ⟨fun pins s σ H Q I h => ?_⟩
  refine wpAny_Call_Name_kw (thn (hv.run pins s σ H (fun y H1 => y = .ref C ∧ tMake C sp dvs E t σ H1 Q) I ⟨.ref C, h.1, rfl, h.2⟩) fun u s1 ⟨y, H1, I1, ry, ey, q⟩ => ?_)
  subst ey
  obtain rfl : u = Value.ref C := ry
  exact PySem.W.callWith_K (h₀ := X.base) I1.ok.mod.kin M.kp (thn (ha.run pos pins s1 σ H1 _ I1 q) fun us s2 ⟨vs, H2, I2, r, q2⟩ => ⟨I2.kIn, run_make M F hr hb hd hx I2 r q2⟩) he hpl
/-- x in a tuple -/
def rInDT (K : PySem.W.Frag) : R2 := fun x y H Q => ∃ d ds, Dp K H x d ∧ Dp K H y (.tuple ds) ∧ SeqAt.shaped d = true ∧ SeqAt.shaped (.tuple ds) = true ∧ Q (.bl (ds.any fun z => PyData.eqv z d)) H
theorem op_inDT {X : Cx} (hu : X.A.units + 65 < cLine) : OpR X (compareOp .In) (rInDT X.K) := by
  intro pins s σ H x y v u Q I rx ry h
  obtain ⟨d, ds, hd, he, sd, se, q⟩ := h
  obtain ⟨as, r1⟩ := Dp.reads I d x v hd rx
  obtain ⟨bs, r2⟩ := Dp.reads I (.tuple ds) y u he ry
  exact SeqAt.in_tuple_reads r2 r1 (SeqAt.canLay_of_shaped se) (SeqAt.canLay_of_shaped sd) (room_in_shaped sd hu) ⟨.bl _, H, I, rfl, q⟩
section
variable {R : Rs} {Γ : Gm R} {sl sl' : List SV} {tm : List (V × D)} {ow : List (Addr × MO)} {g : R.α} {σ σ' : L2.St} {H H' : Hp} {ι : Type} {X : ι → Cx} {E : XK}
def inPT (x y : D) : Option D := match toPy x, toPy y with
  | some d, some (.tuple ds) => if SeqAt.shaped d = true ∧ SeqAt.shaped (.tuple ds) = true then some (.bl (ds.any fun z => PyData.eqv z d)) else none
  | _, _ => none
theorem s_inPT : OpS Γ (rInDT Γ.K) inPT := by
  intro sl tm ow g σ H x y d e z Q S dx dy eo k
  unfold inPT at eo
  cases e1 : toPy d with
  | none => rw [e1] at eo; cases eo
  | some p =>
    cases e2 : toPy e with
    | none => rw [e1, e2] at eo; cases eo
    | some q =>
      rw [e1, e2] at eo
      cases q with
      | tuple ds =>
        dsimp only at eo
        split at eo
        · rename_i c
          cases eo
          exact ⟨p, ds, dp_of dx e1, dp_of dy e2, c.1, c.2, k _ _ S (fun _ _ e => e) (.bl _)⟩
        · cases eo
      | _ => cases eo
def fMakeV (i : Nat) (C : Addr) (n : Nat) (F : R.α → List D → Rr R.α (List (Str × D))) (dds : List D) (fa : FA R) : FE R := fun sl g => match sl[i]? with
  | some (.dat (.hd b)) => if b = C then fMake C n F dds fa sl g else .bad
  | _ => .bad
theorem ed_makeV {i : Nat} {C : Addr} {n : Nat} {F : FI R} {e : Expr} {es : List Expr} {p pos : Pos} {x : Str} {fa : FA R} {dvs : List V} {dds : List D} (ha : EA X E Γ (e :: es) fa) (pe : ∀ {ta} j, PA (X j) (e :: es) ta → PE (X j) (.Call (.Name x p) (e :: es) [] pos) (tMakeV i C (spI R Γ.K C n F) dvs E ta))
    (hdd : ∀ av H, DtAll Γ.K av H dvs dds := by intro _ _; exact .nil) : ED X E Γ (.Call (.Name x p) (e :: es) [] pos) (fMakeV i C n (F Γ.ix) dds fa) := by
  obtain ⟨ta, pa, sa⟩ := ha
  refine ⟨_, fun j => pe j (pa j), fun sl tm ow g σ H Q S h => ?_⟩
  unfold fMakeV at h
  split at h
  · rename_i b e1
    split at h
    · rename_i eb
      subst eb
      obtain ⟨v, e2, dv⟩ := S.slot e1
      cases dv
      exact ⟨e2, make_core sa hdd sl tm ow g σ H Q S h⟩
    · exact h.elim
  · exact h.elim
/-- C.m(e, *y) -/
def fCmS (C : Addr) (F : R.α → List D → Rr R.α D) (f1 f2 : FE R) : FE R := fun sl g => (f1 sl g).bind fun x g => (f2 sl g).bind fun y g => match y with
  | .lst es => if es.length ≤ 100000 then F g [.hd C, x, .tup es] else .bad
  | .tup es => if es.length ≤ 100000 then F g [.hd C, x, .tup es] else .bad
  | _ => .bad
theorem ed_cmS {C : Addr} {F : FF R} {o e1 e2 : Expr} {m : Str} {apos sp_ pos : Pos} {f1 f2 : FE R} (h1 : ED X E Γ e1 f1) (h2 : ED X E Γ e2 f2) (ho : ∀ j, PE (X j) o (tC (.ref C)))
    (pe : ∀ {ta t1 t2} j, PE (X j) o ta → PE (X j) e1 t1 → PE (X j) e2 t2 → PE (X j) (.Call (.Attribute o m apos) [e1, .Starred e2 sp_] [] pos) (tCmS Γ.K C (spStar (spD R Γ.K 3 F) 2) E ta t1 t2)) :
    ED X E Γ (.Call (.Attribute o m apos) [e1, .Starred e2 sp_] [] pos) (fCmS C (F Γ.ix) f1 f2) := by
  obtain ⟨t1, p1, s1⟩ := h1
  obtain ⟨t2, p2, s2⟩ := h2
  refine ⟨_, fun j => pe j (ho j) (p1 j) (p2 j), fun sl tm ow g σ H Q S h => ?_⟩
  unfold fCmS at h
  refine ⟨rfl, ?_⟩
  refine s1 sl tm ow g σ H _ S ?_
  cases ea : f1 sl g with
  | bad => rw [ea] at h; exact h
  | err C fs g1 => rw [ea] at h; exact h
  | ok x g1 =>
    rw [ea] at h
    intro v H1 S1 d1
    refine s2 sl ((v, x) :: tm) ow g1 σ H1 _ (S1.push d1) ?_
    dsimp only [bind_ok] at h
    cases eb : f2 sl g1 with
    | bad => rw [eb] at h; exact h
    | err C fs g2 => rw [eb] at h; exact fun y H2 S2 x2 => h y H2 S2.pop x2
    | ok y g2 =>
      rw [eb] at h
      dsimp only [bind_ok] at h
      intro u H2 S2 d2
      have d1' := S2.top
      split at h
      · rename_i es
        by_cases hl : es.length ≤ 100000
        · rw [if_pos hl] at h
          cases d2 with
          | lst q r =>
            refine ⟨_, _, rfl, .inr q.seq, [.ref C, v], _, rfl, rfl, by rw [r.length]; exact lim_ok hl, fun p hp => ?_⟩
            have S3 := S2.newT r hp
            exact (spD_call (S3.sub fun q m => List.mem_cons_of_mem _ (List.mem_cons_of_mem _ m)) (.cons (.hd C) (.cons S3.top2 (.cons S3.top .nil))) rfl h)
        · rw [if_neg hl] at h
          exact h.elim
      · rename_i es
        by_cases hl : es.length ≤ 100000
        · rw [if_pos hl] at h
          cases d2 with
          | tup q r =>
            refine ⟨_, _, rfl, .inl q.seq, [.ref C, v], _, rfl, rfl, by rw [r.length]; exact lim_ok hl, fun p hp => ?_⟩
            have S3 := S2.newT r hp
            exact (spD_call (S3.sub fun q m => List.mem_cons_of_mem _ (List.mem_cons_of_mem _ m)) (.cons (.hd C) (.cons S3.top2 (.cons S3.top .nil))) rfl h)
        · rw [if_neg hl] at h
          exact h.elim
      · exact h.elim
/-- a def with *rest, by its body -/
theorem fds_mk {P : Program} {w : World} {K : PySem.W.Frag} {mg : Str → Option Value} {base : Heap} {x qual : Str} {st : Stmt} {f : Addr} {fd : FuncData} {N ps : List Str} {pv : Str} {k n : Nat} {fb : R.ix → FS R} (F : Fun K x qual st f fd) (S : FnScope N (ps ++ [pv]) (defScope st)) (hn : N.length = n)
    (hbind : ∀ (kV doc pm : Value) (an : Option Addr) (cdv ct : Value) (us rest : List Value), us.length = ps.length → bindArgs (PySem.W.fnOf x qual (defArgs st) (defBody st) (defScope st) .none kV doc pm an cdv ct) ⟨us ++ rest, []⟩ = (newTuple rest >>= fun t => pure (ps.zip us ++ [(pv, t)])))
    (hb : ∀ (cdv : Value) (A : Around) (outer : List Env) (s : Shared) (H : Hp) (E : XK) (ix : R.ix) (av : Addr → Prop) (h1 : ∀ a, av a → H a ≠ none) (h2 : ∀ a, R.mu ix a → H a ≠ none), Room k (A.deeper (envOfC qual (defScope st) s.heap.objs.size f cdv)) →
      ESs (fun _ : Unit => cxOf (L2.CX P w) P w K mg base N qual (defScope st) f cdv A outer s H E) E (⟨K, 0, ix, av, H, h1, h2⟩ : Gm R) (defBody st) (fb ix)) : FnR P w K mg base (L2.CX P w) (k + 1) f (spStar (spD R K (ps.length + 1) (runF n fb)) ps.length) := by
  obtain ⟨oc, od, kV, doc, pm, an, cdv, ct, osl, rfl, lk, hcd⟩ := F.ex
  refine StX.fn_star lk hcd S StX.cxUp (hbind kV doc pm an cdv ct) fun A outer s H vs Q E hr h => ?_
  obtain ⟨hl, ix, av, g, ds, hav, hG, hd, h⟩ := h
  obtain ⟨t, p, q⟩ := hb cdv A outer s H E ix av hav (fun a z => R.trk hG z) hr
  refine ⟨t, p (), q _ [] [] g _ H _ (start_rel (Γ := ⟨K, 0, ix, av, H, hav, fun a z => R.trk hG z⟩) hn hG hd) ?_⟩
  unfold runF Ro.fin at h
  cases e : fb ix (startS n ds) g with
  | nx sl g' => rw [e] at h; exact fun σ' H' S' => h .non H' S'.frame S'.rrel.res .non
  | rt d g' => rw [e] at h; exact fun v H' r dv => h v H' r.frame r.res dv
  | err C fs g' => rw [e] at h; exact fun x H' r dv => h x H' r.frame r.res dv
  | bk sl g' => rw [e] at h; exact h.elim
  | ct sl g' => rw [e] at h; exact h.elim
  | bad => rw [e] at h; exact h
end
end DL

set_option maxHeartbeats 4000000
namespace DL
open PySem PySem.Spec PyProof.Rows L2
theorem pi_seq {X : Cx} {tg l : Expr} {te : TE} (h : PE X l te) : PI X tg l (fun σ H Rr => iList X.K te σ H Rr ∨ iTup X.K te σ H Rr) := ⟨fun pins s σ H R I q => by
  rcases q with q | q
  · exact (pi_list h).run pins s σ H R I q
  · exact (pi_tup h).run pins s σ H R I q⟩
section
variable {R : Rs} {Γ : Gm R} {sl sl' : List SV} {tm : List (V × D)} {ow : List (Addr × MO)} {g : R.α} {σ σ' : L2.St} {H H' : Hp} {ι : Type} {X : ι → Cx} {E : XK}
theorem zipD_get : ∀ {as bs : List D} {i : Nat} {a b : D}, as[i]? = some a → bs[i]? = some b → (zipD as bs)[i]? = some (.tup [a, b])
  | [], _, _, _, _, h, _ => by simp at h
  | _ :: _, [], _, _, _, _, h => by simp at h
  | a :: as, b :: bs, 0, x, y, h1, h2 => by
    simp only [List.getElem?_cons_zero, Option.some.injEq] at h1 h2
    subst h1 h2
    rfl
  | a :: as, b :: bs, i + 1, x, y, h1, h2 => by
    have := zipD_get (as := as) (bs := bs) (i := i) (by simpa using h1) (by simpa using h2)
    simpa [zipD] using this
/-! ## for a, b in zip(t, u) of two tuples -/
theorem wlk_zipT {a b : Addr} {ds es : List D} : Wlk Γ (RZ.ItzT Γ.K a b) (zipD ds es) [(.ref a, .tup ds), (.ref b, .tup es)] where
  go := fun {sl tm ow g σ H i} S h => by
    rw [zipD_len] at h
    have t1 := S.tms _ _ List.mem_cons_self
    have t2 := S.tms _ _ (List.mem_cons_of_mem _ List.mem_cons_self)
    cases t1 with
    | tup q1 r1 =>
      cases t2 with
      | tup q2 r2 =>
        exact ⟨_, _, _, _, q1.seq, q2.seq, List.getElem?_eq_getElem (by rw [r1.length]; omega), List.getElem?_eq_getElem (by rw [r2.length]; omega)⟩
  yld := fun {sl tm ow g σ H i x H'} S h y => by
    obtain ⟨T, x1, x2, rfl, hT, rfl, y1, y2⟩ := y
    have t1 := S.tms _ _ List.mem_cons_self
    have t2 := S.tms _ _ (List.mem_cons_of_mem _ List.mem_cons_self)
    cases t1 with
    | tup q1 r1 =>
      cases t2 with
      | tup q2 r2 =>
        obtain ⟨d1, e1, f1⟩ := r1.atL (y1 _ q1.seq)
        obtain ⟨d2, e2, f2⟩ := r2.atL (y2 _ q2.seq)
        have S2 := S.newT (vs := [x1, x2]) (ds := [d1, d2]) (.cons f1 (.cons f2 .nil)) hT
        exact ⟨S2.pop, _, zipD_get e1 e2, S2.top⟩
  stop := fun {sl tm ow g σ H i} S h => by
    rw [zipD_len] at h
    have t1 := S.tms _ _ List.mem_cons_self
    have t2 := S.tms _ _ (List.mem_cons_of_mem _ List.mem_cons_self)
    cases t1 with
    | tup q1 r1 =>
      cases t2 with
      | tup q2 r2 => exact ⟨_, _, q1.seq, q2.seq, by rw [r1.length, r2.length]; omega⟩
def iZip (f : FA R) : FA R := fun sl g => (f sl g).bind fun ds g => match ds with
  | [.tup a, .tup b] => .ok (zipD a b) g
  | _ => .bad
theorem ei_zipT {tg e e2 : Expr} {p pos : Pos} {f : FA R} (pi : ∀ {ta} j, PA (X j) [e, e2] ta → PI (X j) tg (.Call (.Name "zip" p) [e, e2] [] pos) (RZ.iZipA Γ.K ta)) (h : EA X E Γ [e, e2] f) : EI X E Γ tg (.Call (.Name "zip" p) [e, e2] [] pos) (iZip f) := by
  obtain ⟨t, pp, s⟩ := h
  refine ⟨_, fun j => pi j (pp j), fun sl tm ow g σ H Rr S h => ?_⟩
  refine s sl tm ow g σ H _ S ?_
  unfold iZip at h
  cases e1 : f sl g with
  | bad => rw [e1] at h; exact h
  | err C fs g' => rw [e1] at h; exact h
  | ok ds g' =>
    rw [e1] at h
    dsimp only [bind_ok] at h
    intro vs H1 S1 d1
    cases d1 with
    | nil => exact h.elim
    | cons d1 d2 =>
      cases d2 with
      | nil => cases d1 <;> exact h.elim
      | cons d2 d3 =>
        cases d3 with
        | cons => cases d1 <;> cases d2 <;> exact h.elim
        | nil =>
          cases d1 with
          | tup q1 r1 =>
            cases d2 with
            | tup q2 r2 =>
              refine ⟨_, _, _, _, rfl, .inr ⟨q1.seq, q2.seq, ?_⟩⟩
              exact h _ _ _ ((S1.push (.tup q2 r2)).push (.tup q1 r1) : SRel Γ sl ([(_, _), (_, _)] ++ tm) ow g' σ H1) wlk_zipT
            | _ => exact h.elim
          | _ => cases d2 <;> exact h.elim
/-! ## x not in xs -/
def ninP (x y : D) : Option D := match toPy x, toPy y with
  | some d, some (.list ds) => if SeqAt.shaped d = true ∧ SeqAt.shaped (.list ds) = true then some (.bl (!ds.any fun z => PyData.eqv z d)) else none
  | _, _ => none
theorem s_ninP : OpS Γ (rNotInD Γ.K) ninP := by
  intro sl tm ow g σ H x y d e z Q S dx dy eo k
  unfold ninP at eo
  cases e1 : toPy d with
  | none => rw [e1] at eo; cases eo
  | some p =>
    cases e2 : toPy e with
    | none => rw [e1, e2] at eo; cases eo
    | some q =>
      rw [e1, e2] at eo
      cases q with
      | list ds =>
        dsimp only at eo
        split at eo
        · rename_i c
          cases eo
          exact ⟨p, ds, dp_of dx e1, dp_of dy e2, c.1, c.2, k _ _ S (fun _ _ e => e) (.bl _)⟩
        · cases eo
      | _ => cases eo
end
end DL

set_option maxHeartbeats 4000000
namespace DL
open PySem PySem.Spec PyProof.Rows L2
section
variable {R : Rs} {Γ : Gm R} {sl sl' : List SV} {tm : List (V × D)} {ow : List (Addr × MO)} {g : R.α} {σ σ' : L2.St} {H H' : Hp} {ι : Type} {X : ι → Cx} {E : XK}
theorem lcCore {js : List Nat} {gf : FG} {ft : FT R} {fe : FE R} {gt : TG} {tt : TT} {te : TE} (apg : ∀ d sl sl', gf d sl = some sl' → Apart js sl' sl)
    (sg : ∀ sl tm ow g σ H v d sl' Q, SRel Γ sl tm ow g σ H → Dt Γ.K (Γ.av sl ow σ) H v d → gf d sl = some sl' → (∀ σ', SRel Γ sl' tm ow g σ' H → Apart js σ' σ → Q σ' H) → gt v σ H Q)
    (st : ∀ sl tm ow g σ H Q, SRel Γ sl tm ow g σ H → OkT Γ sl tm ow σ E0 Q (ft sl g) → tt σ H Q) (se : ∀ sl tm ow g σ H Q, SRel Γ sl tm ow g σ H → OkV Γ sl tm ow σ E0 Q (fe sl g) → te σ H Q)
    {J : It} {ds : List D} {hs : List (V × D)} {g' : R.α} {H1 : Hp} {Q : VK} (S1 : SRel Γ sl (hs ++ tm) ow g' σ H1) (wk : Wlk Γ J ds hs) (h : OkV Γ sl tm ow σ E Q (if allUn js sl = true then (lcD gf ft fe ds sl g').bind fun xs g => if xs.length ≤ 100000 then .ok (.lst xs) g else .bad else .bad)) (Dd : Addr) (hD : H1 Dd = none) :
    ∃ W : Nat → Nat → Hp → Prop, (∃ m, W 0 m (upd H1 Dd (.lst []))) ∧ ∀ i m H, W i m H →
      (J.stop i H ∧ Q (.ref Dd) H) ∨ (J.go i H ∧ ∃ Nx : Hp → Prop, (∀ H', Nx H' → ∃ m', m' < m ∧ W (i + 1) m' H') ∧ ∀ x H', J.yld i H x H' → gt x (wipe σ js) H' fun σ2 H2 => wipe σ2 js = wipe σ js ∧ tt σ2 H2 fun b H3 =>
        if b = true then te σ2 H3 fun y H4 => ∃ acc, H4 Dd = some (.lst acc) ∧ acc.length < sizeLine ∧ Nx (upd H4 Dd (.lst (acc ++ [y]))) else Nx H3) := by
  by_cases hu : allUn js sl = true
  · rw [if_pos hu] at h
    have un := allUn_of hu
    refine ⟨fun i m H => i ≤ ds.length ∧ m = ds.length - i ∧ ∃ g acc, SRel Γ sl (hs ++ tm) ((Dd, .lst acc) :: ow) g (wipe σ js) H ∧ OkV Γ sl tm ow σ E Q ((lcD gf ft fe (ds.drop i) sl g).bind fun xs g => if (acc ++ xs).length ≤ 100000 then .ok (.lst (acc ++ xs)) g else .bad),
      ⟨ds.length, Nat.zero_le _, rfl, g', [], wipe_un un (S1.hide hD ⟨[], upd_same, .nil⟩), h⟩, ?_⟩
    rintro i m H ⟨hi, rfl, g, acc, S, h⟩
    by_cases hl : i < ds.length
    · refine .inr ⟨wk.go S hl, fun H' => ∃ g acc, SRel Γ sl (hs ++ tm) ((Dd, .lst acc) :: ow) g (wipe σ js) H' ∧ OkV Γ sl tm ow σ E Q ((lcD gf ft fe (ds.drop (i + 1)) sl g).bind fun xs g => if (acc ++ xs).length ≤ 100000 then .ok (.lst (acc ++ xs)) g else .bad), fun H' q => ⟨ds.length - (i + 1), by omega, hl, rfl, q⟩, fun x H' y => ?_⟩
      obtain ⟨S', d, e1, e2⟩ := wk.yld S hl y
      have ed : ds.drop i = d :: ds.drop (i + 1) := by
        rw [List.drop_eq_getElem_cons hl]
        rw [List.getElem?_eq_getElem hl] at e1
        rw [Option.some.inj e1]
      rw [ed] at h
      unfold lcD at h
      cases eg : gf d sl with
      | none => rw [eg] at h; exact h.elim
      | some sl1 =>
        rw [eg] at h
        dsimp only at h
        have ap1 := apg _ _ _ eg
        refine sg sl (hs ++ tm) ((Dd, .lst acc) :: ow) g _ H' x d sl1 _ S' e2 eg fun σ1 S2 ap2 => ⟨wipe_ap ap2, ?_⟩
        have back : ∀ {tm' : List (V × D)} {ow' : List (Addr × MO)} {g' : R.α} {H3 : Hp}, SRel Γ sl1 tm' ow' g' σ1 H3 → SRel Γ sl tm' ow' g' (wipe σ js) H3 := fun {tm' ow' g' H3} S3 => S3.forget ap1.1.symm ap2.1.symm fun i => by
          by_cases hi : i ∈ js
          · exact .inl (un i hi)
          · exact .inr ⟨(ap1.2 i hi).symm, (ap2.2 i hi).symm⟩
        refine st sl1 (hs ++ tm) ((Dd, .lst acc) :: ow) g σ1 H' _ S2 ?_
        cases et : ft sl1 g with
        | bad => rw [et] at h; exact h.elim
        | err C fs g2 => rw [et] at h; exact h.elim
        | ok c g2 =>
          rw [et] at h
          dsimp only [bind_ok, noerr_ok] at h
          intro H3 S3
          cases c with
          | false =>
            refine iteF ⟨g2, acc, back S3, ?_⟩
            rw [if_neg Bool.false_ne_true] at h
            exact h
          | true =>
            rw [if_pos rfl] at h
            refine iteT (se sl1 (hs ++ tm) ((Dd, .lst acc) :: ow) g2 σ1 H3 _ S3 ?_)
            cases ee : fe sl1 g2 with
            | bad => rw [ee] at h; exact h.elim
            | err C fs g3 => rw [ee] at h; exact h.elim
            | ok x2 g3 =>
              rw [ee] at h
              dsimp only [bind_ok, noerr_ok] at h
              intro y H4 S4 dy
              obtain ⟨vs, hv1, hv2⟩ := S4.ows Dd _ List.mem_cons_self
              have hacc : acc.length < 100000 ∨ False := by
                cases el : lcD gf ft fe (ds.drop (i + 1)) sl g3 with
                | bad => rw [el] at h; exact h.elim
                | err C fs g4 => rw [el] at h; exact h.elim
                | ok xs g4 =>
                  rw [el] at h
                  dsimp only [bind_ok, noerr_ok] at h
                  by_cases hz : (acc ++ (x2 :: xs)).length ≤ 100000
                  · rw [List.length_append, List.length_cons] at hz
                    exact .inl (by omega)
                  · rw [if_neg hz] at h
                    exact h.elim
              refine ⟨vs, hv1, by rw [hv2.length]; exact lim_lt (hacc.resolve_right id), g3, acc ++ [x2], back (S4.hidden ⟨vs ++ [y], upd_same, (DtAll.app hv2 (.cons dy .nil)).keep fun b o e n => ⟨?_, n⟩⟩), ?_⟩
              · have : b ≠ Dd := fun z => n (by rw [z]; exact .inr (.inr (.inr ⟨_, List.mem_cons_self⟩)))
                rw [upd_ne this]
                exact e
              · cases el : lcD gf ft fe (ds.drop (i + 1)) sl g3 with
                | bad => rw [el] at h; exact h.elim
                | err C fs g4 => rw [el] at h; exact h.elim
                | ok xs g4 =>
                  rw [el] at h
                  dsimp only [bind_ok, noerr_ok] at h ⊢
                  rw [List.append_assoc]
                  exact h
    · have ei : i = ds.length := by omega
      refine .inl ⟨wk.stop S ei, ?_⟩
      rw [ei, List.drop_length] at h
      unfold lcD at h
      dsimp only [bind_ok] at h
      rw [List.append_nil] at h
      by_cases hz : acc.length ≤ 100000
      · rw [if_pos hz] at h
        have S5 := (unwipe un S).unhide
        exact h _ _ (S5.sub fun p q => List.mem_cons_of_mem _ (List.mem_append_right _ q)) S5.top
      · rw [if_neg hz] at h
        exact h.elim
  · rw [if_neg hu] at h
    exact h.elim

end
end DL

set_option maxHeartbeats 4000000
namespace DL
open PySem PySem.Spec PyProof.Rows L2
/-! ## a dict that is walked: it is locked meanwhile -/
structure LockOk (R : Rs) : Prop where
  lk : ∀ {K i g} {av : Addr → Prop} {H : Hp} {d : Addr} {od : Obj} {kvs : List (Key × V)}, R.G K i g av H → H d = some (.dK kvs) → ¬ R.mu i d → R.G K i g av (upd H d (.frz od (.dK kvs)))
  ulk : ∀ {K i g} {av : Addr → Prop} {H : Hp} {d : Addr} {od : Obj} {kvs : List (Key × V)}, R.G K i g av H → H d = some (.frz od (.dK kvs)) → ¬ R.mu i d → R.G K i g av (upd H d (.dK kvs))
theorem lock_pen {n1 n2 : Str} : LockOk (penR n1 n2) where
  lk := fun {K i g av H d od kvs} h hd hm => by
    obtain ⟨h1, h2, h3, h4⟩ := h
    refine ⟨?_, ?_, h3, h4⟩
    · rw [upd_ne (fun z => hm z.symm)]
      exact h1
    · rw [upd_ne (fun z => by rw [← z, h2] at hd; cases hd)]
      exact h2
  ulk := fun {K i g av H d od kvs} h hd hm => by
    obtain ⟨h1, h2, h3, h4⟩ := h
    refine ⟨?_, ?_, h3, h4⟩
    · rw [upd_ne (fun z => hm z.symm)]
      exact h1
    · rw [upd_ne (fun z => by rw [← z, h2] at hd; cases hd)]
      exact h2
section
variable {K : PySem.W.Frag} {av : Addr → Prop} {H : Hp} {d : Addr} {od : Obj} {kvs : List (Key × V)}
mutual
theorem Dt.lock (hd : H d = some (.dK kvs)) : ∀ {v : V} {x : D}, Dt K av H v x → Dt K av (upd H d (.frz od (.dK kvs))) v x
  | _, _, .non => .non
  | _, _, .bl b => .bl b
  | _, _, .int i => .int i
  | _, _, .str x => .str x
  | _, _, .hd a => .hd a
  | _, _, .ty a => .ty a
  | _, _, .lst h r => .lst ⟨by rw [upd_ne (fun z => by rw [← z, h.1] at hd; cases hd)]; exact h.1, h.2⟩ (DtAll.lock hd r)
  | _, _, .tup h r => .tup ⟨by rw [upd_ne (fun z => by rw [← z, h.1] at hd; cases hd)]; exact h.1, h.2⟩ (DtAll.lock hd r)
  | _, _, .dct (a := a) h n r => by
    refine .dct ?_ n (DtKV.lock hd r)
    by_cases e : a = d
    · subst e
      rcases h with h | ⟨o, h⟩
      · rw [hd] at h
        cases h
        exact .inr ⟨od, upd_same⟩
      · rw [hd] at h
        cases h
    · unfold Rd
      rw [upd_ne e]
      exact h
  | _, _, .obj h n r => .obj (by rw [upd_ne (fun z => by rw [← z, h] at hd; cases hd)]; exact h) n (DtFs.lock hd r)
theorem DtAll.lock (hd : H d = some (.dK kvs)) : ∀ {v : List V} {x : List D}, DtAll K av H v x → DtAll K av (upd H d (.frz od (.dK kvs))) v x
  | _, _, .nil => .nil
  | _, _, .cons h r => .cons (Dt.lock hd h) (DtAll.lock hd r)
theorem DtKV.lock (hd : H d = some (.dK kvs)) : ∀ {v : List (Key × V)} {x : List (Key × D)}, DtKV K av H v x → DtKV K av (upd H d (.frz od (.dK kvs))) v x
  | _, _, .nil => .nil
  | _, _, .cons h r => .cons (Dt.lock hd h) (DtKV.lock hd r)
theorem DtFs.lock (hd : H d = some (.dK kvs)) : ∀ {v : List (Str × V)} {x : List (Str × D)}, DtFs K av H v x → DtFs K av (upd H d (.frz od (.dK kvs))) v x
  | _, _, .nil => .nil
  | _, _, .cons h r => .cons (Dt.lock hd h) (DtFs.lock hd r)
end
mutual
theorem Dt.unlock (hd : H d = some (.frz od (.dK kvs))) : ∀ {v : V} {x : D}, Dt K av H v x → Dt K av (upd H d (.dK kvs)) v x
  | _, _, .non => .non
  | _, _, .bl b => .bl b
  | _, _, .int i => .int i
  | _, _, .str x => .str x
  | _, _, .hd a => .hd a
  | _, _, .ty a => .ty a
  | _, _, .lst h r => .lst ⟨by rw [upd_ne (fun z => by rw [← z, h.1] at hd; cases hd)]; exact h.1, h.2⟩ (DtAll.unlock hd r)
  | _, _, .tup h r => .tup ⟨by rw [upd_ne (fun z => by rw [← z, h.1] at hd; cases hd)]; exact h.1, h.2⟩ (DtAll.unlock hd r)
  | _, _, .dct (a := a) h n r => by
    refine .dct ?_ n (DtKV.unlock hd r)
    by_cases e : a = d
    · subst e
      rcases h with h | ⟨o, h⟩
      · rw [hd] at h
        cases h
      · rw [hd] at h
        cases h
        exact .inl upd_same
    · unfold Rd
      rw [upd_ne e]
      exact h
  | _, _, .obj h n r => .obj (by rw [upd_ne (fun z => by rw [← z, h] at hd; cases hd)]; exact h) n (DtFs.unlock hd r)
theorem DtAll.unlock (hd : H d = some (.frz od (.dK kvs))) : ∀ {v : List V} {x : List D}, DtAll K av H v x → DtAll K av (upd H d (.dK kvs)) v x
  | _, _, .nil => .nil
  | _, _, .cons h r => .cons (Dt.unlock hd h) (DtAll.unlock hd r)
theorem DtKV.unlock (hd : H d = some (.frz od (.dK kvs))) : ∀ {v : List (Key × V)} {x : List (Key × D)}, DtKV K av H v x → DtKV K av (upd H d (.dK kvs)) v x
  | _, _, .nil => .nil
  | _, _, .cons h r => .cons (Dt.unlock hd h) (DtKV.unlock hd r)
theorem DtFs.unlock (hd : H d = some (.frz od (.dK kvs))) : ∀ {v : List (Str × V)} {x : List (Str × D)}, DtFs K av H v x → DtFs K av (upd H d (.dK kvs)) v x
  | _, _, .nil => .nil
  | _, _, .cons h r => .cons (Dt.unlock hd h) (DtFs.unlock hd r)
end
theorem MoAt.lock {sf a : Addr} {m : MO} (hd : H d = some (.dK kvs)) (ne : a ≠ d) (h : MoAt K sf av H a m) : MoAt K sf av (upd H d (.frz od (.dK kvs))) a m := by
  cases m with
  | lst l => obtain ⟨vs, h, r⟩ := h; exact ⟨vs, by rw [upd_ne ne]; exact h, r.lock hd⟩
  | dct l => obtain ⟨vs, h, r⟩ := h; exact ⟨vs, by rw [upd_ne ne]; exact h, r.lock hd⟩
  | obj C l => obtain ⟨e, dx, vs, h, r⟩ := h; exact ⟨e, dx, vs, by rw [upd_ne ne]; exact h, r.lock hd⟩
theorem MoAt.unlock {sf a : Addr} {m : MO} (hd : H d = some (.frz od (.dK kvs))) (ne : a ≠ d) (h : MoAt K sf av H a m) : MoAt K sf av (upd H d (.dK kvs)) a m := by
  cases m with
  | lst l => obtain ⟨vs, h, r⟩ := h; exact ⟨vs, by rw [upd_ne ne]; exact h, r.unlock hd⟩
  | dct l => obtain ⟨vs, h, r⟩ := h; exact ⟨vs, by rw [upd_ne ne]; exact h, r.unlock hd⟩
  | obj C l => obtain ⟨e, dx, vs, h, r⟩ := h; exact ⟨e, dx, vs, by rw [upd_ne ne]; exact h, r.unlock hd⟩
end
section
variable {R : Rs}
/-- the frame in which the dict at d stands still -/
def Gm.lock (Γ : Gm R) (d : Addr) (od : Obj) (kvs : List (Key × V)) : Gm R where
  K := Γ.K
  sf := Γ.sf
  ix := Γ.ix
  av0 := Γ.av0
  H0 := upd Γ.H0 d (.frz od (.dK kvs))
  hav := fun a h => by
    by_cases e : a = d
    · rw [e, upd_same]; nofun
    · rw [upd_ne e]; exact Γ.hav a h
  hmu := fun a h => by
    by_cases e : a = d
    · rw [e, upd_same]; nofun
    · rw [upd_ne e]; exact Γ.hmu a h
variable {Γ : Gm R} {sl sl' : List SV} {tm : List (V × D)} {ow : List (Addr × MO)} {g : R.α} {σ σ' : L2.St} {H H' : Hp} {ι : Type} {X : ι → Cx} {E : XK} {d : Addr} {od : Obj} {kvs : List (Key × V)}
theorem SRel.lock (L : LockOk R) (S : SRel Γ sl tm ow g σ H) (hd : H d = some (.dK kvs)) (n : ¬ Γ.av sl ow σ d) : SRel (Γ.lock d od kvs) sl tm ow g σ (upd H d (.frz od (.dK kvs))) := by
  have no : ∀ a, own sl ow σ a → a ≠ d := fun a h z => n (by rw [← z]; exact .inr (.inr h))
  refine ⟨S.len, fun b o e nm => ?_, L.lk S.res hd fun z => n (.inl z), fun i s e => ?_, fun v x e => (S.tms v x e).lock hd, fun a m e => (S.ows a m e).lock hd (no a (.inr ⟨m, e⟩)), fun a h => ?_, S.uq1, S.uq2, S.uq3⟩
  · have e : upd Γ.H0 d (.frz od (.dK kvs)) b = some o := e
    by_cases q : b = d
    · rw [q, upd_same] at e ⊢
      exact e
    · rw [upd_ne q] at e ⊢
      exact S.frame b o e nm
  · have q := S.slots i s e
    cases s with
    | un => trivial
    | dat x => obtain ⟨v, e1, e2⟩ := q; exact ⟨v, e1, e2.lock hd⟩
    | mu m => obtain ⟨a, e1, e2⟩ := q; exact ⟨a, e1, e2.lock hd (no a (.inl ⟨i, m, e, e1⟩))⟩
  · show upd Γ.H0 d (.frz od (.dK kvs)) a = none
    rw [upd_ne (no a h)]
    exact S.ofr a h
theorem SRel.locked (S : SRel (Γ.lock d od kvs) sl tm ow g σ H) (n : ¬ R.mu Γ.ix d) : H d = some (.frz od (.dK kvs)) := S.frame d _ (by show upd _ _ _ _ = _; exact upd_same) n
theorem SRel.unlock (L : LockOk R) (S : SRel (Γ.lock d od kvs) sl tm ow g σ H) (n : ¬ R.mu Γ.ix d) (f0 : ∀ o, Γ.H0 d = some o → o = .dK kvs) : SRel Γ sl tm ow g σ (upd H d (.dK kvs)) := by
  have hd := S.locked n
  have no : ∀ a, own sl ow σ a → a ≠ d := fun a h z => by
    have := S.ofr a h
    rw [z] at this
    have e : upd Γ.H0 d (.frz od (.dK kvs)) d = none := this
    rw [upd_same] at e
    cases e
  refine ⟨S.len, fun b o e nm => ?_, L.ulk S.res hd n, fun i s e => ?_, fun v x e => (S.tms v x e).unlock hd, fun a m e => (S.ows a m e).unlock hd (no a (.inr ⟨m, e⟩)), fun a h => ?_, S.uq1, S.uq2, S.uq3⟩
  · by_cases q : b = d
    · subst q
      rw [f0 o e, upd_same]
    · rw [upd_ne q]
      exact S.frame b o (by show upd _ _ _ _ = _; rw [upd_ne q]; exact e) nm
  · have q := S.slots i s e
    cases s with
    | un => trivial
    | dat x => obtain ⟨v, e1, e2⟩ := q; exact ⟨v, e1, e2.unlock hd⟩
    | mu m => obtain ⟨a, e1, e2⟩ := q; exact ⟨a, e1, e2.unlock hd (no a (.inl ⟨i, m, e, e1⟩))⟩
  · have e : upd Γ.H0 d (.frz od (.dK kvs)) a = none := S.ofr a h
    rw [upd_ne (no a h)] at e
    exact e
/-- .. where it stands still already -/
theorem SRel.still (S : SRel Γ sl tm ow g σ H) (hd : H d = some (.frz od (.dK kvs))) (n : ¬ Γ.av sl ow σ d) : SRel (Γ.lock d od kvs) sl tm ow g σ H := by
  have no : ∀ a, own sl ow σ a → a ≠ d := fun a h z => n (by rw [← z]; exact .inr (.inr h))
  refine ⟨S.len, fun b o e nm => ?_, S.res, S.slots, S.tms, S.ows, fun a h => ?_, S.uq1, S.uq2, S.uq3⟩
  · have e : upd Γ.H0 d (.frz od (.dK kvs)) b = some o := e
    by_cases q : b = d
    · rw [q, upd_same] at e
      rw [q, hd]
      exact e
    · rw [upd_ne q] at e
      exact S.frame b o e nm
  · show upd Γ.H0 d (.frz od (.dK kvs)) a = none
    rw [upd_ne (no a h)]
    exact S.ofr a h
theorem SRel.unstill (S : SRel (Γ.lock d od kvs) sl tm ow g σ H) (n : ¬ R.mu Γ.ix d) (f0 : ∀ o, Γ.H0 d = some o → o = .frz od (.dK kvs)) : SRel Γ sl tm ow g σ H := by
  have hd := S.locked n
  have no : ∀ a, own sl ow σ a → a ≠ d := fun a h z => by
    have := S.ofr a h
    rw [z] at this
    have e : upd Γ.H0 d (.frz od (.dK kvs)) d = none := this
    rw [upd_same] at e
    cases e
  refine ⟨S.len, fun b o e nm => ?_, S.res, S.slots, S.tms, S.ows, fun a h => ?_, S.uq1, S.uq2, S.uq3⟩
  · by_cases q : b = d
    · subst q
      rw [f0 o e, hd]
    · exact S.frame b o (by show upd _ _ _ _ = _; rw [upd_ne q]; exact e) nm
  · have e : upd Γ.H0 d (.frz od (.dK kvs)) a = none := S.ofr a h
    rw [upd_ne (no a h)] at e
    exact e
/-! ### its keys, its items -/
def keyDt : Key → D
  | .inl i => .int i
  | .inr x => .str x
theorem dt_key {K : PySem.W.Frag} {av : Addr → Prop} {H : Hp} (k : Key) : Dt K av H (kV k) (keyDt k) := by
  cases k with
  | inl i => exact .int i
  | inr x => exact .str x
def itemsD (kv : List (Key × D)) : List D := kv.map fun p => .tup [keyDt p.1, p.2]
def keysOf (kv : List (Key × D)) : List D := kv.map fun p => keyDt p.1
theorem DtKV.len {K : PySem.W.Frag} {av : Addr → Prop} {H : Hp} : ∀ {vs : List (Key × V)} {ds : List (Key × D)}, DtKV K av H vs ds → vs.length = ds.length
  | _, _, .nil => rfl
  | _, _, .cons _ t => congrArg (· + 1) t.len
theorem DtKV.getL {K : PySem.W.Frag} {av : Addr → Prop} {H : Hp} : ∀ {vs : List (Key × V)} {ds : List (Key × D)} {i : Nat} {k : Key} {v : V}, DtKV K av H vs ds → vs[i]? = some (k, v) → ∃ x, ds[i]? = some (k, x) ∧ Dt K av H v x
  | _, _, i, _, _, .nil, h => by simp at h
  | _, _, 0, _, _, .cons r _, h => by
    simp only [List.getElem?_cons_zero, Option.some.injEq, Prod.mk.injEq] at h
    obtain ⟨rfl, rfl⟩ := h
    exact ⟨_, rfl, r⟩
  | _, _, i + 1, _, _, .cons _ t, h => by
    obtain ⟨x, a, b⟩ := DtKV.getL (i := i) t (by simpa using h)
    exact ⟨x, by simpa using a, b⟩
theorem wlk_items {kv : List (Key × D)} (n : ¬ R.mu Γ.ix d) : Wlk (Γ.lock d od kvs) (Iti d od kvs) (itemsD kv) [(.ref d, .dct kv)] where
  go := fun {sl tm ow g σ H i} S h => by
    have hd := S.locked n
    unfold itemsD at h
    rw [List.length_map] at h
    cases S.top with
    | dct q _ r =>
      rcases q with q | ⟨o, q⟩
      · rw [hd] at q; cases q
      · rw [hd] at q
        cases q
        exact ⟨hd, by rw [r.len]; exact h⟩
  yld := fun {sl tm ow g σ H i x H'} S h y => by
    have hd := S.locked n
    obtain ⟨T, k, v, e, rfl, hT, rfl⟩ := y
    cases S.top with
    | dct q _ r =>
      rcases q with q | ⟨o, q⟩
      · rw [hd] at q; cases q
      · rw [hd] at q
        cases q
        obtain ⟨x, e1, e2⟩ := r.getL e
        have S2 := S.newT (vs := [kV k, v]) (ds := [keyDt k, x]) (.cons (dt_key k) (.cons e2 .nil)) hT
        refine ⟨S2.pop, .tup [keyDt k, x], ?_, S2.top⟩
        unfold itemsD
        rw [List.getElem?_map, e1]
        rfl
  stop := fun {sl tm ow g σ H i} S h => by
    have hd := S.locked n
    unfold itemsD at h
    rw [List.length_map] at h
    cases S.top with
    | dct q _ r =>
      rcases q with q | ⟨o, q⟩
      · rw [hd] at q; cases q
      · rw [hd] at q
        cases q
        exact ⟨hd, by rw [r.len, h]; exact Nat.le_refl _⟩
theorem wlk_keys {kv : List (Key × D)} (n : ¬ R.mu Γ.ix d) : Wlk (Γ.lock d od kvs) (Itk d od kvs) (keysOf kv) [(.ref d, .dct kv)] where
  go := fun {sl tm ow g σ H i} S h => by
    have hd := S.locked n
    unfold keysOf at h
    rw [List.length_map] at h
    cases S.top with
    | dct q _ r =>
      rcases q with q | ⟨o, q⟩
      · rw [hd] at q; cases q
      · rw [hd] at q
        cases q
        exact ⟨hd, by rw [r.len]; exact h⟩
  yld := fun {sl tm ow g σ H i x H'} S h y => by
    have hd := S.locked n
    obtain ⟨rfl, k, v, e, rfl⟩ := y
    cases S.top with
    | dct q _ r =>
      rcases q with q | ⟨o, q⟩
      · rw [hd] at q; cases q
      · rw [hd] at q
        cases q
        obtain ⟨x, e1, e2⟩ := r.getL e
        refine ⟨S, keyDt k, ?_, dt_key k⟩
        unfold keysOf
        rw [List.getElem?_map, e1]
        rfl
  stop := fun {sl tm ow g σ H i} S h => by
    have hd := S.locked n
    unfold keysOf at h
    rw [List.length_map] at h
    cases S.top with
    | dct q _ r =>
      rcases q with q | ⟨o, q⟩
      · rw [hd] at q; cases q
      · rw [hd] at q
        cases q
        exact ⟨hd, by rw [r.len, h]; exact Nat.le_refl _⟩
end
end DL

set_option maxHeartbeats 4000000
namespace DL
open PySem PySem.Spec PyProof.Rows L2
section
variable {R : Rs} {Γ : Gm R} {sl sl' : List SV} {tm : List (V × D)} {ow : List (Addr × MO)} {g : R.α} {σ σ' : L2.St} {H H' : Hp} {ι : Type} {X : ι → Cx} {E : XK}
theorem lcD_noerr {gf : FG} {ft : FT R} {fe : FE R} : ∀ (ds : List D) (sl : List SV) (g : R.α), (∃ xs g', lcD gf ft fe ds sl g = .ok xs g') ∨ lcD gf ft fe ds sl g = .bad
  | [], sl, g => .inl ⟨[], g, rfl⟩
  | d :: ds, sl, g => by
    simp only [lcD]
    cases gf d sl with
    | none => exact .inr rfl
    | some sl1 =>
      dsimp only
      cases ft sl1 g with
      | bad => exact .inr rfl
      | err => exact .inr rfl
      | ok c g1 =>
        dsimp only [noerr_ok, bind_ok]
        cases c with
        | false =>
          rw [if_neg Bool.false_ne_true]
          exact lcD_noerr ds sl g1
        | true =>
          rw [if_pos rfl]
          cases fe sl1 g1 with
          | bad => exact .inr rfl
          | err => exact .inr rfl
          | ok x g2 =>
            dsimp only [noerr_ok, bind_ok]
            rcases lcD_noerr ds sl g2 with ⟨xs, g', e⟩ | e
            · rw [e]; exact .inl ⟨_, _, rfl⟩
            · rw [e]; exact .inr rfl
theorem pe_anyJ {e : Expr} (j : ι) : PE (X j) e (fun σ H Q => ∃ t, (∀ j, PE (X j) e t) ∧ t σ H Q) := ⟨fun pins s σ H Q I ⟨t, p, q⟩ => (p j).run pins s σ H Q I q⟩
def fLcI (it : List (Key × D) → List D) (i : Nat) (js : List Nat) (gf : FG) (ft : FT R) (fe : FE R) : FE R := fun sl g => match sl[i]? with
  | some (.dat (.dct kv)) => if allUn js sl = true then (lcD gf ft fe (it kv) sl g).bind fun xs g => if xs.length ≤ 100000 then .ok (.lst xs) g else .bad else .bad
  | _ => .bad
theorem ed_lcDict {it : List (Key × D) → List D} {J : Addr → Obj → List (Key × V) → It} {wi : TE → TI} {i : Nat} {elt tg iter : Expr} {ifs : List Expr} {scope : Scope} {own : List (Str × Nat)} {pos : Pos} {gf : FG} {ft : FT R} {fe : FE R} (L : LockOk R) (hwi : ∀ σ H (Rq : It → Hp → Prop), (tVar i σ H fun x H1 => ∃ d o kvs, x = .ref d ∧ H1 d = some (.frz o (.dK kvs)) ∧ Rq (J d o kvs) H1) → wi (tVar i) σ H Rq)
    (hwk : ∀ {d : Addr} {od : Obj} {kvs : List (Key × V)} {kv : List (Key × D)}, ¬ R.mu Γ.ix d → Wlk (Γ.lock d od kvs) (J d od kvs) (it kv) [(.ref d, .dct kv)])
    (hc : ∀ j, (X j).calm = true) (hN : ∀ j, (X j).N.Nodup) (hi : ∀ j, PI (X j) tg iter (wi (tVar i))) (ok : ∀ j, BlkOk (X j).N (X j).env.scope scope own)
    (hg : ∀ d od kvs, EG (fun q : ι × Shared × Hp × Addr × List (Str × Addr) × List Addr => (X q.1).blk q.2.1 q.2.2.1 scope (compEnvC scope q.2.2.2.2.1 q.2.2.2.1 (X q.1).env) q.2.2.2.2.2) (Γ.lock d od kvs) tg (own.map (·.2)) gf)
    (ht : ∀ d od kvs, ∃ tt, (∀ q : ι × Shared × Hp × Addr × List (Str × Addr) × List Addr, PTs ((X q.1).blk q.2.1 q.2.2.1 scope (compEnvC scope q.2.2.2.2.1 q.2.2.2.1 (X q.1).env) q.2.2.2.2.2) ifs tt) ∧ ∀ sl tm ow g σ H Q, SRel (Γ.lock d od kvs) sl tm ow g σ H → OkT (Γ.lock d od kvs) sl tm ow σ E0 Q (ft sl g) → tt σ H Q)
    (he : ∀ d od kvs, ED (fun q : ι × Shared × Hp × Addr × List (Str × Addr) × List Addr => (X q.1).blk q.2.1 q.2.2.1 scope (compEnvC scope q.2.2.2.2.1 q.2.2.2.1 (X q.1).env) q.2.2.2.2.2) E0 (Γ.lock d od kvs) elt fe)
    (hs : ∀ j, ∀ x, foldedSetIterable iter (X j).env x = pure x := by intro _ _; rfl) : ED X E Γ (.ListComp elt [⟨tg, iter, ifs, 0⟩] scope pos) (fLcI it i (own.map (·.2)) gf ft fe) := by
  refine ⟨fun σ H Q => ∃ t, (∀ j, PE (X j) (.ListComp elt [⟨tg, iter, ifs, 0⟩] scope pos) t) ∧ t σ H Q, fun j => pe_anyJ j, fun sl tm ow g σ H Q S h => ?_⟩
  unfold fLcI at h
  split at h
  · rename_i kv e1
    obtain ⟨v, e2, dv⟩ := S.slots i _ e1
    cases dv with
    | dct ha nav hf =>
      rename_i a vs
      have nm : ¬ R.mu Γ.ix a := fun z => nav (.inl z)
      rcases ha with ha | ⟨od, ha⟩
      · refine ⟨tLockE fun σ H Q => ∃ t, (∀ j, PE (X j) (.ListComp elt [⟨tg, iter, ifs, 0⟩] scope pos) t) ∧ t σ H Q, fun j => pe_lock (pe_anyJ j), a, .dK vs, ha, trivial, fun od => ?_⟩
        obtain ⟨gt, pg, apg, sg⟩ := hg a od vs
        obtain ⟨tt, pt, st⟩ := ht a od vs
        obtain ⟨te, pe, se⟩ := he a od vs
        refine ⟨_, fun j => pe_lc (hc j) (hN j) (hi j) (ok j) (fun s H C cl fp => pg (j, s, H, C, cl, fp)) (fun s H C cl fp => pt (j, s, H, C, cl, fp)) (fun s H C cl fp => pe (j, s, H, C, cl, fp)) (hs j), ?_⟩
        refine hwi _ _ _ ⟨.ref a, e2, a, od, vs, rfl, upd_same, fun Dd hD => ?_⟩
        have S1 := S.lock (od := od) L ha nav
        have dd : Dt Γ.K (Γ.av sl ow σ) H (.ref a) (.dct kv) := .dct (.inl ha) nav hf
        refine lcCore (Q := fun v H' => H' a = some (.frz od (.dK vs)) ∧ Q v (upd H' a (.dK vs))) (hs := [(.ref a, .dct kv)]) (ds := it kv) (g' := g) (E := E0) apg sg st se (S1.push (dd.lock ha)) (hwk nm) ?_ Dd hD
        by_cases hu : allUn (own.map (·.2)) sl = true
        · rw [if_pos hu] at h ⊢
          rcases lcD_noerr (gf := gf) (ft := ft) (fe := fe) (it kv) sl g with ⟨xs, g2, e⟩ | e
          · rw [e] at h ⊢
            dsimp only [bind_ok] at h ⊢
            by_cases hz : xs.length ≤ 100000
            · rw [if_pos hz] at h ⊢
              intro v2 H2 S2 d2
              have hd2 := S2.locked nm
              exact ⟨hd2, h v2 _ (S2.unlock L nm fun o z => by have := S.frame a o z nm; rw [ha] at this; exact (Option.some.inj this).symm) (Dt.unlock hd2 d2)⟩
            · rw [if_neg hz] at h
              exact h.elim
          · rw [e] at h
            exact h.elim
        · rw [if_neg hu] at h
          exact h.elim
      · obtain ⟨gt, pg, apg, sg⟩ := hg a od vs
        obtain ⟨tt, pt, st⟩ := ht a od vs
        obtain ⟨te, pe, se⟩ := he a od vs
        refine ⟨_, fun j => pe_lc (hc j) (hN j) (hi j) (ok j) (fun s H C cl fp => pg (j, s, H, C, cl, fp)) (fun s H C cl fp => pt (j, s, H, C, cl, fp)) (fun s H C cl fp => pe (j, s, H, C, cl, fp)) (hs j), ?_⟩
        refine hwi _ _ _ ⟨.ref a, e2, a, od, vs, rfl, ha, fun Dd hD => ?_⟩
        have S1 := S.still ha nav
        have dd : Dt Γ.K (Γ.av sl ow σ) H (.ref a) (.dct kv) := .dct (.inr ⟨od, ha⟩) nav hf
        refine lcCore (Q := Q) (hs := [(.ref a, .dct kv)]) (ds := it kv) (g' := g) (E := E0) apg sg st se (S1.push dd) (hwk nm) ?_ Dd hD
        by_cases hu : allUn (own.map (·.2)) sl = true
        · rw [if_pos hu] at h ⊢
          rcases lcD_noerr (gf := gf) (ft := ft) (fe := fe) (it kv) sl g with ⟨xs, g2, e⟩ | e
          · rw [e] at h ⊢
            dsimp only [bind_ok] at h ⊢
            by_cases hz : xs.length ≤ 100000
            · rw [if_pos hz] at h ⊢
              intro v2 H2 S2 d2
              exact h v2 _ (S2.unstill nm fun o z => by have := S.frame a o z nm; rw [ha] at this; exact (Option.some.inj this).symm) d2
            · rw [if_neg hz] at h
              exact h.elim
          · rw [e] at h
            exact h.elim
        · rw [if_neg hu] at h
          exact h.elim
    | _ => exact h.elim
  · exact h.elim
end
end DL

set_option maxHeartbeats 4000000
namespace VK
open PySem PySem.Spec PyProof.Rows L2
/-! ## repr of a dict whose values are flat or tuples of flat ones -/
inductive FlAll : List V → List PyData → Prop
  | nil : FlAll [] []
  | cons {v : V} {d : PyData} {vs : List V} {ds : List PyData} : Fl v d → FlAll vs ds → FlAll (v :: vs) (d :: ds)
inductive Ft (K : PySem.W.Frag) (H : Hp) : V → PyData → Prop
  | fl {v : V} {d : PyData} : Fl v d → Ft K H v d
  | tup {a : Addr} {xs : List V} {ds : List PyData} : H a = some (.tup xs) → FlAll xs ds → Ft K H (.ref a) (.tuple ds)
inductive Dk (K : PySem.W.Frag) (H : Hp) : V → PyData → Prop
  | dct {a : Addr} {kvs : List (Key × V)} {ds : List (PyData × PyData)} : L2.Rd H a (.dK kvs) → Paired (fun (p : Key × V) (q : PyData × PyData) => q.1 = keyD p.1 ∧ Ft K H p.2 q.2) kvs ds → Dk K H (.ref a) (.dict ds)
section
variable {X : Cx} {pins : List (Addr × Obj)} {σ : L2.St} {H : Hp} {s : Shared}
theorem reads_flAll {h : Heap} : ∀ {vs : List V} {ds : List PyData} {us : List Value}, FlAll vs ds → Vals vs us → ReadsAll h us ds []
  | _, _, _, .nil, .nil => .nil
  | _, _, _, .cons f r, .cons v t => .cons (as := []) (reads_fl f v) (reads_flAll r t)
theorem reads_ft (I : Inv X pins σ H s) {v : V} {d : PyData} {u : Value} (f : Ft X.K H v d) (r : RelV v u) : Reads s.heap u d [] := by
  cases f with
  | fl f => exact reads_fl f r
  | tup ha hf =>
    cases r
    obtain ⟨its, rv, ⟨o, ho, hc, n, hd⟩, _⟩ := I.tuple (SqT.of ha)
    exact Reads.tuple ho hc hd (reads_flAll hf rv)
theorem reads_pairsT (I : Inv X pins σ H s) : ∀ {es : List DictEntry} {vs : List (Key × Value)} {kvs : List (Key × V)} {ds : List (PyData × PyData)}, Pairs (mixKind X.prog X.w) es vs → KV kvs vs →
    Paired (fun (p : Key × V) (q : PyData × PyData) => q.1 = keyD p.1 ∧ Ft X.K H p.2 q.2) kvs ds → ReadsAll s.heap (es.map (·.key)) (ds.map (·.1)) [] ∧ ReadsAll s.heap (es.map (·.val)) (ds.map (·.2)) []
  | _, _, _, _, .nil, .nil, .nil => ⟨.nil, .nil⟩
  | _, _, _, _, .cons hk hv hp, .cons r hr, .cons q hq => by
    obtain ⟨i1, i2⟩ := reads_pairsT I hp hr hq
    obtain ⟨e1, e2⟩ := r
    obtain ⟨q1, q2⟩ := q
    refine ⟨?_, ?_⟩
    · rw [List.map_cons, List.map_cons, q1, e1]
      exact .cons (as := []) (reads_key hk) i1
    · rw [List.map_cons, List.map_cons, hv]
      exact .cons (as := []) (reads_ft I q2 e2) i2
theorem Dk.reads (I : Inv X pins σ H s) {v : V} {d : PyData} {u : Value} (h : Dk X.K H v d) (r : RelV v u) : ∃ as, Reads s.heap u d as ∧ sysModules ∉ as := by
  cases h with
  | @dct a kvs ds ha hp =>
    cases r
    have key : ∀ {o : Obj} {es : Array DictEntry} {ep : Nat} {vs : List (Key × Value)}, (a == sysModules) = false → s.heap.get? a = some o → o.ExactDict → o.data = .dict es ep → KV kvs vs → Pairs (mixKind X.prog X.w) es.toList vs → ∃ as, Reads s.heap (.ref a) (.dict ds) as ∧ sysModules ∉ as := fun {o es ep vs} hne ho hex hd hkv hps => by
      obtain ⟨r1, r2⟩ := reads_pairsT I hps hkv hp
      refine ⟨_, Reads.dict ho hex.1 hd r1 r2, fun hm => ?_⟩
      rcases List.mem_append.mp hm with z | z
      · have e := List.mem_singleton.mp z
        rw [← e, beq_self_eq_true] at hne
        cases hne
      · cases z
    rcases ha with ha | ⟨od, ha⟩
    · obtain ⟨_, hne, vs, hkv, o, es, ep, ho, hex, hd, _, hps, _⟩ := I.hok _ _ ha
      exact key hne ho hex hd hkv hps
    · obtain ⟨hg, _, hne, vs, hkv, o, es, ep, ho, hex, hd, _, hps, _⟩ := I.hok _ _ ha
      exact key hne ho hex hd hkv hps
theorem call_reprK (hg : X.A.guards = some []) (hu : X.A.units + 64 < cLine) : CallR X (.builtin "repr") (fun xs H Q => ∃ v d, xs = [v] ∧ Dk X.K H v d ∧ d.showable = true ∧ d.shown.length ≤ sizeLine ∧ d.depth ≤ 60 ∧ Q (.str d.shown) H) := by
  intro pins s σ H xs us Q I r h
  obtain ⟨v, d, rfl, hd, hs, hz, hdep, q⟩ := h
  cases r with
  | cons rv rr =>
    cases rr
    obtain ⟨as, hr, hsm⟩ := hd.reads I rv
    cases hd with
    | dct =>
      cases hr with
      | dict h1 h2 h3 h4 h5 => exact repr_of_reads' (.dict h1 h2 h3 h4 h5) hs (fun _ => hsm) hg (by omega) (fun _ _ e => e) (fun h' u tk k => ⟨.str _, H, I.kept (t' := tk) k, ⟨_, rfl⟩, q⟩) hz
end
end VK

set_option maxHeartbeats 4000000
namespace DL
open PySem PySem.Spec PyProof.Rows L2
/-! ## repr of dicts -/
def toFl : D → Option PyData
  | .non => some .none
  | .bl b => some (.bool b)
  | .int i => some (.int i)
  | .str x => some (.str x)
  | _ => none
def toFls : List D → Option (List PyData)
  | [] => some []
  | d :: r => match toFl d, toFls r with
    | some a, some b => some (a :: b)
    | _, _ => none
def toFt : D → Option PyData
  | .tup ds => (toFls ds).map PyData.tuple
  | d => toFl d
def toKV : List (Key × D) → Option (List (PyData × PyData))
  | [] => some []
  | (k, d) :: r => match toFt d, toKV r with
    | some a, some b => some ((VK.keyD k, a) :: b)
    | _, _ => none
def reprKD : List D → Option D
  | [.dct kv] => match toKV kv with
    | some ps => if (PyData.dict ps).showable = true ∧ (PyData.dict ps).shown.length ≤ 100000 ∧ (PyData.dict ps).depth ≤ 60 then some (.str (PyData.dict ps).shown) else none
    | none => none
  | _ => none
section
variable {K : PySem.W.Frag} {av : Addr → Prop} {H : Hp}
theorem fl_of {v : V} {d : D} {p : PyData} (h : Dt K av H v d) (e : toFl d = some p) : VK.Fl v p := by
  cases h <;> first | (cases e; done) | skip
  all_goals cases e
  · exact .non
  · exact .bl _
  · exact .int _
  · exact .str _
theorem fls_of : ∀ {vs : List V} {ds : List D} {ps : List PyData}, DtAll K av H vs ds → toFls ds = some ps → VK.FlAll vs ps
  | _, _, _, .nil, e => by cases e; exact .nil
  | _, _, _, .cons (d := d) (ds := ds) a t, e => by
    simp only [toFls] at e
    cases e1 : toFl d with
    | none => rw [e1] at e; cases e
    | some p =>
      cases e2 : toFls ds with
      | none => rw [e1, e2] at e; cases e
      | some q =>
        rw [e1, e2] at e
        cases e
        exact .cons (fl_of a e1) (fls_of t e2)
theorem ft_of {v : V} {d : D} {p : PyData} (h : Dt K av H v d) (e : toFt d = some p) : VK.Ft K H v p := by
  by_cases ht : ∃ ds, d = .tup ds
  · obtain ⟨ds, rfl⟩ := ht
    simp only [toFt] at e
    cases e2 : toFls ds with
    | none => rw [e2] at e; cases e
    | some q =>
      rw [e2] at e
      cases e
      cases h with
      | tup q r => exact .tup q.1 (fls_of r e2)
  · have : toFt d = toFl d := by
      cases d <;> first | rfl | exact absurd ⟨_, rfl⟩ ht
    rw [this] at e
    exact .fl (fl_of h e)
theorem kv_of : ∀ {vs : List (Key × V)} {ds : List (Key × D)} {ps : List (PyData × PyData)}, DtKV K av H vs ds → toKV ds = some ps → Paired (fun (p : Key × V) (q : PyData × PyData) => q.1 = VK.keyD p.1 ∧ VK.Ft K H p.2 q.2) vs ps
  | _, _, _, .nil, e => by cases e; exact .nil
  | _, _, _, .cons (k := k) (d := d) (ds := ds) a t, e => by
    simp only [toKV] at e
    cases e1 : toFt d with
    | none => rw [e1] at e; cases e
    | some p =>
      cases e2 : toKV ds with
      | none => rw [e1, e2] at e; cases e
      | some q =>
        rw [e1, e2] at e
        cases e
        exact .cons ⟨rfl, ft_of a e1⟩ (kv_of t e2)
end
section
variable {R : Rs} {Γ : Gm R} {sl sl' : List SV} {tm : List (V × D)} {ow : List (Addr × MO)} {g : R.α} {σ σ' : L2.St} {H H' : Hp} {ι : Type} {X : ι → Cx} {E : XK}
theorem s_reprK : CallS Γ (fun xs H Q => ∃ v d, xs = [v] ∧ VK.Dk Γ.K H v d ∧ d.showable = true ∧ d.shown.length ≤ sizeLine ∧ d.depth ≤ 60 ∧ Q (.str d.shown) H) reprKD := by
  intro sl tm ow g σ H xs ds z Q S dx eo k
  unfold reprKD at eo
  split at eo
  · rename_i kv
    cases dx with
    | cons d1 d2 =>
      cases d2
      cases e1 : toKV kv with
      | none => rw [e1] at eo; cases eo
      | some ps =>
        rw [e1] at eo
        dsimp only at eo
        split at eo
        · rename_i c
          cases eo
          cases d1 with
          | dct ha nav hf => exact ⟨_, .dict ps, rfl, .dct ha (kv_of hf e1), c.1, lim_ok c.2.1, c.2.2, k _ _ S (fun _ _ e => e) (.str _)⟩
        · cases eo
  · cases eo
/-! ## o[i] of a dict -/
def fDGetE (fo fi : FE R) : FE R := fun sl g => (fo sl g).bind fun o g => (fi sl g).bind fun k g => match o, k with
  | .dct kvs, .int n => match valD kvs (.inl n) with
    | some d => .ok d g
    | none => .bad
  | _, _ => .bad
theorem ed_dgetE {o i : Expr} {pos : Pos} {fo fi : FE R} (ho : ED X E Γ o fo) (hi : ED X E Γ i fi) (pe : ∀ {to ti} j, PE (X j) o to → PE (X j) i ti → PE (X j) (.Subscript o i pos) (tDGet to ti)) : ED X E Γ (.Subscript o i pos) (fDGetE fo fi) := by
  obtain ⟨to, po, so⟩ := ho
  obtain ⟨ti, pi, si⟩ := hi
  refine ⟨_, fun j => pe j (po j) (pi j), fun sl tm ow g σ H Q S h => ?_⟩
  unfold fDGetE at h
  refine so sl tm ow g σ H _ S ?_
  cases e1 : fo sl g with
  | bad => rw [e1] at h; exact h
  | err C fs g' => rw [e1] at h; exact h
  | ok d g1 =>
    rw [e1] at h
    dsimp only [bind_ok] at h
    intro v H1 S1 d1
    refine si sl ((v, d) :: tm) ow g1 σ H1 _ (S1.push d1) ?_
    cases e2 : fi sl g1 with
    | bad => rw [e2] at h; exact h
    | err C fs g' => rw [e2] at h; exact fun x H2 S2 a => h x H2 S2.pop a
    | ok k g2 =>
      rw [e2] at h
      dsimp only [bind_ok] at h
      intro u H2 S2 d2
      split at h
      · rename_i kvs n
        have d1' := S2.top
        cases d2
        cases d1' with
        | dct ha nav hf =>
          rename_i a vs
          cases q : valD kvs (.inl n) with
          | none => rw [q] at h; exact h.elim
          | some d =>
            rw [q] at h
            obtain ⟨v, e3, dv⟩ := hf.val d q
            exact ⟨a, v, rfl, .inl ⟨vs, .inl n, ha, rfl, e3.symm⟩, h v H2 S2.pop dv⟩
      · exact h.elim
/-! ## x[i] = e of a dict that is made here -/
def sDPutE (i : Nat) (fi fe : FE R) : FS R := fun sl g => match sl[i]? with
  | some (.mu (.dct kvs)) => (fe sl g).toS fun d g => (fi sl g).toS fun k g => match k with
    | .int n => if kvs.length < 100000 then .nx (sl.set i (.mu (.dct (putKD kvs (.inl n) d)))) g else .bad
    | _ => .bad
  | _ => .bad
theorem es_dputE {i : Nat} {x : Str} {ei e : Expr} {fi fe : FE R} {px pt pos : Pos} (hv : ∀ j, PE (X j) (.Name x px) (tVar i)) (hi : ED X E Γ ei fi) (he : ED X E Γ e fe)
    (ps : ∀ {ti te} j, PE (X j) ei ti → PE (X j) e te → PS (X j) (.Assign [.Subscript (.Name x px) ei pt] e pos) (sDPut (tVar i) ti te)) : ES X E Γ (.Assign [.Subscript (.Name x px) ei pt] e pos) (sDPutE i fi fe) := by
  obtain ⟨t1, p1, s1⟩ := he
  obtain ⟨t2, p2, s2⟩ := hi
  refine ⟨_, fun j => ps j (p2 j) (p1 j), fun sl tm ow g σ H Dn S h => ?_⟩
  unfold sDPutE at h
  split at h
  · rename_i kvs e1
    refine s1 sl tm ow g σ H _ S (toS_okV (sl := sl) (σ := σ) h fun d g' _ q v H' S' dv => ?_)
    obtain ⟨a, e2, vs, hl, hd⟩ := S'.slots i _ e1
    refine ⟨_, e2, ?_⟩
    refine s2 sl ((v, d) :: tm) ow g' σ H' _ (S'.push dv) ?_
    cases ek : fi sl g' with
    | bad => rw [ek] at q; exact q
    | err C fs g2 => rw [ek] at q; exact OkX.of q
    | ok k g2 =>
      rw [ek] at q
      dsimp only [toS_ok] at q
      intro u H2 S2 dk
      split at q
      · rename_i n
        by_cases hc : kvs.length < 100000
        · rw [if_pos hc] at q
          cases dk
          obtain ⟨a', e3, vs', hl', hd'⟩ := S2.slots i _ e1
          rw [e2] at e3
          cases e3
          refine ⟨a, _, rfl, DPut.k (k := .inl n) hl' (by rw [hd'.length]; exact lim_lt hc), ?_⟩
          refine q _ _ ((S2.pop.change e1 e2 ⟨putK vs' (.inl n) v, upd_same, (DtKV.put S2.top hd').keep fun b o e nn => ⟨?_, nn⟩⟩))
          have : b ≠ a := fun z => nn (by rw [z]; exact .inr (.inr (.inl ⟨i, _, e1, e2⟩)))
          rw [upd_ne this]
          exact e
        · rw [if_neg hc] at q
          exact q.elim
      · exact q.elim
  · exact h.elim
end
end DL

set_option maxHeartbeats 4000000
namespace DL
open PySem PySem.Spec PyProof.Rows L2
section
variable {R : Rs} {Γ : Gm R} {sl sl' : List SV} {tm : List (V × D)} {ow : List (Addr × MO)} {g : R.α} {σ σ' : L2.St} {H H' : Hp} {ι : Type} {X : ι → Cx} {E : XK}
/-! ## xs != [] of a list that is changed -/
def tMu (o : D → D → Option D) (i : Nat) : FT R := fun sl g => match sl[i]? with
  | some (.mu m) => match o m.d (.lst []) with
    | some (.bl b) => .ok b g
    | _ => .bad
  | _ => .bad
theorem et_mu {i : Nat} {op : CmpOp} {r : R2} {o : D → D → Option D} {x : Str} {px pl pos : Pos} (ho : ∀ j, OpR (X j) (compareOp op) r) (so : OpS Γ r o) (hv : ∀ j, PE (X j) (.Name x px) (tVar i)) (hm : behindInMarks op (.List [] pl) = false) : ET X E Γ (.Compare (.Name x px) [op] [.List [] pl] pos) (tMu o i) := by
  refine ⟨_, fun j => pt_cmpR (ho j) (hv j) (pe_lst pa_nil) hm, fun sl tm ow g σ H Q S h => ?_⟩
  unfold tMu at h
  split at h
  · rename_i m e1
    split at h
    · rename_i b eo
      obtain ⟨a, e2, _⟩ := S.slots i _ e1
      refine ⟨_, e2, Nat.zero_le _, fun q hq => ?_⟩
      have S1 := (S.newL (vs := []) (ds := []) .nil hq)
      have S2 := S1.freeze e1
      obtain ⟨v, e3, dv⟩ := S2.slots i (.dat m.d) (by rw [List.getElem?_set_self (List.getElem?_eq_some_iff.mp e1).1])
      rw [e2] at e3
      cases e3
      refine so _ _ ow g σ _ _ _ m.d (.lst []) _ _ S2 dv S2.top eo fun w H3 _ k3 d3 => ?_
      cases d3
      exact ⟨b, rfl, h H3 (S1.pop.ext k3)⟩
    · exact h.elim
  · exact h.elim
/-! ## xs.append(ys.pop(e)) -/
def sAppPop (i j : Nat) (f : FE R) : FS R := fun sl g => match sl[i]?, sl[j]? with
  | some (.mu (.lst ds)), some (.mu (.lst es)) => if i = j then .bad else (f sl g).toS fun k g => match k with
    | .int n => if 0 ≤ n ∧ n.toNat < es.length ∧ es.length ≤ 100000 ∧ ds.length < 100000 then match es[n.toNat]? with
        | some d => .nx ((sl.set j (.mu (.lst (es.eraseIdx n.toNat)))).set i (.mu (.lst (ds ++ [d])))) g
        | none => .bad
      else .bad
    | _ => .bad
  | _, _ => .bad
theorem DtAll.erase {K : PySem.W.Frag} {av : Addr → Prop} {H : Hp} : ∀ {xs : List V} {ds : List D} (n : Nat), DtAll K av H xs ds → DtAll K av H (xs.eraseIdx n) (ds.eraseIdx n)
  | _, _, _, .nil => .nil
  | _, _, 0, .cons _ t => t
  | _, _, n + 1, .cons a t => .cons a (DtAll.erase n t)
theorem DtAll.atD {K : PySem.W.Frag} {av : Addr → Prop} {H : Hp} : ∀ {xs : List V} {ds : List D} {n : Nat} {d : D}, DtAll K av H xs ds → ds[n]? = some d → ∃ v, xs[n]? = some v ∧ Dt K av H v d
  | _, _, _, _, .nil, e => by simp at e
  | _, _, 0, _, .cons a t, e => by simp at e; subst e; exact ⟨_, rfl, a⟩
  | _, _, n + 1, _, .cons a t, e => by
    obtain ⟨v, e1, e2⟩ := DtAll.atD (n := n) t (by simpa using e)
    exact ⟨v, by simpa using e1, e2⟩
theorem es_appPop {i j : Nat} {x y : Str} {e : Expr} {f : FE R} {px py ap1 ap2 cp1 cp2 pos : Pos} (hx : ∀ k, PE (X k) (.Name x px) (tVar i)) (hy : ∀ k, PE (X k) (.Name y py) (tVar j)) (h : ED X E Γ e f)
    (pp : ∀ {te} k, PE (X k) e te → PE (X k) (.Call (.Attribute (.Name y py) "pop" ap2) [e] [] cp2) (tBM Γ.K "list" rPopAt (tVar j) (tCons te tNil)))
    (pe : ∀ {te} k, PE (X k) (.Call (.Attribute (.Name y py) "pop" ap2) [e] [] cp2) te → PE (X k) (.Call (.Attribute (.Name x px) "append" ap1) [.Call (.Attribute (.Name y py) "pop" ap2) [e] [] cp2] [] cp1) (tBM Γ.K "list" rAppend (tVar i) (tCons te tNil)))
    (hs : ∀ k, swapsWith (.Call (.Attribute (.Name x px) "append" ap1) [.Call (.Attribute (.Name y py) "pop" ap2) [e] [] cp2] [] cp1) none pos.line (X k).env = pure false := by intro _; rfl) :
    ES X E Γ (.Expr (.Call (.Attribute (.Name x px) "append" ap1) [.Call (.Attribute (.Name y py) "pop" ap2) [e] [] cp2] [] cp1) pos) (sAppPop i j f) := by
  obtain ⟨t, p, s⟩ := h
  refine ⟨_, fun k => ps_expr (pe k (pp k (p k))) (hs k), fun sl tm ow g σ H Dn S h => ?_⟩
  unfold sAppPop at h
  split at h
  · rename_i ds es e1 e2
    by_cases hij : i = j
    · rw [if_pos hij] at h; exact h.elim
    rw [if_neg hij] at h
    obtain ⟨a, ea, vs, hl, hd⟩ := S.slots i _ e1
    obtain ⟨b, eb, ws, hl2, hd2⟩ := S.slots j _ e2
    refine ⟨_, ea, .inl ⟨rfl, vs, SqL.of hl⟩, ?_⟩
    refine ⟨_, eb, .inl ⟨rfl, ws, SqL.of hl2⟩, ?_⟩
    refine s sl tm ow g σ H _ S (toS_okV (sl := sl) (σ := σ) h fun d g' ef q v H' S' dv => ?_)
    clear ef
    split at q
    · rename_i n
      cases dv
      split at q
      · rename_i c
        obtain ⟨c1, c2, c3, c4⟩ := c
        cases ed : es[n.toNat]? with
        | none => rw [ed] at q; exact q.elim
        | some d =>
          rw [ed] at q
          dsimp only at q
          obtain ⟨b', eb', ws', hl2', hd2'⟩ := S'.slots j _ e2
          rw [eb] at eb'
          cases eb'
          obtain ⟨w, hw, dw⟩ := hd2'.atD ed
          have hlen := hd2'.length
          have nb : ∀ (c : Addr), ¬ Γ.av sl ow σ c → c ≠ b := fun c nn z => nn (by rw [z]; exact .inr (.inr (.inl ⟨j, _, e2, eb⟩)))
          have S2 := (S'.push dw).change e2 eb (m' := .lst (es.eraseIdx n.toNat)) ⟨ws'.eraseIdx n.toNat, upd_same, (hd2'.erase n.toNat).keep fun c o e nn => ⟨by rw [upd_ne (nb c nn)]; exact e, nn⟩⟩
          refine ⟨b, ws', n, n.toNat, w, rfl, rfl, hl2', by omega, by omega, ?_, hw, ?_⟩
          · unfold seqIndex?
            have z1 : ¬ n < 0 := by omega
            dsimp only
            rw [if_neg z1, if_pos]
            simp only [Bool.and_eq_true, decide_eq_true_eq]
            exact ⟨c1, by omega⟩
          · have e1' : (sl.set j (.mu (.lst (es.eraseIdx n.toNat))))[i]? = some (SV.mu (.lst ds)) := by rw [List.getElem?_set_ne (Ne.symm hij)]; exact e1
            obtain ⟨a', ea', vs', hl', hd'⟩ := S2.slots i _ e1'
            rw [ea] at ea'
            cases ea'
            refine ⟨a, vs', w, rfl, rfl, hl', by rw [hd'.length]; exact lim_lt c4, ?_⟩
            refine q _ _ ((S2.pop.change e1' ea ⟨vs' ++ [w], upd_same, (DtAll.app hd' (.cons S2.top .nil)).keep fun c o e nn => ⟨?_, nn⟩⟩))
            have : c ≠ a := fun z => nn (by rw [z]; exact .inr (.inr (.inl ⟨i, _, e1', ea⟩)))
            rw [upd_ne this]
            exact e
      · exact q.elim
    · exact q.elim
  · exact h.elim
/-! ## xs, ys = list(e), [] -/
def sParNN (i j : Nat) (f : FA R) : FS R := fun sl g => (f sl g).toS fun l g => .nx ((sl.set i (.mu (.lst l))).set j (.mu (.lst []))) g
theorem es_parNN {i j : Nat} {x y : Str} {a : Expr} {f : FA R} {px py pt pl : Pos} {kt k2 pt2 pos} (h : EN Γ X E a f) (ps : ∀ {ta} k, PA (X k) [a, .List [] pl] ta → PS (X k) (.Assign [.Tuple [.Name x px, .Name y py] kt pt] (.Tuple [a, .List [] pl] k2 pt2) pos) (tPar i j ta)) (hs : ∀ k, starEach [a, .List [] pl] (X k).env = (false, eval a (X k).env) :: starEach [.List [] pl] (X k).env := by intro _; rfl) :
    ES X E Γ (.Assign [.Tuple [.Name x px, .Name y py] kt pt] (.Tuple [a, .List [] pl] k2 pt2) pos) (sParNN i j f) := by
  obtain ⟨t, p, s⟩ := h
  refine ⟨_, fun k => ps k (pa_cons (p k) (pa_cons (pe_lst pa_nil) pa_nil) (hs k)), fun sl tm ow g σ H Dn S h => ?_⟩
  refine s sl tm ow g σ H _ S ?_
  unfold sParNN at h
  cases e1 : f sl g with
  | bad => rw [e1] at h; exact h
  | err C fs g' => rw [e1] at h; exact OkX.of h
  | ok l g' =>
    rw [e1] at h
    intro p vs H' S' hp dA
    refine ⟨Nat.zero_le _, fun q hq => ⟨_, _, rfl, h _ _ (SRel.setNew (i := j) (S'.setNew (i := i) hp ⟨vs, upd_same, dA.keep fun b o e n => ⟨upd_keep hp b o e, fun z => by
      rcases z with z | z
      · exact n z
      · exact ne_of_none e hp z⟩⟩) hq ⟨[], upd_same, .nil⟩)⟩⟩
/-! ## xs, y = {}, e -/
def sParDE (i j : Nat) (f : FE R) : FS R := fun sl g => (f sl g).toS fun d g => .nx ((sl.set i (.mu (.dct []))).set j (.dat d)) g
theorem SRel.takeOw {i : Nat} {p : Addr} {kv : List (Key × D)} (S : SRel Γ sl tm ((p, .dct kv) :: ow) g σ H) : SRel Γ (sl.set i (.mu (.dct kv))) tm ow g (σ.set i (some (.ref p))) H := by
  obtain ⟨vs, hv1, hv2⟩ := S.ows p _ List.mem_cons_self
  have h := SRel.setNew (i := i) (m := .dct kv) (o := .dK vs) S.unlay rm_same ⟨vs, upd_same, hv2.keep fun b o e n => ⟨by rw [rm_upd hv1]; exact e, fun z => n ?_⟩⟩
  · rw [rm_upd hv1] at h
    exact h
  · rcases z with (z | z | z | ⟨m2, z⟩) | z
    · exact .inl z
    · exact .inr (.inl z)
    · exact .inr (.inr (.inl z))
    · exact .inr (.inr (.inr ⟨m2, List.mem_cons_of_mem _ z⟩))
    · rw [z]
      exact .inr (.inr (.inr ⟨_, List.mem_cons_self⟩))
theorem es_parDE {i j : Nat} {x y : Str} {a : Expr} {f : FE R} {px py pt pl : Pos} {kt k2 pt2 pos} (h : ED X E Γ a f) (ps : ∀ {ta} k, PA (X k) [.Dict [] [] pl, a] ta → PS (X k) (.Assign [.Tuple [.Name x px, .Name y py] kt pt] (.Tuple [.Dict [] [] pl, a] k2 pt2) pos) (tPar i j ta)) (hs : ∀ k, starEach [a] (X k).env = (false, eval a (X k).env) :: starEach [] (X k).env := by intro _; rfl) :
    ES X E Γ (.Assign [.Tuple [.Name x px, .Name y py] kt pt] (.Tuple [.Dict [] [] pl, a] k2 pt2) pos) (sParDE i j f) := by
  obtain ⟨t, p, s⟩ := h
  refine ⟨_, fun k => ps k (pa_cons pe_dnewK (pa_cons (p k) pa_nil (hs k))), fun sl tm ow g σ H Dn S h => ?_⟩
  unfold sParDE at h
  intro q hq
  have S0 := S.hide (m := MO.dct []) (o := HO.dK []) hq ⟨[], upd_same, .nil⟩
  refine s sl tm ((q, MO.dct []) :: ow) g σ _ _ S0 ?_
  cases e1 : f sl g with
  | bad => rw [e1] at h; exact h
  | err C fs g' =>
    rw [e1] at h
    intro x H2 S2 x2
    have S3 := S2.unhide.pop
    refine OkX.of (sl := sl) (σ := σ) h x H2 S3 ?_
    cases x with
    | none => exact x2
    | some x =>
      obtain ⟨xs, q1, q2⟩ := x2
      refine ⟨xs, q1, q2.keep fun b o e n => ⟨e, fun z => n ?_⟩⟩
      rcases z with z | z | z
      · exact .inl z
      · exact .inr (.inl z)
      · refine .inr (.inr ?_)
        rcases z with z | ⟨m, z⟩
        · exact .inl z
        · exact .inr ⟨m, List.mem_cons_of_mem _ z⟩
  | ok d g' =>
    rw [e1] at h
    intro v H' S' dv
    have S2 := (S'.push dv).takeOw (i := i)
    exact ⟨_, _, rfl, h _ _ (S2.pop.setD (i := j) S2.top)⟩
end
end DL

set_option maxHeartbeats 4000000
namespace DL
open PySem PySem.Spec PyProof.Rows L2
section
variable {R : Rs} {Γ : Gm R} {sl sl' : List SV} {tm : List (V × D)} {ow : List (Addr × MO)} {g : R.α} {σ σ' : L2.St} {H H' : Hp} {ι : Type} {X : ι → Cx} {E : XK}
/-! ## {} -/
theorem ed_dnil {pos : Pos} : ED X E Γ (.Dict [] [] pos) (fC (.dct [])) :=
  ⟨_, fun _ => pe_dnewK, fun sl tm ow g σ H Q S h p hp => h (.ref p) _ (S.ext (upd_keep hp)) (.dct (.inl upd_same) (fun z => S.avd z hp) .nil)⟩
/-! ## list(range(n)) -/
def rgD (n : Int) : List D := (List.range n.toNat).map fun i => .int ((i : Nat) : Int)
def fListRg (f : FE R) : FE R := fun sl g => (f sl g).bind fun d g => match d with
  | .int n => if 0 ≤ n ∧ n ≤ 100000 then .ok (.lst (rgD n)) g else .bad
  | _ => .bad
theorem rg_dt {K : PySem.W.Frag} {av : Addr → Prop} {H : Hp} {n : Int} : DtAll K av H (rgV 0 n) (rgD n) := by
  unfold rgV rgD
  rw [Int.sub_zero]
  generalize List.range n.toNat = l
  induction l with
  | nil => exact .nil
  | cons a t ih =>
    rw [List.map_cons, List.map_cons, Int.zero_add]
    exact .cons (.int _) ih
theorem ed_listRg {a : Expr} {q p cpos pos : Pos} {f : FE R} (h : ED X E Γ a f) (pe : ∀ {ta} j, PE (X j) a ta → PE (X j) (.Call (.Name "list" p) [.Call (.Name "range" q) [a] [] cpos] [] pos) (tLstRg (tRg1 ta))) : ED X E Γ (.Call (.Name "list" p) [.Call (.Name "range" q) [a] [] cpos] [] pos) (fListRg f) := by
  obtain ⟨t, p, s⟩ := h
  refine ⟨_, fun j => pe j (p j), fun sl tm ow g σ H Q S h => ?_⟩
  refine s sl tm ow g σ H _ S ?_
  unfold fListRg at h
  cases e : f sl g with
  | bad => rw [e] at h; exact h
  | err C fs g' => rw [e] at h; exact h
  | ok d g' =>
    rw [e] at h
    dsimp only [bind_ok] at h
    intro v H1 S1 dv
    split at h
    · rename_i n
      by_cases c : 0 ≤ n ∧ n ≤ 100000
      · rw [if_pos c] at h
        cases dv
        refine ⟨n, rfl, RgOk.of_le (by omega) (by omega) (by omega) (by omega), fun q hq => ?_⟩
        have S2 := S1.newL (vs := rgV 0 n) (ds := rgD n) rg_dt hq
        exact h _ _ S2.pop S2.top
      · rw [if_neg c] at h
        exact h.elim
    · exact h.elim
/-! ## list(e) as a new list -/
def listNL : List D → Option (List D)
  | [.lst l] => some l
  | [.tup l] => some l
  | _ => none
theorem n_listL : CallN Γ (fun xs H Q => ∃ p ys, xs = [V.ref p] ∧ (SqL Γ.K H p ys ∨ SqT Γ.K H p ys) ∧ ∀ l, H l = none → Q (.ref l) (upd H l (.lst ys))) listNL := by
  intro sl tm ow g σ H xs ds z Q S dx eo k
  unfold listNL at eo
  split at eo
  · cases eo
    cases dx with
    | cons d1 d2 =>
      cases d2
      cases d1 with
      | lst h r => exact ⟨_, _, rfl, .inl h.seq, fun l hl => k l _ hl r⟩
  · cases eo
    cases dx with
    | cons d1 d2 =>
      cases d2
      cases d1 with
      | tup h r => exact ⟨_, _, rfl, .inr h.seq, fun l hl => k l _ hl r⟩
  · cases eo
theorem wi_items {i : Nat} (σ : L2.St) (H : Hp) (Rq : It → Hp → Prop) (h : tVar i σ H fun x H1 => ∃ d o kvs, x = .ref d ∧ H1 d = some (.frz o (.dK kvs)) ∧ Rq (Iti d o kvs) H1) : iItems (tVar i) σ H Rq := h
theorem wi_keys {i : Nat} (σ : L2.St) (H : Hp) (Rq : It → Hp → Prop) (h : tVar i σ H fun x H1 => ∃ d o kvs, x = .ref d ∧ H1 d = some (.frz o (.dK kvs)) ∧ Rq (Itk d o kvs) H1) : iKeys (tVar i) σ H Rq := by
  obtain ⟨v, e, d, o, kvs, a, b, c⟩ := h
  exact ⟨v, e, d, o, a, .inl ⟨kvs, b, c⟩⟩
end
/-- a def with defaults at hand, called in full too -/
structure LdZ (P : Program) (w : World) (K : PySem.W.Frag) (mg : Str → Option Value) (base : Heap) (R : Rs) (nm : Str) (k : Nat) (f : Addr) (fd : FuncData) (ps : List Str) (dvs : List V) (n : Nat) (F : FF R) : Prop where
  G : FnOk P w K mg base (L2.CX P w) k f fd ps (spD R K n F)
  b : ∃ ds, L2.Vals dvs ds ∧ Binds K fd ps ds
  g : mg nm = some (.ref f)
  k : PySem.W.keepIn K (.ref f) = true
  b0 : Binds K fd ps []
end DL

set_option maxHeartbeats 4000000
namespace DL
open PySem PySem.Spec PyProof.Rows L2
/-! ## zip(*rows): a zip of any number of tuples -/
abbrev TupV (h : Heap) (T : Addr) (vs : Array Value) : Prop := h.get? T = some { cls := .type "tuple", data := .seq vs }
abbrev ZipF (h : Heap) (z TI TO : Addr) (f0 : Value) (f1 : Bool) : Prop :=
  h.get? z = some { cls := .type "zip", dict := none, data := .fields #[f0, .bool f1, .bool false, .ref TI, .ref TO], slots := #[] }
/-- a list or a tuple at an address (true: a list), an iterator over it -/
abbrev Sq := Addr × Bool
def IsSq (h : Heap) (l : Sq) (xs : Array Value) : Prop := match l.2 with
  | true => h.IsList l.1 xs
  | false => h.IsTuple l.1 xs
def IsIt (h : Heap) (a : Addr) (l : Sq) (i : Nat) : Prop := match l.2 with
  | true => h.IsListIter a l.1 i
  | false => h.IsTupleIter a l.1 i
theorem IsSq.at {h h' : Heap} {l : Sq} {xs : Array Value} (x : IsSq h l xs) (k : ∀ o, h.get? l.1 = some o → h'.get? l.1 = some o) : IsSq h' l xs := by
  obtain ⟨a, b⟩ := l
  cases b
  · exact Heap.IsTuple.at x k
  · exact Heap.IsList.at x k
theorem IsIt.at {h h' : Heap} {a : Addr} {l : Sq} {i : Nat} (x : IsIt h a l i) (k : ∀ o, h.get? a = some o → h'.get? a = some o) : IsIt h' a l i := by
  obtain ⟨c, b⟩ := l
  cases b
  · exact Heap.IsTupleIter.at x k
  · exact Heap.IsListIter.at x k
theorem IsSq.extBut {h h' : Heap} {l : Sq} {b : Addr} {xs : Array Value} (x : IsSq h l xs) (hs : Heap.ExtBut b h h') (n : l.1 ≠ b) : IsSq h' l xs := x.at fun o e => hs _ o n e
theorem IsIt.extBut {h h' : Heap} {a b : Addr} {l : Sq} {i : Nat} (x : IsIt h a l i) (hs : Heap.ExtBut b h h') (n : a ≠ b) : IsIt h' a l i := x.at fun o e => hs _ o n e
theorem IsIt.obj {h : Heap} {a : Addr} {l : Sq} {i : Nat} (x : IsIt h a l i) : ∃ o vs, h.get? a = some o ∧ o.data = .fields vs := by
  obtain ⟨c, b⟩ := l
  cases b
  · obtain ⟨o, e, _, d⟩ := x; exact ⟨o, _, e, d⟩
  · obtain ⟨o, e, _, d⟩ := x; exact ⟨o, _, e, d⟩
theorem IsSq.lt {h : Heap} {l : Sq} {xs : Array Value} (x : IsSq h l xs) : l.1 < h.objs.size := by
  obtain ⟨c, b⟩ := l
  cases b
  · obtain ⟨o, e, _⟩ := x; exact Heap.lt_size e
  · obtain ⟨o, e, _⟩ := x; exact Heap.lt_size e
theorem nextOf_any_item {prog : Program} {w : World} {A : Around} {E : Value → Shared → Prop} {s : Shared} {it : Addr} {l : Sq} {i : Nat} {items} {x : Value} {Q : Value → Shared → Prop} (hit : IsIt s.heap it l i) (hl : IsSq s.heap l items) (hx : items[i]? = some x)
    (hQ : ∀ h', IsIt h' it l (i + 1) → Heap.SameBut it s.heap h' → Q x { s with heap := h' }) : wpAny (model prog w) A (Builtin.SmallTypes.nextOf (.ref it)) Q E s := by
  obtain ⟨c, b⟩ := l
  cases b
  · exact RZ.nextOf_tuple_item hit hl hx hQ
  · exact wpAny_nextOf_list_item hit hl hx hQ
theorem nextOf_any_end {prog : Program} {w : World} {A : Around} {E : Value → Shared → Prop} {s : Shared} {it : Addr} {l : Sq} {i : Nat} {items} {Q : Value → Shared → Prop} (hh : A.handled = none) (hit : IsIt s.heap it l i) (hl : IsSq s.heap l items) (hx : items[i]? = none)
    (hE : ∀ h' e, Heap.ExtBut it s.heap h' → (∃ o, h'.get? e = some o ∧ o.cls = .type "StopIteration") → E (.ref e) { s with heap := h' }) : wpAny (model prog w) A (Builtin.SmallTypes.nextOf (.ref it)) Q E s := by
  obtain ⟨c, b⟩ := l
  cases b
  · exact RZ.nextOf_tuple_end hh hit hl hx hE
  · exact wpAny_nextOf_list_end hh hit hl hx hE
def ZN (h : Heap) (z TI TO : Addr) (its : List (Addr × Sq)) (i : Nat) : Prop :=
  (∃ f0 f1, ZipF h z TI TO f0 f1 ∧ (f0 = .none ∨ ∃ T : Addr, f0 = rawInt T)) ∧ TupV h TI (its.map fun p => Value.ref p.1).toArray ∧ (∃ vs, TupV h TO vs ∧ vs.size = its.length) ∧ ∀ p ∈ its, IsIt h p.1 p.2 i
structure ZA (z TI TO : Addr) (its : List (Addr × Sq)) : Prop where
  TIz : TI ≠ z
  TOz : TO ≠ z
  TITO : TI ≠ TO
  nd : (its.map Prod.fst).Nodup
  it : ∀ p ∈ its, p.1 ≠ z ∧ p.1 ≠ TI ∧ p.1 ≠ TO
  lt : ∀ p ∈ its, p.2.1 ≠ z ∧ p.2.1 ≠ TO ∧ p.2.1 ∉ its.map Prod.fst
section
variable {prog : Program} {w : World} {A : Around} {E : Value → Shared → Prop} {s : Shared}
theorem alive_any {a : Addr} {Q : Option Obj → Shared → Prop} (h : Q (s.heap.get? a) s) : wpAny (model prog w) A (loadIfAlive a) Q E s := fun _ _ _ => h
/-- is the tuple free: one does not know -/
theorem free_any {z TI TO : Addr} {f0 : Value} {f1 : Bool} {Q : Bool → Shared → Prop} (hz : ZipF s.heap z TI TO f0 f1) (h0 : f0 = .none ∨ ∃ T : Addr, f0 = rawInt T)
    (q : ∀ b h' f1', (f0 = .none → b = true) → ZipF h' z TI TO f0 f1' → Heap.SameBut z s.heap h' → Q b { s with heap := h' }) : wpAny (model prog w) A (Builtin.SmallTypes.ownedTupleIsFree (.ref z)) Q E s := by
  unfold Builtin.SmallTypes.ownedTupleIsFree
  rcases h0 with rfl | ⟨T, rfl⟩
  · exact wpAny_bind (wpAny_field hz rfl (x := .none) rfl (wpAny_pure (q true s.heap f1 (fun _ => rfl) hz (Heap.SameBut.refl _ _))))
  · refine wpAny_bind (wpAny_field hz rfl (x := rawInt T) rfl ?_)
    show wpAny _ _ (loadIfAlive ((T : Int).toNat) >>= _) _ _ _
    refine wpAny_bind (alive_any ?_)
    cases s.heap.get? ((T : Int).toNat) with
    | none =>
      simp only [Option.isNone_none, if_true]
      exact wpAny_pure (q true s.heap f1 (fun _ => rfl) hz (Heap.SameBut.refl _ _))
    | some o =>
      simp only [Option.isNone_some, Bool.false_eq_true, if_false]
      refine wpAny_bind (wpAny_field hz rfl (x := .bool f1) rfl ?_)
      cases f1 with
      | true =>
        rw [if_neg (show ¬ ((Value.bool true != Value.bool true) = true) from Bool.false_ne_true)]
        exact wpAny_pure (q false s.heap true (fun z => nomatch z) hz (Heap.SameBut.refl _ _))
      | false =>
        rw [if_pos (show (Value.bool false != Value.bool true) = true from rfl)]
        exact wpAny_bind (wpAny_setField_rec hz (by simp) fun h₁ hz₁ hs₁ => wpAny_pure (q false h₁ true (fun z => nomatch z) hz₁ hs₁))
/-- amid a step: some iterators are one on -/
structure ZJ (h0 h : Heap) (z TI TO : Addr) (its dn rs : List (Addr × Sq)) (i : Nat) : Prop where
  dn : ∀ p ∈ dn, IsIt h p.1 p.2 (i + 1)
  rs : ∀ p ∈ rs, IsIt h p.1 p.2 i
  keep : ∀ c o, c ≠ z → c ≠ TO → c ∉ its.map Prod.fst → h0.get? c = some o → h.get? c = some o
  size : h.objs.size = h0.objs.size
theorem ZJ.same {h0 h h' : Heap} {z TI TO : Addr} {its dn rs : List (Addr × Sq)} {i : Nat} (D : ZA z TI TO its) (e : its = dn ++ rs) (J : ZJ h0 h z TI TO its dn rs i) {c : Addr} (hc : c = z ∨ c = TO) (sb : Heap.SameBut c h h') : ZJ h0 h' z TI TO its dn rs i := by
  have ne : ∀ p ∈ its, p.1 ≠ c := fun p m => by
    obtain ⟨a, _, b⟩ := D.it p m
    rcases hc with rfl | rfl
    · exact a
    · exact b
  refine ⟨fun p m => (J.dn p m).extBut sb.extBut (ne p (by rw [e]; exact List.mem_append_left _ m)), fun p m => (J.rs p m).extBut sb.extBut (ne p (by rw [e]; exact List.mem_append_right _ m)), fun x o a b d q => sb.extBut _ _ (by rcases hc with rfl | rfl; exact a; exact b) (J.keep x o a b d q), sb.1.trans J.size⟩
theorem ZJ.next {h0 h h' : Heap} {z TI TO : Addr} {its dn rs : List (Addr × Sq)} {i : Nat} {p : Addr × Sq} (D : ZA z TI TO its) (e : its = dn ++ p :: rs) (J : ZJ h0 h z TI TO its dn (p :: rs) i) (m : IsIt h' p.1 p.2 (i + 1)) (sb : Heap.SameBut p.1 h h') : ZJ h0 h' z TI TO its (dn ++ [p]) rs i := by
  have nd := D.nd
  rw [e, List.map_append, List.map_cons, List.nodup_append] at nd
  obtain ⟨n1, n2, n3⟩ := nd
  rw [List.nodup_cons] at n2
  refine ⟨fun q mq => ?_, fun q mq => ?_, fun x o a b d q => sb.extBut _ _ (fun z => d (by rw [z, e]; simp)) (J.keep x o a b d q), sb.1.trans J.size⟩
  · rcases List.mem_append.mp mq with mq | mq
    · exact (J.dn q mq).extBut sb.extBut (n3 _ (List.mem_map_of_mem mq) _ List.mem_cons_self)
    · rw [List.mem_singleton.mp mq]
      exact m
  · exact (J.rs q (List.mem_cons_of_mem _ mq)).extBut sb.extBut fun z => n2.1 (by rw [← z]; exact List.mem_map_of_mem mq)
theorem zn_item {z TI TO : Addr} {its : List (Addr × Sq)} {i : Nat} {val : Addr × Sq → Value} {Q : Option Value → Shared → Prop} (D : ZA z TI TO its) (st : ZN s.heap z TI TO its i) (ne : its ≠ []) (hl : its.length ≤ 100000) (ht : ∀ p ∈ its, ∃ xs, IsSq s.heap p.2 xs ∧ xs[i]? = some (val p))
    (q : ∀ h', ZN h' z TI TO its (i + 1) → ((∃ f1, ZipF s.heap z TI TO .none f1) → ZipF h' z TI TO (rawInt s.heap.objs.size) false) → TupV h' s.heap.objs.size (its.map val).toArray → h'.objs.size = s.heap.objs.size + 1 → (∀ c o, c ≠ z → c ≠ TO → c ∉ its.map Prod.fst → s.heap.get? c = some o → h'.get? c = some o) →
      Q (some (.ref s.heap.objs.size)) { s with heap := h' }) : wpAny (model prog w) A (pyNext (.ref z)) Q E s := by
  obtain ⟨⟨f0, f1, hz, h0⟩, hTI, ⟨vs, hTO, hvs⟩, hi⟩ := st
  have ty : s.TypeIs (.ref z) "zip" := ⟨_, hz, rfl⟩
  have body : wpAny (model prog w) A.in1 (Builtin.«zip.__next__» ⟨[.ref z], []⟩) (fun fin s' => ∃ v, fin = .done (.ret v) ∧ (v = .ref s.heap.objs.size ∧ Q (some v) s')) (fun _ _ => False) s := by
    show wpAny _ _ (field (.ref z) 2 >>= _) _ _ _
    refine wpAny_bind (wpAny_field hz rfl (x := .bool false) rfl ?_)
    show wpAny _ _ (field (.ref z) 3 >>= _) _ _ _
    refine wpAny_bind (wpAny_field hz rfl (x := .ref TI) rfl (wpAny_bind (wpAny_seqItems hTI rfl ?_)))
    have emp : (its.map fun p => Value.ref p.1).toArray.isEmpty = false := by
      cases its with
      | nil => exact absurd rfl ne
      | cons => rfl
    show wpAny _ _ (if (its.map fun p => Value.ref p.1).toArray.isEmpty = true then _ else _) _ _ _
    rw [if_neg (by rw [emp]; decide)]
    show wpAny _ _ (Builtin.SmallTypes.ownedTupleIsFree (.ref z) >>= _) _ _ _
    refine wpAny_bind (free_any hz h0 fun b h1 f1' hfr hz1 sb1 => ?_)
    have J0 : ZJ s.heap h1 z TI TO its [] its i := ZJ.same D rfl ⟨(fun _ m => nomatch m), hi, (fun _ _ _ _ _ e => e), rfl⟩ (.inl rfl) sb1
    have tupAt : ∀ {dn rs : List (Addr × Sq)} {h : Heap}, ZJ s.heap h z TI TO its dn rs i → ∀ p ∈ its, ∃ xs, IsSq h p.2 xs ∧ xs[i]? = some (val p) := fun {dn rs h} J p m => by
      obtain ⟨xs, t, e⟩ := ht p m
      obtain ⟨a, b, c⟩ := D.lt p m
      exact ⟨xs, t.at fun o e => J.keep _ o a b c e, e⟩
    have hTO1 : TupV h1 TO vs := sb1.extBut _ _ D.TOz hTO
    cases b with
    | false =>
      simp only [Bool.false_eq_true, if_false]
      refine wpAny_bind ?_
      rw [← Array.forIn_toList]
      refine wpAny_forIn_list _ (fun rest b s' => ∃ dn rs, its = dn ++ rs ∧ rest = (rs.map fun p => Value.ref p.1) ∧ b = (none, (dn.map val).toArray) ∧ ∃ h, s' = { s with heap := h } ∧ ZipF h z TI TO f0 f1' ∧ TupV h TO vs ∧ ZJ s.heap h z TI TO its dn rs i) _ ?turn ?fin _ _ ⟨[], its, rfl, rfl, rfl, h1, rfl, hz1, hTO1, J0⟩
      case turn =>
        rintro x rest b s' ⟨dn, rs, e1, e2, rfl, h, rfl, hz2, hTO2, J⟩
        cases rs with
        | nil => cases e2
        | cons p rs =>
          cases e2
          have mp : p ∈ its := by rw [e1]; simp
          obtain ⟨xs, tx, ex⟩ := tupAt J p mp
          refine wpAny_bind (wpAny_holding ?_)
          show wpAny _ _ (Builtin.SmallTypes.nextOf (.ref p.1) >>= _) _ _ _
          refine wpAny_bind (nextOf_any_item (s := { s with heap := h }) (J.rs p List.mem_cons_self) tx ex fun g2 m1 s2 => wpAny_pure ?_)
          refine wpAny_pure ⟨dn ++ [p], rs, by rw [e1]; simp, rfl, by simp, g2, rfl, s2.extBut _ _ (D.it p mp).1.symm hz2, s2.extBut _ _ (D.it p mp).2.2.symm hTO2, J.next D e1 m1 s2⟩
      case fin =>
        rintro b s' ⟨dn, rs, e1, e2, rfl, h, rfl, hz2, hTO2, J⟩
        have : rs = [] := by cases rs with
          | nil => rfl
          | cons => cases e2
        subst this
        rw [List.append_nil] at e1
        subst e1
        show wpAny _ _ (newTuple (its.map val).toArray.toList >>= _) _ _ _
        have lz : ((its.map val).toArray.toList).length ≤ sizeLine := by simp; exact lim_ok hl
        refine wpAny_bind (wpAny_newTuple (wpAny_pure ⟨_, rfl, ?_⟩) lz)
        have z3 : ZipF (h.push { cls := .type "tuple", data := .seq (its.map val).toArray }) z TI TO f0 f1' := Heap.get?_push_of_some _ hz2
        show _ ∧ Q (some (.ref h.objs.size)) _
        refine ⟨by show Value.ref h.objs.size = _; rw [J.size], ?_⟩
        rw [J.size]
        refine q _ ⟨⟨f0, f1', z3, h0⟩, Heap.get?_push_of_some _ (J.keep _ _ D.TIz D.TITO (fun m => ?_) hTI), ⟨vs, Heap.get?_push_of_some _ hTO2, hvs⟩, fun p m => (J.dn p m).at fun o e => Heap.get?_push_of_some _ e⟩ (fun ⟨f2, z2⟩ => ?_) ?_ ?_ ?_
        · obtain ⟨p, mp, e⟩ := List.mem_map.mp m
          exact (D.it p mp).2.1 e
        · have e : f0 = .none := by
            have := hz.symm.trans z2
            simp at this
            exact this.1
          exact absurd (hfr e) (by decide)
        · rw [← J.size]
          exact Heap.get?_push_size _ rfl
        · rw [Heap.size_push, J.size]
        · exact fun c o a b d e => Heap.get?_push_of_some _ (J.keep c o a b d e)
    | true =>
      simp only [if_true]
      refine wpAny_bind (wpAny_rule ?_)
      refine wpAny_bind (wpAny_field hz1 rfl (x := .ref TO) rfl ?_)
      refine wpAny_bind (wpAny_setField_rec hz1 (by simp) fun h2 hz2 sb2 => ?_)
      replace hz2 : ZipF h2 z TI TO .ellipsis f1' := hz2
      have J2 : ZJ s.heap h2 z TI TO its [] its i := J0.same D rfl (.inl rfl) sb2
      have hTO2 : TupV h2 TO vs := sb2.extBut _ _ D.TOz hTO1
      refine wpAny_bind (wpAny_forIn_list _ (fun rest b s' => ∃ dn rs, its = dn ++ rs ∧ rest = (rs.map fun p => Value.ref p.1).zipIdx dn.length ∧ b = (none, ()) ∧ ∃ h us, s' = { s with heap := h } ∧ ZipF h z TI TO .ellipsis f1' ∧ TupV h TO us ∧ us.size = its.length ∧ (∀ j, j < dn.length → us[j]? = (dn.map val)[j]?) ∧ ZJ s.heap h z TI TO its dn rs i) _ ?turn ?fin _ _ ⟨[], its, rfl, rfl, rfl, h2, vs, rfl, hz2, hTO2, hvs, (fun _ hj => absurd hj (Nat.not_lt_zero _)), J2⟩)
      case turn =>
        rintro x rest b s' ⟨dn, rs, e1, e2, rfl, h, us, rfl, hz3, hTO3, hus, hval, J⟩
        cases rs with
        | nil => cases e2
        | cons p rs =>
          rw [List.map_cons, List.zipIdx_cons] at e2
          cases e2
          have mp : p ∈ its := by rw [e1]; simp
          obtain ⟨xs, tx, ex⟩ := tupAt J p mp
          refine wpAny_bind (wpAny_onRaise ?_)
          show wpAny _ _ (Builtin.SmallTypes.nextOf (.ref p.1) >>= _) _ _ _
          refine wpAny_bind (nextOf_any_item (s := { s with heap := h }) (J.rs p List.mem_cons_self) tx ex fun g2 m1 s2 => wpAny_pure ?_)
          have hTO4 : TupV g2 TO us := s2.extBut _ _ (D.it p mp).2.2.symm hTO3
          have hz4 : ZipF g2 z TI TO .ellipsis f1' := s2.extBut _ _ (D.it p mp).1.symm hz3
          refine wpAny_bind (wpAny_seqItems hTO4 rfl ?_)
          have J4 := J.next D e1 m1 s2
          refine wpAny_bind (wpAny_updateSeq hTO4 rfl ?_ (by rw [hus]; exact lim_ok hl) (by rw [Array.size_setIfInBounds, hus]; exact Nat.le_succ_of_le (lim_ok hl)))
          refine wpAny_bind (wpAny_letGo (wpAny_pure ?_))
          have sb3 : Heap.SameBut TO g2 (g2.update TO (Obj.mapSeq fun v => v.setIfInBounds dn.length (val p))) := Heap.SameBut.update ..
          have hdl : dn.length < us.size := by rw [hus, e1]; simp
          refine ⟨dn ++ [p], rs, by rw [e1]; simp, by simp, rfl, _, us.setIfInBounds dn.length (val p), rfl, sb3.extBut _ _ D.TOz.symm hz4, ?_, by rw [Array.size_setIfInBounds, hus], fun j hj => ?_, J4.same D (by rw [e1]; simp) (.inr rfl) sb3⟩
          · show Heap.get? _ _ = _
            rw [Heap.get?_update_self _ hTO4 rfl]
            simp [Obj.mapSeq]
          · rw [List.length_append, List.length_singleton] at hj
            by_cases c : j = dn.length
            · subst c
              rw [Array.getElem?_setIfInBounds_self_of_lt hdl, List.map_append]
              simp
            · rw [Array.getElem?_setIfInBounds_ne (Ne.symm c), hval j (by omega), List.map_append, List.getElem?_append_left (by rw [List.length_map]; omega)]
      case fin =>
        rintro b s' ⟨dn, rs, e1, e2, rfl, h, us, rfl, hz3, hTO3, hus, hval, J⟩
        have : rs = [] := by cases rs with
          | nil => rfl
          | cons p rs => rw [List.map_cons, List.zipIdx_cons] at e2; cases e2
        subst this
        rw [List.append_nil] at e1
        subst e1
        have eu : us.toList = its.map val := by
          refine List.ext_getElem? fun j => ?_
          by_cases c : j < its.length
          · rw [← hval j c, Array.getElem?_toList]
          · rw [List.getElem?_eq_none (by rw [Array.length_toList, hus]; omega), List.getElem?_eq_none (by rw [List.length_map]; omega)]
        refine wpAny_bind (wpAny_seqItems hTO3 rfl ?_)
        have lz : us.toList.length ≤ sizeLine := by rw [Array.length_toList, hus]; exact lim_ok hl
        refine wpAny_bind (wpAny_newTuple ?_ lz)
        show wpAny _ _ (Builtin.SmallTypes.ownedTupleHandOut (.ref z) (.ref h.objs.size) >>= _) _ _ _
        refine wpAny_bind ?_
        unfold Builtin.SmallTypes.ownedTupleHandOut
        have hz4 : ZipF (h.push { cls := .type "tuple", data := .seq us.toList.toArray }) z TI TO .ellipsis f1' := Heap.get?_push_of_some _ hz3
        refine wpAny_bind (wpAny_setField_rec hz4 (by simp) fun h7 hz7 hs7 => ?_)
        replace hz7 : ZipF h7 z TI TO (rawInt h.objs.size) f1' := hz7
        refine wpAny_setField_rec hz7 (by simp) fun h8 hz8 hs8 => ?_
        replace hz8 : ZipF h8 z TI TO (rawInt h.objs.size) false := hz8
        have zl : z < h.objs.size := Heap.lt_size hz3
        have up : ∀ c o, c ≠ z → h.get? c = some o → h8.get? c = some o := fun c o c1 e => hs8.extBut _ _ c1 (hs7.extBut _ _ c1 (Heap.get?_push_of_some _ e))
        have hT8 : TupV h8 h.objs.size us.toList.toArray := hs8.extBut _ _ (Nat.ne_of_gt zl) (hs7.extBut _ _ (Nat.ne_of_gt zl) (Heap.get?_push_size _ rfl))
        have sz8 : h8.objs.size = h.objs.size + 1 := by rw [hs8.1, hs7.1, Heap.size_push]
        refine wpAny_pure ⟨_, rfl, by rw [J.size], ?_⟩
        show Q (some (.ref h.objs.size)) _
        rw [J.size] at hT8 sz8 hz8 ⊢
        rw [eu] at hT8
        refine q _ ⟨⟨_, _, hz8, .inr ⟨_, rfl⟩⟩, up _ _ D.TIz (J.keep _ _ D.TIz D.TITO (fun m => ?_) hTI), ⟨us, up _ _ D.TOz hTO3, hus⟩, fun p m => (J.dn p m).at fun o e => up _ _ (D.it p m).1 e⟩ (fun _ => hz8) hT8 sz8 fun c o a b d e => up _ _ a (J.keep c o a b d e)
        obtain ⟨p, mp, e⟩ := List.mem_map.mp m
        exact (D.it p mp).2.1 e
  unfold pyNext
  refine wpAny_bind (wpAny_attempt (wpAny_callSpecial?_slot (name := Str.ofString "__next__") ty F.slot_zip_next (wpAny_call_entry F.slot_zip_next ty F.entry_zip_next (wpAny_mono body (fun fin s' r => ?_) fun _ _ z => z.elim) (F.args_zip_next_1 _))))
  obtain ⟨v, rfl, e, r⟩ := r
  exact ⟨v, rfl, wpAny_pure r⟩
theorem zn_stop {z TI TO : Addr} {p : Addr × Sq} {its : List (Addr × Sq)} {i : Nat} {xs : Array Value} {Q : Option Value → Shared → Prop} (hh : A.handled = none) (D : ZA z TI TO (p :: its)) (st : ZN s.heap z TI TO (p :: its) i) (tx : IsSq s.heap p.2 xs) (ex : xs[i]? = none)
    (q : ∀ h', (∀ c o, c ≠ z → c ≠ TO → c ∉ (p :: its).map Prod.fst → s.heap.get? c = some o → h'.get? c = some o) → Q none { s with heap := h' }) : wpAny (model prog w) A (pyNext (.ref z)) Q E s := by
  obtain ⟨⟨f0, f1, hz, h0⟩, hTI, ⟨vs, hTO, hvs⟩, hi⟩ := st
  have ty : s.TypeIs (.ref z) "zip" := ⟨_, hz, rfl⟩
  have mp : p ∈ p :: its := List.mem_cons_self
  obtain ⟨d1, d2, d3⟩ := D.it p mp
  obtain ⟨d4, d5, d6⟩ := D.lt p mp
  have dm : p.1 ∈ (p :: its).map Prod.fst := List.mem_map_of_mem mp
  have d7 : p.2.1 ≠ p.1 := fun z => d6 (by rw [z]; exact dm)
  have body : ∀ {B : Around} {Q2 : Fin → Shared → Prop} {E2 : Value → Shared → Prop}, B.handled = none → (∀ h' e, (∀ c o, c ≠ z → c ≠ TO → c ∉ (p :: its).map Prod.fst → s.heap.get? c = some o → h'.get? c = some o) → (∃ o, h'.get? e = some o ∧ o.cls = .type "StopIteration") → E2 (.ref e) { s with heap := h' }) →
      wpAny (model prog w) B (Builtin.«zip.__next__» ⟨[.ref z], []⟩) Q2 E2 s := by
    intro B Q2 E2 hb out
    show wpAny _ _ (field (.ref z) 2 >>= _) _ _ _
    refine wpAny_bind (wpAny_field hz rfl (x := .bool false) rfl ?_)
    show wpAny _ _ (field (.ref z) 3 >>= _) _ _ _
    refine wpAny_bind (wpAny_field hz rfl (x := .ref TI) rfl (wpAny_bind (wpAny_seqItems hTI rfl ?_)))
    have emp : ((p :: its).map fun p => Value.ref p.1).toArray.isEmpty = false := rfl
    show wpAny _ _ (if ((p :: its).map fun p => Value.ref p.1).toArray.isEmpty = true then _ else _) _ _ _
    rw [if_neg (by rw [emp]; decide)]
    show wpAny _ _ (Builtin.SmallTypes.ownedTupleIsFree (.ref z) >>= _) _ _ _
    refine wpAny_bind (free_any hz h0 fun b h1 f1' hfr hz1 sb1 => ?_)
    have t1 : IsSq h1 p.2 xs := tx.extBut sb1.extBut d4
    have i1 : IsIt h1 p.1 p.2 i := (hi p mp).extBut sb1.extBut d1
    cases b with
    | false =>
      simp only [Bool.false_eq_true, if_false]
      refine wpAny_bind ?_
      rw [← Array.forIn_toList]
      simp only [List.map_cons, List.forIn_cons]
      refine wpAny_bind (wpAny_bind (wpAny_holding ?_))
      show wpAny _ _ (Builtin.SmallTypes.nextOf (.ref p.1) >>= _) _ _ _
      exact wpAny_bind (nextOf_any_end (s := { s with heap := h1 }) hb i1 t1 ex fun g2 e s2 he => out g2 e (fun c o a1 a2 a3 x => s2 _ _ (fun z => a3 (by rw [z]; exact dm)) (sb1.extBut _ _ a1 x)) he)
    | true =>
      simp only [if_true]
      refine wpAny_bind (wpAny_rule ?_)
      refine wpAny_bind (wpAny_field hz1 rfl (x := .ref TO) rfl ?_)
      refine wpAny_bind (wpAny_setField_rec hz1 (by simp) fun h2 hz2 sb2 => ?_)
      replace hz2 : ZipF h2 z TI TO .ellipsis f1' := hz2
      refine wpAny_bind ?_
      simp only [List.map_cons, List.zipIdx_cons, List.forIn_cons]
      refine wpAny_bind (wpAny_bind (wpAny_onRaise ?_))
      show wpAny _ _ (Builtin.SmallTypes.nextOf (.ref p.1) >>= _) _ _ _
      refine wpAny_bind (nextOf_any_end (s := { s with heap := h2 }) hb (i1.extBut sb2.extBut d1) (t1.extBut sb2.extBut d4) ex fun h3 e s3 he => ?_)
      obtain ⟨oe, hoe, hce⟩ := he
      have hz3 : ZipF h3 z TI TO .ellipsis f1' := s3 _ _ d1.symm hz2
      have hez : e ≠ z := fun x => by subst x; rw [hz3] at hoe; cases hoe; simp at hce
      refine wpAny_setField_rec hz3 (by simp) fun h4 _ s4 => out h4 e (fun c o c1 c2 c3 x => s4.extBut _ _ c1 (s3 _ _ (fun z => c3 (by rw [z]; exact dm)) (sb2.extBut _ _ c1 (sb1.extBut _ _ c1 x)))) ⟨oe, s4.extBut _ _ hez hoe, hce⟩
  unfold pyNext
  refine wpAny_bind (wpAny_attempt (wpAny_callSpecial?_slot (name := Str.ofString "__next__") ty F.slot_zip_next (wpAny_call_entry F.slot_zip_next ty F.entry_zip_next (body hh fun h' e k ⟨o, ho, hc⟩ => ?_) (F.args_zip_next_1 _))))
  exact wpAny_bind (wpAny_isInstance (T := "StopIteration") (b := true) ⟨o, ho, hc⟩ isSubtype_stop (wpAny_pure (q _ k)))
end
end DL

set_option maxHeartbeats 4000000
namespace DL
open PySem PySem.Spec PyProof.Rows L2
/-! ## the making of such a zip -/
def mkIts : Nat → List Sq → List (Addr × Sq)
  | _, [] => []
  | I, l :: r => (I, l) :: mkIts (I + 1) r
theorem mkIts_app : ∀ (ls : List Sq) (I : Nat) (l : Sq), mkIts I (ls ++ [l]) = mkIts I ls ++ [(I + ls.length, l)]
  | [], I, l => rfl
  | x :: ls, I, l => by
    rw [List.cons_append]
    simp only [mkIts]
    rw [mkIts_app ls (I + 1) l, List.cons_append, List.length_cons, Nat.add_right_comm, Nat.add_assoc]
theorem mkIts_len : ∀ (ls : List Sq) (I : Nat), (mkIts I ls).length = ls.length
  | [], _ => rfl
  | _ :: ls, I => by simp only [mkIts, List.length_cons, mkIts_len ls]
theorem mkIts_snd : ∀ (ls : List Sq) (I : Nat), (mkIts I ls).map Prod.snd = ls
  | [], _ => rfl
  | _ :: ls, I => by simp only [mkIts, List.map_cons, mkIts_snd ls]
theorem mkIts_fst : ∀ (ls : List Sq) (I : Nat), (mkIts I ls).map Prod.fst = List.range' I ls.length
  | [], _ => rfl
  | _ :: ls, I => by simp only [mkIts, List.map_cons, mkIts_fst ls, List.length_cons, List.range'_succ]
theorem newClass_zip (us : List Value) : Builtin.SmallTypes.newClass "zip" ⟨.type "zip" :: us, []⟩ = pure (.type "zip", us) := by
  unfold Builtin.SmallTypes.newClass
  simp only [isType, sub_zip, pure_bind, Bool.not_true, Bool.false_eq_true, if_false]
section
variable {prog : Program} {w : World} {A : Around} {E : Value → Shared → Prop} {s : Shared}
theorem iter_any {l : Sq} {xs : Array Value} {Q : Value → Shared → Prop} (t : IsSq s.heap l xs) (q : ∀ h', IsIt h' s.heap.objs.size l 0 → h'.objs.size = s.heap.objs.size + 1 → (∀ c o, s.heap.get? c = some o → h'.get? c = some o) → Q (.ref s.heap.objs.size) { s with heap := h' }) : wpAny (model prog w) A (pyIter (.ref l.1)) Q E s := by
  obtain ⟨a, b⟩ := l
  cases b
  · exact wpAny_pyIter_tuple t (q _ ⟨_, Heap.get?_push_size _ rfl, rfl, rfl⟩ (Heap.size_push ..) fun c o e => Heap.get?_push_of_some _ e)
  · exact wpAny_pyIter_list t (q _ ⟨_, Heap.get?_push_size _ rfl, rfl, rfl⟩ (Heap.size_push ..) fun c o e => Heap.get?_push_of_some _ e)
theorem iterAll_many {ls : List Sq} {Q : List Value → Shared → Prop} (ht : ∀ l ∈ ls, ∃ xs, IsSq s.heap l xs)
    (q : ∀ h', h'.objs.size = s.heap.objs.size + ls.length → (∀ p ∈ mkIts s.heap.objs.size ls, IsIt h' p.1 p.2 0) → (∀ c o, s.heap.get? c = some o → h'.get? c = some o) → Q ((mkIts s.heap.objs.size ls).map fun p => .ref p.1) { s with heap := h' }) :
    wpAny (model prog w) A (Builtin.SmallTypes.iterAll (ls.map fun l => Value.ref l.1)) Q E s := by
  unfold Builtin.SmallTypes.iterAll
  refine wpAny_bind (wpAny_forIn_list _ (fun rest b s' => ∃ dn rs h, ls = dn ++ rs ∧ rest = (rs.map fun l => Value.ref l.1) ∧ b = ((mkIts s.heap.objs.size dn).map fun p => Value.ref p.1).toArray ∧ s' = { s with heap := h } ∧ h.objs.size = s.heap.objs.size + dn.length ∧ (∀ p ∈ mkIts s.heap.objs.size dn, IsIt h p.1 p.2 0) ∧ (∀ c o, s.heap.get? c = some o → h.get? c = some o)) _ ?turn ?fin _ _ ⟨[], ls, s.heap, rfl, rfl, rfl, rfl, rfl, (fun _ m => nomatch m), (fun _ _ e => e)⟩)
  case turn =>
    rintro x rest b s' ⟨dn, rs, h, e1, e2, rfl, rfl, hsz, hi, hk⟩
    cases rs with
    | nil => cases e2
    | cons l rs =>
      cases e2
      obtain ⟨xs, t⟩ := ht l (by rw [e1]; simp)
      refine wpAny_bind (wpAny_holding ?_)
      refine iter_any (s := { s with heap := h }) (t.at fun o e => hk _ o e) fun h2 i2 z2 k2 => ?_
      refine wpAny_pure ⟨dn ++ [l], rs, h2, by rw [e1]; simp, rfl, ?_, rfl, ?_, ?_, fun c o e => k2 c o (hk c o e)⟩
      · rw [mkIts_app, List.map_append]
        show _ = _
        simp [hsz]
      · rw [z2]
        dsimp only
        rw [hsz, List.length_append, List.length_singleton, Nat.add_assoc]
      · intro p m
        rw [mkIts_app] at m
        rcases List.mem_append.mp m with m | m
        · exact (hi p m).at fun o e => k2 _ o e
        · rw [List.mem_singleton.mp m, ← hsz]
          exact i2
  case fin =>
    rintro b s' ⟨dn, rs, h, e1, e2, rfl, rfl, hsz, hi, hk⟩
    have : rs = [] := by cases rs with
      | nil => rfl
      | cons => cases e2
    subst this
    rw [List.append_nil] at e1
    subst e1
    exact wpAny_pure (q h hsz hi hk)
end
theorem meets_zn (ls : List Sq) (hl : ls.length ≤ 100000) : Meets (Builtin.«zip.__new__» ⟨.type "zip" :: ls.map (fun l => Value.ref l.1), []⟩) (fun _ R s => (∀ l ∈ ls, ∃ xs, IsSq s.heap l xs) ∧
    ∀ h', ZN h' (s.heap.objs.size + ls.length + 2) (s.heap.objs.size + ls.length) (s.heap.objs.size + ls.length + 1) (mkIts s.heap.objs.size ls) 0 → (∃ f1, ZipF h' (s.heap.objs.size + ls.length + 2) (s.heap.objs.size + ls.length) (s.heap.objs.size + ls.length + 1) .none f1) → h'.objs.size = s.heap.objs.size + ls.length + 3 → (∀ c o, s.heap.get? c = some o → h'.get? c = some o) →
      R (.ok (.ret (.ref (s.heap.objs.size + ls.length + 2)))) { s with heap := h' }) :=
  .of_wp fun prog w A R s h => by
    obtain ⟨ht, h⟩ := h
    generalize hus : (ls.map fun l => Value.ref l.1) = us
    show wpAny _ _ (Builtin.SmallTypes.newClass "zip" ⟨.type "zip" :: us, []⟩ >>= _) _ _ _
    rw [newClass_zip, pure_bind]
    show wpAny _ _ (Builtin.SmallTypes.iterAll us >>= _) _ _ _
    rw [← hus]
    refine wpAny_bind (iterAll_many ht fun h1 hsz hi hk => ?_)
    have lz : ((mkIts s.heap.objs.size ls).map fun p => Value.ref p.1).length ≤ sizeLine := by rw [List.length_map, mkIts_len]; exact lim_ok hl
    have lz2 : (((mkIts s.heap.objs.size ls).map fun p => Value.ref p.1).map fun _ => Value.none).length ≤ sizeLine := by rw [List.length_map]; exact lz
    refine wpAny_bind (wpAny_newTuple ?_ lz)
    refine wpAny_bind (wpAny_newTuple ?_ lz2)
    have zI := Heap.size_push h1 { cls := .type "tuple", data := .seq ((mkIts s.heap.objs.size ls).map fun p => Value.ref p.1).toArray }
    generalize e2 : h1.push { cls := .type "tuple", data := .seq ((mkIts s.heap.objs.size ls).map fun p => Value.ref p.1).toArray } = h2 at zI
    have gI : h2.get? h1.objs.size = some { cls := .type "tuple", data := .seq ((mkIts s.heap.objs.size ls).map fun p => Value.ref p.1).toArray } := by rw [← e2]; exact Heap.get?_push_size _ rfl
    have k2 : ∀ c o, h1.get? c = some o → h2.get? c = some o := fun c o e => by rw [← e2]; exact Heap.get?_push_of_some _ e
    have zO := Heap.size_push h2 { cls := .type "tuple", data := .seq (((mkIts s.heap.objs.size ls).map fun p => Value.ref p.1).map fun _ => Value.none).toArray }
    generalize e3 : h2.push { cls := .type "tuple", data := .seq (((mkIts s.heap.objs.size ls).map fun p => Value.ref p.1).map fun _ => Value.none).toArray } = h3 at zO
    have gO : h3.get? h2.objs.size = some { cls := .type "tuple", data := .seq (((mkIts s.heap.objs.size ls).map fun p => Value.ref p.1).map fun _ => Value.none).toArray } := by rw [← e3]; exact Heap.get?_push_size _ rfl
    have k3 : ∀ c o, h2.get? c = some o → h3.get? c = some o := fun c o e => by rw [← e3]; exact Heap.get?_push_of_some _ e
    show wpAny (model prog w) A.in1 (newObj (.type "zip") (.fields #[.none, .bool false, .bool false, .ref h1.objs.size, .ref h2.objs.size]) >>= _) _ _ { s with heap := h3 }
    refine wpAny_bind (wpAny_newObj_type (s := { s with heap := h3 }) ?_ (by size_fits))
    refine wpAny_pure ⟨_, rfl, ?_⟩
    have z2 : h2.objs.size = s.heap.objs.size + ls.length + 1 := by rw [zI, hsz]
    have z3 : h3.objs.size = s.heap.objs.size + ls.length + 2 := by rw [zO, z2]
    show R (.ok (.ret (.ref h3.objs.size))) { s with heap := h3.push { cls := .type "zip", data := .fields #[.none, .bool false, .bool false, .ref h1.objs.size, .ref h2.objs.size] } }
    rw [z3]
    rw [hsz] at gI ⊢
    rw [z2] at gO ⊢
    generalize e4 : h3.push { cls := .type "zip", data := .fields #[.none, .bool false, .bool false, .ref (s.heap.objs.size + ls.length), .ref (s.heap.objs.size + ls.length + 1)] } = h4
    have k4 : ∀ c o, h3.get? c = some o → h4.get? c = some o := fun c o e => by rw [← e4]; exact Heap.get?_push_of_some _ e
    have hi4 : ∀ p ∈ mkIts s.heap.objs.size ls, IsIt h4 p.1 p.2 0 := fun p m => (hi p m).at fun o e => k4 _ _ (k3 _ _ (k2 _ _ e))
    have z4 : ZipF h4 (s.heap.objs.size + ls.length + 2) (s.heap.objs.size + ls.length) (s.heap.objs.size + ls.length + 1) .none false := by
      show Heap.get? _ _ = _
      rw [← e4, ← z3]
      exact Heap.get?_push_size _ rfl
    refine h h4 ⟨⟨.none, false, z4, .inl rfl⟩, k4 _ _ (k3 _ _ gI), ⟨_, k4 _ _ gO, by simp [mkIts_len]⟩, hi4⟩ ⟨false, z4⟩ ?_ fun c o e => k4 _ _ (k3 _ _ (k2 _ _ (hk c o e)))
    rw [← e4, Heap.size_push, z3]
theorem chk_zip : ∀ us : List Value, us.length ≤ 5 → checkTypeCall "zip" ⟨us, []⟩ = pure () ∧ checkBuiltinCall "zip.__new__" ⟨.type "zip" :: us, []⟩ = pure () ∧ ∀ obj, argsOk "object.__init__" ⟨obj :: us, []⟩
  | [], _ => ⟨by kernel_rfl, by kernel_rfl, fun obj => by unfold argsOk; rw [signature?_of (id := "object.__init__") (n := ['_', '_', 't', 'i', 'n', 'i', '_', '_']) (o := ['t', 'c', 'e', 'j', 'b', 'o']) (by kernel_rfl) F.owner_object]; kernel_rfl⟩
  | [a], _ => ⟨by kernel_rfl, by kernel_rfl, fun obj => by unfold argsOk; rw [signature?_of (id := "object.__init__") (n := ['_', '_', 't', 'i', 'n', 'i', '_', '_']) (o := ['t', 'c', 'e', 'j', 'b', 'o']) (by kernel_rfl) F.owner_object]; kernel_rfl⟩
  | [a, b], _ => ⟨by kernel_rfl, by kernel_rfl, fun obj => F.args_object_init_3 obj _ _⟩
  | [a, b, c], _ => ⟨by kernel_rfl, by kernel_rfl, fun obj => by unfold argsOk; rw [signature?_of (id := "object.__init__") (n := ['_', '_', 't', 'i', 'n', 'i', '_', '_']) (o := ['t', 'c', 'e', 'j', 'b', 'o']) (by kernel_rfl) F.owner_object]; kernel_rfl⟩
  | [a, b, c, d], _ => ⟨by kernel_rfl, by kernel_rfl, fun obj => by unfold argsOk; rw [signature?_of (id := "object.__init__") (n := ['_', '_', 't', 'i', 'n', 'i', '_', '_']) (o := ['t', 'c', 'e', 'j', 'b', 'o']) (by kernel_rfl) F.owner_object]; kernel_rfl⟩
  | [a, b, c, d, e], _ => ⟨by kernel_rfl, by kernel_rfl, fun obj => by unfold argsOk; rw [signature?_of (id := "object.__init__") (n := ['_', '_', 't', 'i', 'n', 'i', '_', '_']) (o := ['t', 'c', 'e', 'j', 'b', 'o']) (by kernel_rfl) F.owner_object]; kernel_rfl⟩
  | _ :: _ :: _ :: _ :: _ :: _ :: _, h => absurd h (by simp)
end DL

set_option maxHeartbeats 4000000
namespace DL
open PySem PySem.Spec PyProof.Rows L2
/-! ## for x in zip(*rows) -/
def SqA (K : PySem.W.Frag) (H : Hp) (l : Sq) (xs : List V) : Prop := match l.2 with
  | true => SqL K H l.1 xs
  | false => SqT K H l.1 xs
theorem sq_inv {X : Cx} {pins : List (Addr × Obj)} {σ : L2.St} {H : Hp} {s : Shared} {l : Sq} {xs : List V} (I : Inv X pins σ H s) (h : SqA X.K H l xs) : ∃ its : List Value, Vals xs its ∧ IsSq s.heap l its.toArray := by
  obtain ⟨a, b⟩ := l
  cases b
  · obtain ⟨its, r, t, _⟩ := I.tuple h
    exact ⟨its, r, t⟩
  · obtain ⟨its, r, t, _⟩ := I.list h
    exact ⟨its, r, t.isList⟩
theorem sq_inj {X : Cx} {pins : List (Addr × Obj)} {σ : L2.St} {H : Hp} {s : Shared} {l : Sq} {xs ys : List V} (I : Inv X pins σ H s) (h : SqA X.K H l xs) (k : SqA X.K H l ys) : xs = ys := by
  obtain ⟨a, b⟩ := l
  cases b
  · exact I.tuple_inj h k
  · exact I.list_inj h k
/-- the lists and tuples at ls as they stand at each turn, the items in new tuples -/
def ItzN (K : PySem.W.Frag) (ls : List Sq) : It :=
  ⟨fun i H => ∃ f : Sq → List V, ∀ l ∈ ls, SqA K H l (f l) ∧ i < (f l).length,
    fun i H v H' => ∃ T vs, v = .ref T ∧ H T = none ∧ H' = upd H T (.tup vs) ∧ vs.length = ls.length ∧ ∀ (j : Nat) l xs, ls[j]? = some l → SqA K H l xs → ∃ y, xs[i]? = some y ∧ vs[j]? = some y,
    fun i H => ∃ l r xs, ls = l :: r ∧ SqA K H l xs ∧ xs.length ≤ i⟩
theorem go_name {M : Model} {A : Around} {E : Value → Shared → Prop} {s : Shared} {x : Str} {p : Pos} {it u : Value} {Q : Unit → Shared → Prop} (hQ : Q () s) : wpAny M A (letOwnedTupleGo (.Name x p) it u) Q E s := wpAny_pure hQ
theorem za_mk {ls : List Sq} {I : Nat} (h : ∀ l ∈ ls, l.1 < I) : ZA (I + ls.length + 2) (I + ls.length) (I + ls.length + 1) (mkIts I ls) := by
  have f : ∀ p ∈ mkIts I ls, I ≤ p.1 ∧ p.1 < I + ls.length := fun p m => by
    have m2 : p.1 ∈ (mkIts I ls).map Prod.fst := List.mem_map_of_mem m
    rw [mkIts_fst, List.mem_range'_1] at m2
    exact m2
  have g : ∀ p ∈ mkIts I ls, p.2 ∈ ls := fun p m => by
    have m2 : p.2 ∈ (mkIts I ls).map Prod.snd := List.mem_map_of_mem m
    rwa [mkIts_snd] at m2
  have t1 : ∀ a b c : Nat, c = a + b → (c ≠ c + 2 ∧ c + 1 ≠ c + 2 ∧ c ≠ c + 1) := by intro a b c _; omega
  have t2 : ∀ a b c : Nat, a ≤ b → b < a + c → (b ≠ a + c + 2 ∧ b ≠ a + c ∧ b ≠ a + c + 1) := by intro a b c _ _; omega
  have t3 : ∀ a b c : Nat, b < a → (b ≠ a + c + 2 ∧ b ≠ a + c + 1 ∧ ¬ a ≤ b) := by intro a b c _; omega
  obtain ⟨u1, u2, u3⟩ := t1 I ls.length _ rfl
  refine ⟨u1, u2, u3, by rw [mkIts_fst]; exact List.nodup_range', fun p m => t2 _ _ _ (f p m).1 (f p m).2, fun p m => ?_⟩
  obtain ⟨v1, v2, v3⟩ := t3 I p.2.1 ls.length (h _ (g p m))
  refine ⟨v1, v2, fun z => ?_⟩
  rw [mkIts_fst, List.mem_range'_1] at z
  exact v3 z.1
theorem turn_zipN {P : Program} {w : World} {K : PySem.W.Frag} {x : Str} {tp : Pos} {z TI TO : Addr} {its : List (Addr × Sq)} (D : ZA z TI TO its) (ne : its ≠ []) (hl : its.length ≤ 100000) :
    Turn P w K (.Name x tp) (ItzN K (its.map Prod.snd)) (z :: TI :: TO :: its.map Prod.fst) z (fun i h => ZN h z TI TO its i) where
  mem := by simp
  obj := fun i h st c hc => by
    obtain ⟨⟨f0, f1, hz, _⟩, hTI, ⟨vs, hTO, _⟩, hi⟩ := st
    rcases List.mem_cons.mp hc with q | hc
    · rw [q]; exact ⟨_, hz, fun v q => nomatch q⟩
    rcases List.mem_cons.mp hc with q | hc
    · rw [q]; exact ⟨_, hTI, fun v q => nomatch q⟩
    rcases List.mem_cons.mp hc with q | hc
    · rw [q]; exact ⟨_, hTO, fun v q => nomatch q⟩
    obtain ⟨p, mp, q⟩ := List.mem_map.mp hc
    obtain ⟨o, vs, e, d⟩ := (hi p mp).obj
    rw [← q]
    exact ⟨o, e, fun v q => by rw [d] at q; cases q⟩
  keep := fun i h h' st k => by
    obtain ⟨⟨f0, f1, hz, h0⟩, hTI, ⟨vs, hTO, hv⟩, hi⟩ := st
    exact ⟨⟨f0, f1, k z (by simp) _ hz, h0⟩, k TI (by simp) _ hTI, ⟨vs, k TO (by simp) _ hTO, hv⟩, fun p m => (hi p m).at fun o q => k p.1 (by simp only [List.mem_cons]; exact .inr (.inr (.inr (List.mem_map_of_mem m)))) o q⟩
  item := by
    intro X hP hw hK hc i pins s σ H E I hf st hg
    subst hP hw hK
    obtain ⟨f, hg⟩ := hg
    have nz : ∀ c ∈ z :: TI :: TO :: its.map Prod.fst, c < s.heap.objs.size := fun c hc => by
      obtain ⟨⟨f0, f1, hz, _⟩, hTI, ⟨vs, hTO, _⟩, hi⟩ := st
      rcases List.mem_cons.mp hc with q | hc
      · rw [q]; exact Heap.lt_size hz
      rcases List.mem_cons.mp hc with q | hc
      · rw [q]; exact Heap.lt_size hTI
      rcases List.mem_cons.mp hc with q | hc
      · rw [q]; exact Heap.lt_size hTO
      obtain ⟨p, mp, q⟩ := List.mem_map.mp hc
      obtain ⟨o, vs, e, d⟩ := (hi p mp).obj
      rw [← q]
      exact Heap.lt_size e
    have col : ∃ val : Addr × Sq → Value, ∃ vv : Addr × Sq → V, ∀ p ∈ its, (∃ xs, IsSq s.heap p.2 xs ∧ xs[i]? = some (val p)) ∧ RelV (vv p) (val p) ∧ (f p.2)[i]? = some (vv p) := by
      have one : ∀ p ∈ its, ∃ (a : Value) (b : V), (∃ xs, IsSq s.heap p.2 xs ∧ xs[i]? = some a) ∧ RelV b a ∧ (f p.2)[i]? = some b := fun p m => by
        obtain ⟨sq, hi⟩ := hg p.2 (List.mem_map_of_mem m)
        obtain ⟨us, rv, t⟩ := sq_inv I sq
        have hx : (f p.2)[i]? = some (f p.2)[i] := List.getElem?_eq_getElem hi
        obtain ⟨u, hu, ru⟩ := rv.get hx
        exact ⟨u, _, ⟨us.toArray, t, by simpa using hu⟩, ru, hx⟩
      refine ⟨fun p => if h : p ∈ its then (one p h).choose else .none, fun p => if h : p ∈ its then (one p h).choose_spec.choose else .non, fun p m => ?_⟩
      have e := (one p m).choose_spec.choose_spec
      simp only [dif_pos m]
      exact e
    obtain ⟨val, vv, col⟩ := col
    refine zn_item D st ne hl (fun p m => (col p m).1) fun h' st' _ hT hsz hk => ⟨_, rfl, go_name ?_⟩
    have rv : Vals (its.map vv) (its.map val) := by
      have : ∀ l : List (Addr × Sq), (∀ p ∈ l, p ∈ its) → Vals (l.map vv) (l.map val) := fun l => by
        induction l with
        | nil => exact fun _ => .nil
        | cons p l ih => exact fun h => .cons (col p (h p List.mem_cons_self)).2.1 (ih fun q m => h q (List.mem_cons_of_mem _ m))
      exact this its fun p m => m
    have new : ObjOk X.prog X.w (upd H s.heap.objs.size (.tup (its.map vv))) h' s.heap.objs.size (.tup (its.map vv)) :=
      ⟨by rw [List.length_map]; exact lim_ok hl, its.map val, rv, ⟨_, hT, rfl, _, rfl⟩⟩
    have I1 : Inv X pins σ (upd H s.heap.objs.size (.tup (its.map vv))) { s with heap := h' } :=
      I.turnedNew (t' := s.toks) (ch := z :: TI :: TO :: its.map Prod.fst) (fun c o hb q => hk c o (fun q' => hb (by simp [q'])) (fun q' => hb (by simp [q'])) (fun q' => hb (List.mem_cons_of_mem _ (List.mem_cons_of_mem _ (List.mem_cons_of_mem _ q')))) q) hf (Nat.le_refl _) new
    refine ⟨.ref s.heap.objs.size, _, I1, rfl, ⟨_, its.map vv, rfl, I.hok.fresh (Nat.le_refl _), rfl, by rw [List.length_map, List.length_map], fun j l xs ej sq => ?_⟩, st', fun c hcm => ?_⟩
    · rw [List.getElem?_map] at ej
      cases ep : its[j]? with
      | none => rw [ep] at ej; cases ej
      | some p =>
        rw [ep] at ej
        cases ej
        have mp := List.mem_of_getElem? ep
        have e := sq_inj I sq (hg p.2 (List.mem_map_of_mem mp)).1
        subst e
        exact ⟨vv p, (col p mp).2.2, by rw [List.getElem?_map, ep]; rfl⟩
    · rw [upd_ne (Nat.ne_of_lt (nz c hcm))]
      exact (hf c hcm).1
  done := by
    intro X hP hw hK hc i pins s σ H E I hf st hg
    subst hP hw hK
    cases its with
    | nil => exact absurd rfl ne
    | cons p its =>
      obtain ⟨l, r, xs, el, sq, hle⟩ := hg
      cases el
      obtain ⟨us, rv, t⟩ := sq_inv I sq
      have hlen := rv.length
      exact zn_stop (I.ok.hd hc) D st t (by simp; omega) fun h' hk => ⟨rfl, I.turnedL (t' := s.toks) (ch := z :: TI :: TO :: (p :: its).map Prod.fst) (fun c o hb q =>
        hk c o (fun q' => hb (by simp [q'])) (fun q' => hb (by simp [q'])) (fun q' => hb (List.mem_cons_of_mem _ (List.mem_cons_of_mem _ (List.mem_cons_of_mem _ q')))) q) hf⟩
  self := fun A i s Q E st h => by
    obtain ⟨⟨f0, f1, hz, _⟩, _⟩ := st
    have hT : s.TypeIs (.ref z) "zip" := ⟨_, hz, rfl⟩
    refine wpAny_pyIter_slot hT F.slot_zip_iter (wpAny_call_entry F.slot_zip_iter hT F.entry_zip_iter ?_ (F.args_zip_iter_1 _))
    show wpAny _ _ (ret (.ref z)) _ _ s
    exact wpAny_pure ⟨_, rfl, "zip", _, hT, F.slot_zip_next.lookup, h⟩
theorem callWith_typeS {M : Model} {A : Around} {E : Value → Shared → Prop} {s : Shared} {pos : Pos} {T : String} {first : List Value} {args : List (Bool × Sem Value)} {Q : Value → Shared → Prop} (hst : args.any (·.1) = true)
    (h : wpAny M A (evalArgs (.type T) true args []) (fun a s₁ => wpAny M A (call (.type T) (first ++ a.pos) a.kw) Q E s₁) E s) : wpAny M A (callWith pos (.type T) first args []) Q E s := by
  unfold callWith
  refine wpAny_bind (wpAny_holding (wpAny_mono h (fun a s₁ h₁ => wpAny_bind (wpAny_standAt ?_)) fun _ _ x => x))
  simp only [hst, Bool.true_or]
  refine wpAny_bind (wpAny_pure ?_)
  exact wpAny_bind (wpAny_mono (wpAny_operating h₁) (fun r s₂ hr => wpAny_bind (wpAny_holding (wpAny_point (wpAny_pure hr)))) fun _ _ x => x)
theorem call_zipN {prog : Program} {w : World} {A : Around} {E : Value → Shared → Prop} {s : Shared} {ls : List Sq} {Q : Value → Shared → Prop} (h5 : ls.length ≤ 5) (ht : ∀ l ∈ ls, ∃ xs, IsSq s.heap l xs)
    (q : ∀ h', ZN h' (s.heap.objs.size + ls.length + 2) (s.heap.objs.size + ls.length) (s.heap.objs.size + ls.length + 1) (mkIts s.heap.objs.size ls) 0 → (∃ f1, ZipF h' (s.heap.objs.size + ls.length + 2) (s.heap.objs.size + ls.length) (s.heap.objs.size + ls.length + 1) .none f1) → (∀ c o, s.heap.get? c = some o → h'.get? c = some o) → Q (.ref (s.heap.objs.size + ls.length + 2)) { s with heap := h' }) :
    wpAny (model prog w) A (call (.type "zip") (ls.map fun l => Value.ref l.1)) Q E s := by
  obtain ⟨c1, c2, c3⟩ := chk_zip (ls.map fun l => Value.ref l.1) (by rw [List.length_map]; exact h5)
  refine callType_new F.called_zip (by decide) c1 c2 c3 F.entry_zip_new (meets_zn ls (by omega)) ⟨ht, fun h' z zn sz k => ⟨?_, q h' z zn k⟩⟩
  obtain ⟨⟨f0, f1, hz, _⟩, _⟩ := z
  exact ⟨_, hz, rfl⟩
def iZipS (K : PySem.W.Frag) (te : TE) : TI := fun σ H R => te σ H fun y H1 => ∃ a ls, y = V.ref a ∧ (SqT K H1 a (ls.map V.ref) ∨ SqL K H1 a (ls.map V.ref)) ∧ ls ≠ [] ∧ ls.length ≤ 5 ∧ (∀ l ∈ ls, ∃ xs, SqT K H1 l xs) ∧ R (ItzN K (ls.map fun l => (l, false))) H1
theorem vals_refs : ∀ {ls : List Addr} {us : List Value}, Vals (ls.map V.ref) us → us = ls.map Value.ref
  | [], _, .nil => rfl
  | l :: ls, _, .cons r rr => by
    cases r
    rw [vals_refs rr]
    rfl
theorem pi_zipS {X : Cx} {e : Expr} {te : TE} {x : Str} {tp p sp pos : Pos} (hg : Gl X "zip") (hm : X.mg "zip" = none) (he : PE X e te) : PI X (.Name x tp) (.Call (.Name "zip" p) [.Starred e sp] [] pos) (iZipS X.K te) := by
  refine ⟨fun pins s σ H R I h => ?_⟩
  refine Call_ (ld_blt I hg hm PyProof.Rows.boot_zip (callWith_typeS (by rfl) ?_))
  show wpAny _ _ (evalArgs _ true [(true, (do let v ← eval e X.env; standAt pos; pure v))] []) _ _ _
  refine PySem.W.ks_lone (thn (he.run pins s σ H _ I h) fun v s1 ⟨y, H1, I1, ry, a, ls, ey, hx, ne, h5, hsq, q⟩ => ?_)
  subst ey
  obtain rfl : v = Value.ref a := ry
  refine StX.star_any I1 hx fun us s2 I2 rv => ?_
  have eu := vals_refs rv
  subst eu
  generalize eqs : (ls.map fun l => ((l, false) : Sq)) = qs at q
  have lq : qs.length = ls.length := by rw [← eqs, List.length_map]
  have ht : ∀ l ∈ qs, ∃ xs, IsSq s2.heap l xs := fun l m => by
    rw [← eqs] at m
    obtain ⟨a, ma, rfl⟩ := List.mem_map.mp m
    obtain ⟨xs, sq⟩ := hsq a ma
    obtain ⟨its, _, t⟩ := sq_inv (l := (a, false)) I2 sq
    exact ⟨its.toArray, t⟩
  have hlt : ∀ l ∈ qs, l.1 < s2.heap.objs.size := fun l m => by
    obtain ⟨xs, t⟩ := ht l m
    exact t.lt
  have eu : (ls.map Value.ref) = qs.map fun l => Value.ref l.1 := by
    rw [← eqs, List.map_map]
    rfl
  show wpAny _ _ (call (.type "zip") ([] ++ ls.map Value.ref)) _ _ _
  rw [List.nil_append, eu]
  refine call_zipN (by omega) ht fun h' st _ hk => ?_
  have I3 : Inv X pins σ H1 { s2 with heap := h' } := I2.kept (t' := s2.toks) hk
  have D := za_mk (I := s2.heap.objs.size) hlt
  have T := turn_zipN (P := X.prog) (w := X.w) (K := X.K) (x := x) (tp := tp) D (fun z => ne (by
    have : qs = [] := by rw [← mkIts_snd qs s2.heap.objs.size, z]; rfl
    rw [this] at lq
    exact List.eq_nil_of_length_eq_zero lq.symm)) (by rw [mkIts_len]; omega)
  rw [mkIts_snd] at T
  refine T.self X.A 0 _ _ _ st ⟨_, _, _, _, H1, rfl, I3, T, st, fun c hc => ?_, q⟩
  have hle : s2.heap.objs.size ≤ c := by
    have t0 : ∀ a b : Nat, a ≤ a + b + 2 ∧ a ≤ a + b ∧ a ≤ a + b + 1 := by intro a b; omega
    obtain ⟨z1, z2, z3⟩ := t0 s2.heap.objs.size qs.length
    rcases List.mem_cons.mp hc with z | hc
    · rw [z]; exact z1
    rcases List.mem_cons.mp hc with z | hc
    · rw [z]; exact z2
    rcases List.mem_cons.mp hc with z | hc
    · rw [z]; exact z3
    rw [mkIts_fst, List.mem_range'_1] at hc
    exact hc.1
  exact I2.fpOk hle (I2.hok.fresh hle)
/-! ### with data -/
def rowsT : List D → Option (List (List D))
  | [] => some []
  | .tup r :: t => (rowsT t).map fun x => r :: x
  | _ => none
def colsD (ds : List D) : Option (List D) := match rowsT ds with
  | some (r :: t) => if t.length ≤ 4 ∧ (t.all fun x => decide (x.length = r.length)) = true ∧ r.length ≤ 100000 then some ((List.range r.length).map fun j => .tup ((r :: t).map fun x => (x[j]?).getD .non)) else none
  | _ => none
theorem rowsT_eq : ∀ {ds : List D} {rows : List (List D)}, rowsT ds = some rows → ds = rows.map D.tup
  | [], rows, h => by cases h; rfl
  | d :: t, rows, h => by
    cases d <;> first | (cases h; done) | skip
    rename_i r
    simp only [rowsT] at h
    cases e : rowsT t with
    | none => rw [e] at h; cases h
    | some x =>
      rw [e] at h
      cases h
      rw [rowsT_eq e]
      rfl
theorem DtAll.of_get {K : PySem.W.Frag} {av : Addr → Prop} {H : Hp} : ∀ {vs : List V} {ds : List D}, vs.length = ds.length → (∀ (j : Nat) v d, vs[j]? = some v → ds[j]? = some d → Dt K av H v d) → DtAll K av H vs ds
  | [], [], _, _ => .nil
  | v :: vs, d :: ds, hl, h => .cons (h 0 v d rfl rfl) (DtAll.of_get (by simpa using hl) fun j v d e1 e2 => h (j + 1) v d (by simpa using e1) (by simpa using e2))
  | [], _ :: _, hl, _ => by simp at hl
  | _ :: _, [], hl, _ => by simp at hl
section
variable {R : Rs} {Γ : Gm R} {sl sl' : List SV} {tm : List (V × D)} {ow : List (Addr × MO)} {g : R.α} {σ σ' : L2.St} {H H' : Hp} {ι : Type} {X : ι → Cx} {E : XK}
def dOf (b : Bool) (r : List D) : D := match b with
  | true => .lst r
  | false => .tup r
theorem dt_sq {K : PySem.W.Frag} {av : Addr → Prop} {H : Hp} {l : Sq} {r : List D} (d : Dt K av H (.ref l.1) (dOf l.2 r)) : ∃ xs, SqA K H l xs ∧ DtAll K av H xs r := by
  obtain ⟨a, b⟩ := l
  cases b
  · cases d with
    | tup q r => exact ⟨_, q.seq, r⟩
  · cases d with
    | lst q r => exact ⟨_, q.seq, r⟩
theorem wlk_zipN {ls : List Sq} {rows : List (List D)} {m : Nat} (hl : ls.length = rows.length) (ne : ls ≠ []) (hm : ∀ r ∈ rows, r.length = m) :
    Wlk Γ (ItzN Γ.K ls) ((List.range m).map fun j => .tup (rows.map fun x => (x[j]?).getD .non)) ((ls.zip rows).map fun p => (V.ref p.1.1, dOf p.1.2 p.2)) := by
  have at_ : ∀ {sl tm ow g σ H}, SRel Γ sl ((ls.zip rows).map (fun p => (V.ref p.1.1, dOf p.1.2 p.2)) ++ tm) ow g σ H → ∀ (j : Nat) l, ls[j]? = some l → ∃ r xs, rows[j]? = some r ∧ SqA Γ.K H l xs ∧ DtAll Γ.K (Γ.av sl ow σ) H xs r ∧ xs.length = m := fun {sl tm ow g σ H} S j l e => by
    have hj : j < rows.length := by rw [← hl]; exact (List.getElem?_eq_some_iff.mp e).1
    have er : rows[j]? = some rows[j] := List.getElem?_eq_getElem hj
    have mz : (l, rows[j]) ∈ ls.zip rows := List.mem_of_getElem? (i := j) (by rw [List.getElem?_zip_eq_some]; exact ⟨e, er⟩)
    have d := S.tms (V.ref l.1) (dOf l.2 rows[j]) (List.mem_append_left _ (List.mem_map.mpr ⟨_, mz, rfl⟩))
    obtain ⟨xs, q, r⟩ := dt_sq d
    exact ⟨_, xs, er, q, r, r.length.trans (hm _ (List.getElem_mem hj))⟩
  refine ⟨fun {sl tm ow g σ H i} S h => ?_, fun {sl tm ow g σ H i x H'} S h y => ?_, fun {sl tm ow g σ H i} S h => ?_⟩
  · rw [List.length_map, List.length_range] at h
    have one : ∀ l ∈ ls, ∃ xs, SqA Γ.K H l xs ∧ i < xs.length := fun l ml => by
      obtain ⟨j, e⟩ := List.mem_iff_getElem?.mp ml
      obtain ⟨r, xs, _, q, _, z⟩ := at_ S j l e
      exact ⟨xs, q, by omega⟩
    refine ⟨fun l => if h : l ∈ ls then (one l h).choose else [], fun l ml => ?_⟩
    have e := (one l ml).choose_spec
    simp only [dif_pos ml]
    exact e
  · rw [List.length_map, List.length_range] at h
    obtain ⟨T, vs, rfl, hT, rfl, hlen, hval⟩ := y
    have dA : DtAll Γ.K (Γ.av sl ow σ) H vs (rows.map fun x => (x[i]?).getD .non) := by
      refine DtAll.of_get (by rw [List.length_map, hlen, hl]) fun j v d e1 e2 => ?_
      have hj : j < ls.length := by rw [← hlen]; exact (List.getElem?_eq_some_iff.mp e1).1
      obtain ⟨r, xs, er, q, da, z⟩ := at_ S j ls[j] (List.getElem?_eq_getElem hj)
      obtain ⟨y, ey, ev⟩ := hval j _ xs (List.getElem?_eq_getElem hj) q
      rw [e1] at ev
      cases ev
      rw [List.getElem?_map, er] at e2
      cases e2
      obtain ⟨d2, ed, dd⟩ := da.atL ey
      show Dt _ _ _ _ ((r[i]?).getD .non)
      rw [ed]
      exact dd
    have S2 := S.newT dA hT
    exact ⟨S2.pop, _, by rw [List.getElem?_map, List.getElem?_range h]; rfl, S2.top⟩
  · rw [List.length_map, List.length_range] at h
    cases ls with
    | nil => exact absurd rfl ne
    | cons l r =>
      obtain ⟨_, xs, _, q, _, z⟩ := at_ S 0 l rfl
      exact ⟨l, r, xs, rfl, q, by omega⟩
def iZS (f : FE R) : FA R := fun sl g => (f sl g).bind fun d g => match d with
  | .tup ds => match colsD ds with
    | some cs => .ok cs g
    | none => .bad
  | _ => .bad
theorem refs_of {K : PySem.W.Frag} {av : Addr → Prop} {H : Hp} : ∀ {vs : List V} {rows : List (List D)}, DtAll K av H vs (rows.map D.tup) → ∃ ls : List Addr, vs = ls.map V.ref ∧ ls.length = rows.length ∧ (∀ l ∈ ls, ∃ xs, SqT K H l xs) ∧ ∀ p ∈ ls.zip rows, Dt K av H (.ref p.1) (.tup p.2)
  | [], [], _ => ⟨[], rfl, rfl, (fun _ m => nomatch m), (fun _ m => nomatch m)⟩
  | [], _ :: _, h => nomatch h
  | _ :: _, [], h => nomatch h
  | v :: vs, r :: rows, h => by
    rw [List.map_cons] at h
    cases h with
    | cons a t =>
      obtain ⟨ls, e1, e2, e3, e4⟩ := refs_of t
      cases a with
      | tup q r2 =>
        refine ⟨_ :: ls, by rw [e1]; rfl, by rw [List.length_cons, List.length_cons, e2], fun l m => ?_, fun p m => ?_⟩
        · rcases List.mem_cons.mp m with rfl | m
          · exact ⟨_, q.seq⟩
          · exact e3 l m
        · rw [List.zip_cons_cons] at m
          rcases List.mem_cons.mp m with rfl | m
          · exact .tup q r2
          · exact e4 p m
theorem SRel.pushAll : ∀ {ps : List (V × D)}, SRel Γ sl tm ow g σ H → (∀ p ∈ ps, Dt Γ.K (Γ.av sl ow σ) H p.1 p.2) → SRel Γ sl (ps ++ tm) ow g σ H
  | [], S, _ => S
  | p :: ps, S, h => (SRel.pushAll S fun q m => h q (List.mem_cons_of_mem _ m)).push (h p List.mem_cons_self)
theorem ei_zipS {tg iter e : Expr} {f : FE R} (pi : ∀ {te} j, PE (X j) e te → PI (X j) tg iter (iZipS Γ.K te)) (h : ED X E Γ e f) : EI X E Γ tg iter (iZS f) := by
  obtain ⟨t, p, s⟩ := h
  refine ⟨_, fun j => pi j (p j), fun sl tm ow g σ H Rr S h => ?_⟩
  refine s sl tm ow g σ H _ S ?_
  unfold iZS at h
  cases e : f sl g with
  | bad => rw [e] at h; exact h
  | err C fs g' => rw [e] at h; exact h
  | ok d g' =>
    rw [e] at h
    dsimp only [bind_ok] at h
    intro v H1 S1 dv
    cases dv with
    | tup q dA =>
      rename_i a vs ds
      dsimp only at h
      unfold colsD at h
      cases er : rowsT ds with
      | none => rw [er] at h; exact h.elim
      | some rows =>
        rw [er] at h
        cases rows with
        | nil => exact h.elim
        | cons r t =>
          dsimp only at h
          have ed := rowsT_eq er
          subst ed
          by_cases c : t.length ≤ 4 ∧ (t.all fun x => decide (x.length = r.length)) = true ∧ r.length ≤ 100000
          · rw [if_pos c] at h
            dsimp only at h
            obtain ⟨ls, e1, e2, e3, e4⟩ := refs_of dA
            subst e1
            have ne : ls ≠ [] := fun z => by rw [z] at e2; cases e2
            have hm : ∀ x ∈ r :: t, x.length = r.length := fun x m => by
              rcases List.mem_cons.mp m with rfl | m
              · rfl
              · exact of_decide_eq_true (List.all_eq_true.mp c.2.1 x m)
            refine ⟨a, ls, rfl, .inl q.seq, ne, by rw [e2, List.length_cons]; omega, e3, h _ _ (((ls.map fun l => ((l, false) : Sq)).zip (r :: t)).map fun p => (V.ref p.1.1, dOf p.1.2 p.2)) (S1.pushAll fun p m => ?_) (wlk_zipN (by rw [List.length_map]; exact e2) (fun z => ne (List.map_eq_nil_iff.mp z)) hm)⟩
            obtain ⟨z, mz, rfl⟩ := List.mem_map.mp m
            rw [List.zip_map_left] at mz
            obtain ⟨y, my, rfl⟩ := List.mem_map.mp mz
            exact e4 y my
          · rw [if_neg c] at h
            exact h.elim
    | _ => exact h.elim
end
end DL

set_option maxHeartbeats 4000000
namespace DL
open PySem PySem.Spec PyProof.Rows L2
/-! ## min(xs, default=d) of ints -/
def tMinD (K : PySem.W.Frag) (ta td : TE) : TE := fun σ H Q => ta σ H fun x H1 => td σ H1 fun y H2 => ∃ a ns, x = V.ref a ∧ SqL K H2 a (ns.map V.int) ∧ (ns = [] → Q y H2) ∧ ∀ n r, ns = n :: r → Q (.int (r.foldl min n)) H2
theorem reads_ints {h : Heap} : ∀ {ns : List Int} {us : List Value}, Vals (ns.map V.int) us → ReadsAll h us (ns.map PyData.int) []
  | [], _, .nil => .nil
  | n :: ns, _, .cons r t => by
    obtain ⟨k, rfl⟩ := r
    exact .cons (as := []) (.int n k) (reads_ints t)
theorem depth_ints : ∀ ns : List Int, PyData.depthAll (ns.map PyData.int) = 0
  | [] => rfl
  | n :: ns => by rw [List.map_cons]; simp only [PyData.depthAll, PyData.depth, depth_ints ns]; rfl
theorem pe_minD {X : Cx} {e d : Expr} {ta td : TE} {p kp pos : Pos} (hc : X.calm = true) (hu : X.A.units + 65 < cLine) (hg : Gl X "min") (hm : X.mg "min" = none) (he : PE X e ta) (hd : PE X d td)
    (hs : starEach [e] X.env = (false, eval e X.env) :: starEach [] X.env := by rfl) :
    PE X (.Call (.Name "min" p) [e] [⟨some "default", d, kp⟩] pos) (tMinD X.K ta td) := by
  refine ⟨fun pins s σ H Q I h => ?_⟩
  refine wpAny_Call_Name_kw (ld_blt I hg hm PyProof.Rows.boot_min ?_)
  refine PyProof.Rows.callWith_kw ?_ (by rw [hs]; rfl) (by rw [hs]; rfl)
  refine thn ((pa_cons he pa_nil hs).run pos pins s σ H (fun vs H1 => match vs with
    | [x] => td σ H1 fun y H2 => ∃ a ns, x = V.ref a ∧ SqL X.K H2 a (ns.map V.int) ∧ (ns = [] → Q y H2) ∧ ∀ n r, ns = n :: r → Q (.int (r.foldl min n)) H2
    | _ => False) I h) fun us s1 ⟨vs, H1, I1, r1, q1⟩ => ?_
  match vs, r1, q1 with
  | [x], .cons rx .nil, q1 =>
    refine thn ((pk_cons (nm := some "default") (kpos := kp) hd pk_nil).run pos pins s1 σ H1 (fun zs H2 => match zs with
      | [y] => ∃ a ns, x = V.ref a ∧ SqL X.K H2 a (ns.map V.int) ∧ (ns = [] → Q y H2) ∧ ∀ n r, ns = n :: r → Q (.int (r.foldl min n)) H2
      | _ => False) I1 q1) fun ws s2 ⟨zs, H2, I2, r2, q2⟩ => ?_
    match zs, r2, q2 with
    | [y], .cons ry .nil, ⟨a, ns, ex, hs, q0, q3⟩ =>
      subst ex
      rename_i u _ _ v
      obtain rfl : _ = Value.ref a := rx
      obtain ⟨its, rv, pl, _⟩ := I2.list hs
      show wpAny _ _ (call (.builtin "min") [.ref a] [(Str.ofString "default", _)]) _ _ _
      refine PySem.W.min_list_default (I2.ok.hd hc) pl.isList (reads_ints rv) ⟨fun p mp q mq => ?_, fun p mp => ?_⟩ (by rw [depth_ints]; omega) (fun e h' tk k => ?_) fun y ys i v h' tk bs e _ rr k => ?_
      · obtain ⟨i, _, rfl⟩ := List.mem_map.mp mp
        obtain ⟨j, _, rfl⟩ := List.mem_map.mp mq
        rfl
      · obtain ⟨i, _, rfl⟩ := List.mem_map.mp mp
        nofun
      · exact ⟨_, H2, I2.kept (t' := tk) k, ry, q0 (List.map_eq_nil_iff.mp e)⟩
      · cases ns with
        | nil => cases e
        | cons n r =>
          rw [List.map_cons] at e
          cases e
          rw [PySem.W.minD_ints] at rr
          cases rr
          exact ⟨.int (r.foldl min n), H2, I2.kept (t' := tk) k, ⟨_, rfl⟩, q3 n r rfl⟩
section
variable {R : Rs} {Γ : Gm R} {ι : Type} {X : ι → Cx} {E : XK}
/-- the least int of a list -/
def intsL : List D → Option (List Int)
  | [] => some []
  | .int i :: r => (intsL r).map fun x => i :: x
  | _ => none
def fMinD (fa fd : FE R) : FE R := fun sl g => (fa sl g).bind fun x g => (fd sl g).bind fun y g => match x with
  | .lst ds => match intsL ds with
    | some [] => .ok y g
    | some (n :: r) => .ok (.int (r.foldl min n)) g
    | none => .bad
  | _ => .bad
theorem intsL_dt {K : PySem.W.Frag} {av : Addr → Prop} {H : Hp} : ∀ {vs : List V} {ds : List D} {ns : List Int}, DtAll K av H vs ds → intsL ds = some ns → vs = ns.map V.int
  | _, _, ns, .nil, e => by cases e; rfl
  | _, _, ns, .cons (d := d) (ds := ds) a t, e => by
    cases d <;> first | (cases e; done) | skip
    rename_i i
    simp only [intsL] at e
    cases e2 : intsL ds with
    | none => rw [e2] at e; cases e
    | some x =>
      rw [e2] at e
      cases e
      cases a
      rw [intsL_dt t e2]
      rfl
theorem ed_minD {e d : Expr} {p kp pos : Pos} {fa fd : FE R} (ha : ED X E Γ e fa) (hd : ED X E Γ d fd) (pe : ∀ {ta td} j, PE (X j) e ta → PE (X j) d td → PE (X j) (.Call (.Name "min" p) [e] [⟨some "default", d, kp⟩] pos) (tMinD Γ.K ta td)) :
    ED X E Γ (.Call (.Name "min" p) [e] [⟨some "default", d, kp⟩] pos) (fMinD fa fd) := by
  obtain ⟨ta, pa, sa⟩ := ha
  obtain ⟨td, pd, sd⟩ := hd
  refine ⟨_, fun j => pe j (pa j) (pd j), fun sl tm ow g σ H Q S h => ?_⟩
  unfold fMinD at h
  refine sa sl tm ow g σ H _ S ?_
  cases ea : fa sl g with
  | bad => rw [ea] at h; exact h
  | err C fs g1 => rw [ea] at h; exact h
  | ok x g1 =>
    rw [ea] at h
    dsimp only [bind_ok] at h
    intro v H1 S1 d1
    refine sd sl ((v, x) :: tm) ow g1 σ H1 _ (S1.push d1) ?_
    cases eb : fd sl g1 with
    | bad => rw [eb] at h; exact h
    | err C fs g2 => rw [eb] at h; exact fun y H2 S2 x2 => h y H2 S2.pop x2
    | ok y g2 =>
      rw [eb] at h
      dsimp only [bind_ok] at h
      intro u H2 S2 d2
      split at h
      · rename_i ds
        cases S2.top with
        | lst q r =>
          rename_i a xs
          cases en : intsL ds with
          | none => rw [en] at h; exact h.elim
          | some ns =>
            rw [en] at h
            have ev := intsL_dt r en
            refine ⟨a, ns, rfl, by rw [← ev]; exact q.seq, fun e => ?_, fun n r2 e => ?_⟩
            · subst e
              exact h u H2 S2.pop d2
            · subst e
              exact h _ H2 S2.pop (.int _)
      · exact h.elim
end
end DL

set_option maxHeartbeats 4000000
namespace DL
open PySem PySem.Spec PyProof.Rows L2
/-! ## x == y, x != y by an own __eq__ -/
theorem one_bind (self : Value) : bindSpecial (.builtin "object.__ne__") self = pure (.builtin "object.__ne__", [self]) :=
  (Slot.of (T := "object") (name := "__ne__") (owner := "object") (n := "__ne__") (by rw [typeLookup_type, builtinLookup_eq_fast]; kernel_rfl) (by decide +kernel) (by decide +kernel) (by decide +kernel)
    (.inl (by decide +kernel)) (by rw [isSubtype_type]; kernel_rfl)).bind self
theorem one_plain : plainId "object.__ne__" = true := by decide +kernel
section
variable {prog : Program} {w : World} {A A₀ : Around} {E : Value → Shared → Prop} {s : Shared} {K : PySem.W.Frag} {x C L f : Addr} {h₀ : Heap} {m : Str → Option Value} {ox : Obj} {od : Option Obj} {name : Str} {b tb : Value}
theorem ifBound_B {M : Model} {A : Around} {args : List Value} {id : String} {Q : Option Value → Shared → Prop} (X : K.In s.heap) (I : PySem.W.InstAt s.heap x ox C od) (hs : PySem.W.findIn K (.ref C) name = some (some (.builtin id))) (hb : ∀ self, bindSpecial (.builtin id) self = pure (.builtin id, [self]))
    (h : wpAny M A (call (.builtin id) (.ref x :: args)) (fun v => Q (some v)) E s) : wpAny M A (callSpecialIfBound? (.ref x) name args) Q E s := by
  simp only [callSpecialIfBound?, bindSpecialIfBound?]
  refine wpAny_holding (wpAny_bind (wpAny_bind (wpAny_bind (I.type.here ((PySem.W.looks_findIn X hs).here ?_)))))
  refine wpAny_bind (wpAny_askSetting (wpAny_ite ?_))
  have fin : wpAny M A (call (.builtin id) ([.ref x] ++ args) >>= fun v => pure (some v)) Q E s := wpAny_bind (wpAny_mono h (fun v s' h' => wpAny_pure h') fun _ _ h' => h')
  rw [hb]
  split
  · exact wpAny_bind (wpAny_pure (wpAny_pure (by exact fin)))
  · exact wpAny_tryCatch (wpAny_bind (wpAny_pure (wpAny_pure (by exact fin))))
theorem ne_K2 {Q : Value → Shared → Prop} (hu : A.units + 1 < cLine) (hF : Fr h₀ L s.heap m) (X₀ : K.In h₀) (I : PySem.W.InstAt s.heap x ox C od) (hb : PySem.W.Looks (model prog w) s.heap (typeOf b) tb) (hn : PySem.W.notFirst K C tb = true)
    (ho : PySem.W.mroIn K C (.type "object") = some true) (hne : PySem.W.findIn K (.ref C) "__ne__" = some (some (.builtin "object.__ne__"))) (hs : PySem.W.findIn K (.ref C) "__eq__" = some (some (.ref f))) (hf : PySem.W.isFn K (.ref f) = true)
    (h : wpAny (model prog w) A.in1 (call (.ref f) [.ref x, b]) (fun v s' => ∃ c, v = .bool c ∧ Q (.bool (!c)) s') E s) : wpAny (model prog w) A (richCompare .NotEq (.ref x) b) Q E s := by
  have X := X₀.keeps hF.keep
  have nebody : wpAny (model prog w) A (call (.builtin "object.__ne__") [.ref x, b]) (fun v s' => ∃ c, v = .bool (!c) ∧ Q (.bool (!c)) s') E s := by
    refine wpAny_call (codeAny_call_builtin one_plain F.cmpEntry_ne (PySem.W.check_slot F.cmpKind_ne F.cmpSplit_ne (I.type.andThen (PySem.W.looks_mroIn X ho)) (F.cmpArgs_ne _ _) ?_))
    unfold Builtin.«object.__ne__»
    show wpAny _ _ (cRoomFor "comparison" [.ref x, b] >>= _) _ _ _
    refine wpAny_bind (wpAny_cRoomFor (by show A.units + 1 < _; exact hu) ?_)
    refine wpAny_bind (PySem.W.ifBound_K X I hs hf (wpAny_mono h (fun v s' hv => ?_) fun _ _ e => e))
    obtain ⟨c, rfl, q⟩ := hv
    show wpAny _ _ (truthy (.bool c) >>= _) _ _ _
    exact wpAny_bind (wpAny_truthy_bool (wpAny_pure ⟨c, rfl, q⟩))
  have one : wpAny (model prog w) A (tryCompare (.ref x) "__ne__" b) (fun r s' => ∃ v, r = some v ∧ Q v s') E s := by
    unfold tryCompare
    refine wpAny_bind (ifBound_B X I hne one_bind (wpAny_mono nebody (fun v s' hv => ?_) fun _ _ e => e))
    obtain ⟨c, rfl, q⟩ := hv
    exact wpAny_pure ⟨_, rfl, q⟩
  unfold richCompare
  simp only [oneThing_ref]
  refine wpAny_holding (wpAny_bind (wpAny_cRoomFor (by omega) ?_))
  refine wpAny_bind (I.type.here (wpAny_bind (hb.here ?_)))
  split
  · rename_i q
    have e : PySem.W.subIn K tb (.ref C) = some false := by
      rcases Bool.or_eq_true_iff.mp hn with e | e
      · rw [beq_iff_eq.mp e] at q; simp at q
      · exact beq_iff_eq.mp e
    refine wpAny_bind ((PySem.W.looks_subIn X e).here ?_)
    simp only [Bool.false_eq_true, if_false]
    refine wpAny_bind (wpAny_mono one (fun r s' z => ?_) fun _ _ e => e)
    obtain ⟨v, rfl, hq⟩ := z
    exact wpAny_pure hq
  · refine wpAny_bind (wpAny_pure ?_)
    simp only [Bool.false_eq_true, if_false]
    refine wpAny_bind (wpAny_mono one (fun r s' z => ?_) fun _ _ e => e)
    obtain ⟨v, rfl, hq⟩ := z
    exact wpAny_pure hq
end
def rOwnNe (C : Addr) (sp : Sp) (E : XK) : R2 := fun x y H Q => ∃ a b dx dy fs gs, x = .ref a ∧ y = .ref b ∧ H a = some (.ins C dx fs) ∧ H b = some (.ins C dy gs) ∧ sp [.ref a, .ref b] H (fun v H' => ∃ c, v = .bl c ∧ Q (.bl (!c)) H') E
def rOwnEq (C : Addr) (sp : Sp) (E : XK) : R2 := fun x y H Q => ∃ a b dx dy fs gs, x = .ref a ∧ y = .ref b ∧ H a = some (.ins C dx fs) ∧ H b = some (.ins C dy gs) ∧ sp [.ref a, .ref b] H (fun v H' => ∃ c, v = .bl c ∧ Q (.bl c) H') E
section
variable {X : Cx} {CX : CXT} {k : Nat} {f C : Addr} {fd : FuncData} {ps : List Str} {sp : Sp} {E : XK}
/-- an own def called below the running one -/
theorem run_below {A : Around} {pins : List (Addr × Obj)} {σ : L2.St} {H : Hp} {s : Shared} {Q : VK} {vs : List V} {us : List Value} (F : FnOk X.prog X.w X.K X.mg X.base CX k f fd ps sp) (hr : Room k A) (fr : A.frames = X.A.frames) (hb : Binds X.K fd ps []) (hx : Passes CX X E) (I : Inv X pins σ H s) (r : Vals vs us) (h : sp vs H Q E) :
    wpAny (model X.prog X.w) A (call (.ref f) us) (EP X pins σ Q) X.xe s := by
  have e0 : Env0 X.prog X.w X.K X.mg X.base A X.stack s H := by
    have e := I.env0
    exact ⟨by rw [fr]; exact e.frames, e.mod, e.bs, e.bsz, e.funs, e.frf, e.hok, e.bare⟩
  have hl := F.len _ _ _ _ h
  refine wpAny_call (codeAny_mono (F.run A X.stack s H ⟨us, []⟩ us vs _ E hr e0 (by
    have := hb s us I.kIn (by simpa [← r.length] using hl)
    simpa using this) r h) fun r s' hq => ?_)
  cases r with
  | error e => exact hx pins σ H s e s' I hq
  | ok fl =>
    cases fl with
    | ret w =>
      obtain ⟨z, H', I', rz, q⟩ := I.after hq
      exact ⟨z, H', I', rz, q⟩
    | next => exact False.elim hq
    | brk => exact False.elim hq
    | cont => exact False.elim hq
theorem op_ownNe (F : FnOk X.prog X.w X.K X.mg X.base CX k f fd ps sp) (hr : Room (k + 1) X.A) (hb : Binds X.K fd ps []) (hx : Passes CX X E) (ho : PySem.W.mroIn X.K C (.type "object") = some true) (hne : PySem.W.findIn X.K (.ref C) "__ne__" = some (some (.builtin "object.__ne__")))
    (hs : PySem.W.findIn X.K (.ref C) "__eq__" = some (some (.ref f))) (hf : PySem.W.isFn X.K (.ref f) = true) : OpR X (compareOp .NotEq) (rOwnNe C sp E) := by
  intro pins s σ H x y v u Q I rx ry h
  obtain ⟨a, b, dx, dy, fs, gs, rfl, rfl, ha, hb', h⟩ := h
  cases rx
  cases ry
  obtain ⟨mA, J, _⟩ := ins_get I.hok ha
  obtain ⟨mB, J', _⟩ := ins_get I.hok hb'
  obtain ⟨od, J, _⟩ := J.look
  obtain ⟨od', J', _⟩ := J'.look
  obtain ⟨m, hF⟩ := I.fr
  show wpAny (model X.prog X.w) X.A (richCompare .NotEq (.ref a) (.ref b)) (EP X pins σ Q) X.xe s
  refine ne_K2 (tb := .ref C) hr.in1.units0 hF I.ok.mod.kin J J'.type (by simp [PySem.W.notFirst]) ho hne hs hf ?_
  refine wpAny_mono (run_below (us := [.ref a, .ref b]) (vs := [.ref a, .ref b]) F hr.in1 rfl hb hx I (.cons rfl (.cons rfl .nil)) h) (fun r s' q => ?_) fun _ _ e => e
  obtain ⟨z, H', I', rz, c, rfl, q⟩ := q
  cases rz
  exact ⟨c, rfl, .bl _, H', I', rfl, q⟩
theorem op_ownEq (F : FnOk X.prog X.w X.K X.mg X.base CX k f fd ps sp) (hr : Room (k + 1) X.A) (hb : Binds X.K fd ps []) (hx : Passes CX X E)
    (hs : PySem.W.findIn X.K (.ref C) "__eq__" = some (some (.ref f))) (hf : PySem.W.isFn X.K (.ref f) = true) : OpR X (compareOp .Eq) (rOwnEq C sp E) := by
  intro pins s σ H x y v u Q I rx ry h
  obtain ⟨a, b, dx, dy, fs, gs, rfl, rfl, ha, hb', h⟩ := h
  cases rx
  cases ry
  obtain ⟨mA, J, _⟩ := ins_get I.hok ha
  obtain ⟨mB, J', _⟩ := ins_get I.hok hb'
  obtain ⟨od, J, _⟩ := J.look
  obtain ⟨od', J', _⟩ := J'.look
  obtain ⟨m, hF⟩ := I.fr
  show wpAny (model X.prog X.w) X.A (richCompare .Eq (.ref a) (.ref b)) (EP X pins σ Q) X.xe s
  refine PySem.W.cmp_K (op := .Eq) (tb := .ref C) (hr.mono (Nat.le_succ k)).units0 hF I.ok.mod.kin J J'.type (by simp [PySem.W.notFirst]) hs hf ?_
  refine wpAny_mono (run_below (us := [.ref a, .ref b]) (vs := [.ref a, .ref b]) F (hr.mono (Nat.le_succ k)) rfl hb hx I (.cons rfl (.cons rfl .nil)) h) (fun r s' q => ?_) fun _ _ e => e
  obtain ⟨z, H', I', rz, c, rfl, q⟩ := q
  cases rz
  exact ⟨.bl _, H', I', rfl, q⟩
end
end DL

set_option maxHeartbeats 4000000
namespace DL
open PySem PySem.Spec PyProof.Rows L2
section
variable {R : Rs} {Γ : Gm R} {sl sl' : List SV} {tm : List (V × D)} {ow : List (Addr × MO)} {g : R.α} {σ σ' : L2.St} {H H' : Hp} {ι : Type} {X : ι → Cx} {E : XK}
/-! ## x == y, x != y of an own class; C.m(e, ..) of a classmethod -/
def fCmpOwn (ng : Bool) (C : Addr) (F : R.α → List D → Rr R.α D) (a b : FE R) : FT R := fun sl g => (a sl g).bind fun x g => (b sl g).bind fun y g => match x, y with
  | .obj C1 fs, .obj C2 gs => if C1 = C ∧ C2 = C then (F g [.obj C1 fs, .obj C2 gs]).bind fun z g => match z with
      | .bl c => .ok (if ng = true then !c else c) g
      | _ => .bad
    else .bad
  | _, _ => .bad
def rOwnC (ng : Bool) (C : Addr) (sp : Sp) (E : XK) : R2 := fun x y H Q => ∃ a b dx dy fs gs, x = .ref a ∧ y = .ref b ∧ H a = some (.ins C dx fs) ∧ H b = some (.ins C dy gs) ∧ sp [.ref a, .ref b] H (fun v H' => ∃ c, v = .bl c ∧ Q (.bl (if ng = true then !c else c)) H') E
theorem et_cmpOwn {ng : Bool} {op : CmpOp} {C : Addr} {F : FF R} {a b : Expr} {pos : Pos} {fa fb : FE R} (ha : ED X E Γ a fa) (hb : ED X E Γ b fb) (ho : ∀ j, OpR (X j) (compareOp op) (rOwnC ng C (spD R Γ.K 2 F) E)) (hm : behindInMarks op b = false) :
    ET X E Γ (.Compare a [op] [b] pos) (fCmpOwn ng C (F Γ.ix) fa fb) := by
  obtain ⟨ta, pa, sa⟩ := ha
  obtain ⟨tb, pb, sb⟩ := hb
  refine ⟨_, fun j => pt_cmpR (ho j) (pa j) (pb j) hm, fun sl tm ow g σ H Q S h => ?_⟩
  unfold fCmpOwn at h
  refine sa sl tm ow g σ H _ S ?_
  cases ea : fa sl g with
  | bad => rw [ea] at h; exact h
  | err C fs g1 => rw [ea] at h; exact h
  | ok x g1 =>
    rw [ea] at h
    intro v H1 S1 d1
    refine sb sl ((v, x) :: tm) ow g1 σ H1 _ (S1.push d1) ?_
    dsimp only [bind_ok] at h
    cases eb : fb sl g1 with
    | bad => rw [eb] at h; exact h
    | err C fs g2 => rw [eb] at h; exact fun y H2 S2 x2 => h y H2 S2.pop x2
    | ok y g2 =>
      rw [eb] at h
      dsimp only [bind_ok] at h
      intro u H2 S2 d2
      have d1' := S2.top
      cases d1' with
      | obj h1 n1 f1 =>
        cases d2 with
        | obj h2 n2 f2 =>
          dsimp only at h
          rename_i a1 C1 dx1 xs1 ds1 a2 C2 dx2 xs2 ds2
          by_cases c : C1 = C ∧ C2 = C
          · rw [if_pos c] at h
            obtain ⟨rfl, rfl⟩ := c
            refine ⟨_, _, _, _, _, _, rfl, rfl, h1, h2, ?_⟩
            refine spD_call (g := g2) S2.pop (.cons S2.top (.cons (.obj h2 n2 f2) .nil)) rfl ?_
            cases eF : F Γ.ix g2 [.obj C2 ds1, .obj C2 ds2] with
            | bad => rw [eF] at h; exact h
            | err C fs g3 => rw [eF] at h; exact h
            | ok z g3 =>
              rw [eF] at h
              dsimp only [bind_ok] at h
              intro w H3 S3 d3
              cases d3 with
              | bl c => exact ⟨c, rfl, _, rfl, h H3 S3⟩
              | _ => exact h.elim
          · rw [if_neg c] at h
            exact h.elim
        | _ => exact h.elim
      | _ => cases d2 <;> exact h.elim
/-- C.m(e, ..) -/
def fCm (C : Addr) (n : Nat) (F : R.α → List D → Rr R.α D) (fa : FA R) : FE R := fun sl g => (fa sl g).bind fun ds g => if ds.length + 1 = n then F g (.hd C :: ds) else .bad
theorem ed_cm {C : Addr} {n : Nat} {F : FF R} {o e : Expr} {es : List Expr} {m : Str} {apos pos : Pos} {fa : FA R} (ha : EA X E Γ (e :: es) fa) (ho : ∀ j, PE (X j) o (tC (.ref C)))
    (pe : ∀ {t ta} j, PE (X j) o t → PA (X j) (e :: es) ta → PE (X j) (.Call (.Attribute o m apos) (e :: es) [] pos) (ClX.tCMeth C (spD R Γ.K n F) E t ta)) : ED X E Γ (.Call (.Attribute o m apos) (e :: es) [] pos) (fCm C n (F Γ.ix) fa) := by
  obtain ⟨ta, pa, sa⟩ := ha
  refine ⟨_, fun j => pe j (ho j) (pa j), fun sl tm ow g σ H Q S h => ?_⟩
  unfold fCm at h
  refine ⟨rfl, ?_⟩
  refine sa sl tm ow g σ H _ S ?_
  cases ea : fa sl g with
  | bad => rw [ea] at h; exact h
  | err C fs g1 => rw [ea] at h; exact h
  | ok ds g1 =>
    rw [ea] at h
    dsimp only [bind_ok] at h
    intro vs H1 S1 d1
    by_cases c : ds.length + 1 = n
    · rw [if_pos c] at h
      exact spD_call S1 (.cons (.hd C) d1) c h
    · rw [if_neg c] at h
      exact h.elim
theorem fnok_r {P : Program} {w : World} {K : PySem.W.Frag} {mg : Str → Option Value} {base : Heap} {CX : CXT} {k : Nat} {f : Addr} {sp : Sp} {fd : FuncData} {ps : List Str} (F : FnOk P w K mg base CX k f fd ps sp) (hb : Binds K fd ps []) : FnR P w K mg base CX k f sp :=
  (FnOk.raw (dvs := []) F hb .nil).imp fun vs H Q E h => by rw [List.append_nil]; exact h
end
end DL

set_option maxHeartbeats 4000000
namespace DL
open PySem PySem.Spec PyProof.Rows L2
section
variable {R : Rs} {Γ : Gm R} {sl sl' : List SV} {tm : List (V × D)} {ow : List (Addr × MO)} {g : R.α} {σ σ' : L2.St} {H H' : Hp} {ι : Type} {X : ι → Cx} {E : XK}
/-! ## a, b, c = x, y, z -/
def sPar3 (i j l : Nat) (f : FA R) : FS R := fun sl g => (f sl g).toS fun ds g => match ds with
  | [x, y, z] => .nx (((sl.set i (.dat x)).set j (.dat y)).set l (.dat z)) g
  | _ => .bad
theorem es_par3 {i j l : Nat} {x y z : Str} {a b c : Expr} {f : FA R} {px py pz pt : Pos} {kt k2 pt2 pos} (h : EA X E Γ [a, b, c] f) (ps : ∀ {ta} k, PA (X k) [a, b, c] ta → PS (X k) (.Assign [.Tuple [.Name x px, .Name y py, .Name z pz] kt pt] (.Tuple [a, b, c] k2 pt2) pos) (tPar3 i j l ta)) :
    ES X E Γ (.Assign [.Tuple [.Name x px, .Name y py, .Name z pz] kt pt] (.Tuple [a, b, c] k2 pt2) pos) (sPar3 i j l f) := by
  obtain ⟨t, p, s⟩ := h
  refine ⟨_, fun k => ps k (p k), fun sl tm ow g σ H Dn S h => ?_⟩
  unfold sPar3 at h
  refine s sl tm ow g σ H _ S ?_
  cases e : f sl g with
  | bad => rw [e] at h; exact h
  | err C fs g' => rw [e] at h; exact OkX.of h
  | ok ds g' =>
    rw [e] at h
    dsimp only [toS_ok] at h
    intro vs H1 S1 d1
    split at h
    · rename_i x y z
      cases d1 with
      | cons a r =>
        cases r with
        | cons b r =>
          cases r with
          | cons c r =>
            cases r
            have S2 := (((S1.push a).push b).push c).setD (i := i) a
            have S3 := S2.setD (i := j) S2.pop.top
            have S4 := S3.setD (i := l) S3.top
            exact ⟨_, _, _, rfl, h _ _ S4.pop.pop.pop⟩
    · exact h.elim
theorem ed_ownB {C : Addr} {F : FF R} {op : Operator} {pos : Pos} {a b : Expr} {fa fb : FE R} (ha : ED X E Γ a fa) (hb : ED X E Γ b fb)
    (pe : ∀ {ta tb} j, PE (X j) a ta → PE (X j) b tb → PE (X j) (.BinOp a op b pos) (tOp (rOwn C (spD R Γ.K 2 F) E) ta tb)) : ED X E Γ (.BinOp a op b pos) (fOwn C (F Γ.ix) fa fb) := ed_own ha hb pe
theorem ed_ownU {C : Addr} {F : FF R} {pos : Pos} {a : Expr} {fa : FE R} (ha : ED X E Γ a fa)
    (pe : ∀ {ta} j, PE (X j) a ta → PE (X j) (.UnaryOp .USub a pos) (tUn (rOwn1 C (spD R Γ.K 1 F) E) ta)) : ED X E Γ (.UnaryOp .USub a pos) (fOwn1 C (F Γ.ix) fa) := ed_own1 ha pe
end
end DL

set_option maxHeartbeats 4000000
namespace DL
open PySem PySem.Spec PyProof.Rows L2
/-! ## for a, b in zip(x, y): lists and tuples, mixed -/
theorem turn_zipP {P : Program} {w : World} {K : PySem.W.Frag} {elts : List Expr} {kk : Nat} {tp : Pos} {z TI TO : Addr} {its : List (Addr × Sq)} (D : ZA z TI TO its) (ne : its ≠ []) (hl : its.length ≤ 100000) :
    Turn P w K (.Tuple elts kk tp) (ItzN K (its.map Prod.snd)) (z :: TI :: TO :: its.map Prod.fst) z (fun i h => ZN h z TI TO its i ∧ ∃ f1, ZipF h z TI TO .none f1) where
  mem := by simp
  obj := fun i h st c hc => by
    obtain ⟨⟨⟨f0, f1, hz, _⟩, hTI, ⟨vs, hTO, _⟩, hi⟩, _⟩ := st
    rcases List.mem_cons.mp hc with q | hc
    · rw [q]; exact ⟨_, hz, fun v q => nomatch q⟩
    rcases List.mem_cons.mp hc with q | hc
    · rw [q]; exact ⟨_, hTI, fun v q => nomatch q⟩
    rcases List.mem_cons.mp hc with q | hc
    · rw [q]; exact ⟨_, hTO, fun v q => nomatch q⟩
    obtain ⟨p, mp, q⟩ := List.mem_map.mp hc
    obtain ⟨o, vs, e, d⟩ := (hi p mp).obj
    rw [← q]
    exact ⟨o, e, fun v q => by rw [d] at q; cases q⟩
  keep := fun i h h' st k => by
    obtain ⟨⟨⟨f0, f1, hz, h0⟩, hTI, ⟨vs, hTO, hv⟩, hi⟩, f2, hz2⟩ := st
    refine ⟨?_, f2, k z (by simp) _ hz2⟩
    exact ⟨⟨f0, f1, k z (by simp) _ hz, h0⟩, k TI (by simp) _ hTI, ⟨vs, k TO (by simp) _ hTO, hv⟩, fun p m => (hi p m).at fun o q => k p.1 (by simp only [List.mem_cons]; exact .inr (.inr (.inr (List.mem_map_of_mem m)))) o q⟩
  item := by
    intro X hP hw hK hc i pins s σ H E I hf st hg
    subst hP hw hK
    obtain ⟨st, zn⟩ := st
    obtain ⟨f, hg⟩ := hg
    have nz : ∀ c ∈ z :: TI :: TO :: its.map Prod.fst, c < s.heap.objs.size := fun c hc => by
      obtain ⟨⟨f0, f1, hz, _⟩, hTI, ⟨vs, hTO, _⟩, hi⟩ := st
      rcases List.mem_cons.mp hc with q | hc
      · rw [q]; exact Heap.lt_size hz
      rcases List.mem_cons.mp hc with q | hc
      · rw [q]; exact Heap.lt_size hTI
      rcases List.mem_cons.mp hc with q | hc
      · rw [q]; exact Heap.lt_size hTO
      obtain ⟨p, mp, q⟩ := List.mem_map.mp hc
      obtain ⟨o, vs, e, d⟩ := (hi p mp).obj
      rw [← q]
      exact Heap.lt_size e
    have col : ∃ val : Addr × Sq → Value, ∃ vv : Addr × Sq → V, ∀ p ∈ its, (∃ xs, IsSq s.heap p.2 xs ∧ xs[i]? = some (val p)) ∧ RelV (vv p) (val p) ∧ (f p.2)[i]? = some (vv p) := by
      have one : ∀ p ∈ its, ∃ (a : Value) (b : V), (∃ xs, IsSq s.heap p.2 xs ∧ xs[i]? = some a) ∧ RelV b a ∧ (f p.2)[i]? = some b := fun p m => by
        obtain ⟨sq, hi⟩ := hg p.2 (List.mem_map_of_mem m)
        obtain ⟨us, rv, t⟩ := sq_inv I sq
        have hx : (f p.2)[i]? = some (f p.2)[i] := List.getElem?_eq_getElem hi
        obtain ⟨u, hu, ru⟩ := rv.get hx
        exact ⟨u, _, ⟨us.toArray, t, by simpa using hu⟩, ru, hx⟩
      refine ⟨fun p => if h : p ∈ its then (one p h).choose else .none, fun p => if h : p ∈ its then (one p h).choose_spec.choose else .non, fun p m => ?_⟩
      have e := (one p m).choose_spec.choose_spec
      simp only [dif_pos m]
      exact e
    obtain ⟨val, vv, col⟩ := col
    refine zn_item D st ne hl (fun p m => (col p m).1) fun h1 st1 hf1 hT1 hsz hk1 => ⟨_, rfl, wpAny_letOwnedTupleGo_zip (s := { s with heap := h1 }) (hf1 zn) fun h' z' sb => ?_⟩
    have zl : z < s.heap.objs.size := nz z (by simp)
    have hT : TupV h' s.heap.objs.size (its.map val).toArray := (sb.2 _ (Nat.ne_of_gt zl)).trans hT1
    have hk : ∀ c o, c ≠ z → c ≠ TO → c ∉ its.map Prod.fst → s.heap.get? c = some o → h'.get? c = some o := fun c o a b d e => (sb.2 _ a).trans (hk1 c o a b d e)
    have st' : ZN h' z TI TO its (i + 1) := by
      obtain ⟨_, b1, ⟨vs1, b2, b3⟩, b4⟩ := st1
      exact ⟨⟨_, _, z', .inl rfl⟩, (sb.2 _ D.TIz).trans b1, ⟨vs1, (sb.2 _ D.TOz).trans b2, b3⟩, fun p m => (b4 p m).at fun o e => (sb.2 _ (D.it p m).1).trans e⟩
    have rv : Vals (its.map vv) (its.map val) := by
      have : ∀ l : List (Addr × Sq), (∀ p ∈ l, p ∈ its) → Vals (l.map vv) (l.map val) := fun l => by
        induction l with
        | nil => exact fun _ => .nil
        | cons p l ih => exact fun h => .cons (col p (h p List.mem_cons_self)).2.1 (ih fun q m => h q (List.mem_cons_of_mem _ m))
      exact this its fun p m => m
    have new : ObjOk X.prog X.w (upd H s.heap.objs.size (.tup (its.map vv))) h' s.heap.objs.size (.tup (its.map vv)) :=
      ⟨by rw [List.length_map]; exact lim_ok hl, its.map val, rv, ⟨_, hT, rfl, _, rfl⟩⟩
    have I1 : Inv X pins σ (upd H s.heap.objs.size (.tup (its.map vv))) { s with heap := h' } :=
      I.turnedNew (t' := s.toks) (ch := z :: TI :: TO :: its.map Prod.fst) (fun c o hb q => hk c o (fun q' => hb (by simp [q'])) (fun q' => hb (by simp [q'])) (fun q' => hb (List.mem_cons_of_mem _ (List.mem_cons_of_mem _ (List.mem_cons_of_mem _ q')))) q) hf (Nat.le_refl _) new
    refine ⟨.ref s.heap.objs.size, _, I1, rfl, ⟨_, its.map vv, rfl, I.hok.fresh (Nat.le_refl _), rfl, by rw [List.length_map, List.length_map], fun j l xs ej sq => ?_⟩, ⟨st', _, z'⟩, fun c hcm => ?_⟩
    · rw [List.getElem?_map] at ej
      cases ep : its[j]? with
      | none => rw [ep] at ej; cases ej
      | some p =>
        rw [ep] at ej
        cases ej
        have mp := List.mem_of_getElem? ep
        have e := sq_inj I sq (hg p.2 (List.mem_map_of_mem mp)).1
        subst e
        exact ⟨vv p, (col p mp).2.2, by rw [List.getElem?_map, ep]; rfl⟩
    · rw [upd_ne (Nat.ne_of_lt (nz c hcm))]
      exact (hf c hcm).1
  done := by
    intro X hP hw hK hc i pins s σ H E I hf st hg
    subst hP hw hK
    cases its with
    | nil => exact absurd rfl ne
    | cons p its =>
      obtain ⟨l, r, xs, el, sq, hle⟩ := hg
      cases el
      obtain ⟨us, rv, t⟩ := sq_inv I sq
      have hlen := rv.length
      exact zn_stop (I.ok.hd hc) D st.1 t (by simp; omega) fun h' hk => ⟨rfl, I.turnedL (t' := s.toks) (ch := z :: TI :: TO :: (p :: its).map Prod.fst) (fun c o hb q =>
        hk c o (fun q' => hb (by simp [q'])) (fun q' => hb (by simp [q'])) (fun q' => hb (List.mem_cons_of_mem _ (List.mem_cons_of_mem _ (List.mem_cons_of_mem _ q')))) q) hf⟩
  self := fun A i s Q E st h => by
    obtain ⟨⟨⟨f0, f1, hz, _⟩, _⟩, _⟩ := st
    have hT : s.TypeIs (.ref z) "zip" := ⟨_, hz, rfl⟩
    refine wpAny_pyIter_slot hT F.slot_zip_iter (wpAny_call_entry F.slot_zip_iter hT F.entry_zip_iter ?_ (F.args_zip_iter_1 _))
    show wpAny _ _ (ret (.ref z)) _ _ s
    exact wpAny_pure ⟨_, rfl, "zip", _, hT, F.slot_zip_next.lookup, h⟩
def iZip2 (K : PySem.W.Frag) (ta : TA) : TI := fun σ H R => ta σ H fun vs H1 => ∃ (p q : Sq) (xs ys : List V), vs = [V.ref p.1, V.ref q.1] ∧ SqA K H1 p xs ∧ SqA K H1 q ys ∧ R (ItzN K [p, q]) H1
theorem pi_zip2 {X : Cx} {e e2 : Expr} {ta : TA} {p pos tpos : Pos} {elts : List Expr} {kk : Nat} (hg : Gl X "zip") (hm : X.mg "zip" = none) (ha : PA X [e, e2] ta)
    (hs : starEach [e, e2] X.env = (false, eval e X.env) :: starEach [e2] X.env := by rfl) (hpl : (backTo pos (starEach [e2] X.env)).any (·.1) = false := by rfl) :
    PI X (.Tuple elts kk tpos) (.Call (.Name "zip" p) [e, e2] [] pos) (iZip2 X.K ta) := by
  refine ⟨fun pins s σ H R I h => ?_⟩
  refine Call_ (ld_blt I hg hm PyProof.Rows.boot_zip (PyProof.Rows.callWith_type1 (thn (ha.run pos pins s σ H _ I h) fun us s2 ⟨vs, H1, I2, r1, p, q, xs, ys, ev, sp, sq, hR⟩ => ?_) hs hpl))
  subst ev
  have eu : us = ([p, q] : List Sq).map fun l => Value.ref l.1 := by
    cases r1 with
    | cons r rr =>
      cases rr with
      | cons r' rr =>
        cases rr
        cases r
        cases r'
        rfl
  rw [eu]
  generalize eqs : ([p, q] : List Sq) = qs at hR ⊢
  have lq : qs.length = 2 := by rw [← eqs]; rfl
  have ht : ∀ l ∈ qs, ∃ xs, IsSq s2.heap l xs := fun l m => by
    rw [← eqs] at m
    rcases List.mem_cons.mp m with rfl | m
    · obtain ⟨its, _, t⟩ := sq_inv I2 sp
      exact ⟨_, t⟩
    · rw [List.mem_singleton.mp m]
      obtain ⟨its, _, t⟩ := sq_inv I2 sq
      exact ⟨_, t⟩
  have hlt : ∀ l ∈ qs, l.1 < s2.heap.objs.size := fun l m => by
    obtain ⟨xs, t⟩ := ht l m
    exact t.lt
  refine call_zipN (by omega) ht fun h' st zn hk => ?_
  have I3 : Inv X pins σ H1 { s2 with heap := h' } := I2.kept (t' := s2.toks) hk
  have D := za_mk (I := s2.heap.objs.size) hlt
  have T := turn_zipP (P := X.prog) (w := X.w) (K := X.K) (elts := elts) (kk := kk) (tp := tpos) D (fun z => by
    have : qs = [] := by rw [← mkIts_snd qs s2.heap.objs.size, z]; rfl
    rw [this] at lq
    cases lq) (by rw [mkIts_len]; omega)
  rw [mkIts_snd] at T
  refine T.self X.A 0 _ _ _ ⟨st, zn⟩ ⟨_, _, _, _, H1, rfl, I3, T, ⟨st, zn⟩, fun c hc => ?_, hR⟩
  have hle : s2.heap.objs.size ≤ c := by
    have t0 : ∀ a b : Nat, a ≤ a + b + 2 ∧ a ≤ a + b ∧ a ≤ a + b + 1 := by intro a b; omega
    obtain ⟨z1, z2, z3⟩ := t0 s2.heap.objs.size qs.length
    rcases List.mem_cons.mp hc with z | hc
    · rw [z]; exact z1
    rcases List.mem_cons.mp hc with z | hc
    · rw [z]; exact z2
    rcases List.mem_cons.mp hc with z | hc
    · rw [z]; exact z3
    rw [mkIts_fst, List.mem_range'_1] at hc
    exact hc.1
  exact I2.fpOk hle (I2.hok.fresh hle)
section
variable {R : Rs} {Γ : Gm R} {sl sl' : List SV} {tm : List (V × D)} {ow : List (Addr × MO)} {g : R.α} {σ σ' : L2.St} {H H' : Hp} {ι : Type} {X : ι → Cx} {E : XK}
def seqD : D → Option (Bool × List D)
  | .lst l => some (true, l)
  | .tup l => some (false, l)
  | _ => none
def iZ2 (f : FA R) : FA R := fun sl g => (f sl g).bind fun ds g => match ds with
  | [x, y] => match seqD x, seqD y with
    | some (_, a), some (_, b) => if a.length = b.length then .ok ((List.range a.length).map fun j => .tup ([a, b].map fun x => (x[j]?).getD .non)) g else .bad
    | _, _ => .bad
  | _ => .bad
theorem seq_of {K : PySem.W.Frag} {av : Addr → Prop} {v : V} {d : D} {b : Bool} {l : List D} (h : Dt K av H v d) (e : seqD d = some (b, l)) : ∃ a, v = .ref a ∧ d = dOf b l := by
  cases h <;> first | (cases e; done) | skip
  · cases e; exact ⟨_, rfl, rfl⟩
  · cases e; exact ⟨_, rfl, rfl⟩
theorem ei_zip2 {tg iter e e2 : Expr} {f : FA R} (pi : ∀ {ta} j, PA (X j) [e, e2] ta → PI (X j) tg iter (iZip2 Γ.K ta)) (h : EA X E Γ [e, e2] f) : EI X E Γ tg iter (iZ2 f) := by
  obtain ⟨t, p, s⟩ := h
  refine ⟨_, fun j => pi j (p j), fun sl tm ow g σ H Rr S h => ?_⟩
  refine s sl tm ow g σ H _ S ?_
  unfold iZ2 at h
  cases ef : f sl g with
  | bad => rw [ef] at h; exact h
  | err C fs g' => rw [ef] at h; exact h
  | ok ds g' =>
    rw [ef] at h
    dsimp only [bind_ok] at h
    intro vs H1 S1 d1
    cases d1 with
    | nil => exact (h : False).elim
    | @cons _ _ x _ da r =>
      cases r with
      | nil => exact (h : False).elim
      | @cons _ _ y _ db r =>
        cases r with
        | cons _ _ => exact (h : False).elim
        | nil =>
          dsimp only at h
          cases ex : seqD x with
          | none => rw [ex] at h; exact (h : False).elim
          | some bx =>
            cases ey : seqD y with
            | none => rw [ex, ey] at h; exact (h : False).elim
            | some cy =>
              obtain ⟨b, a⟩ := bx
              obtain ⟨c, d⟩ := cy
              rw [ex, ey] at h
              dsimp only at h
              by_cases hl : a.length = d.length
              · rw [if_pos hl] at h
                obtain ⟨u, rfl, rfl⟩ := seq_of da ex
                obtain ⟨w, rfl, rfl⟩ := seq_of db ey
                obtain ⟨xs, q1, _⟩ := dt_sq (l := (u, b)) da
                obtain ⟨ys, q2, _⟩ := dt_sq (l := (w, c)) db
                refine ⟨(u, b), (w, c), xs, ys, rfl, q1, q2, h _ _ ((([(u, b), (w, c)] : List Sq).zip [a, d]).map fun p => (V.ref p.1.1, dOf p.1.2 p.2)) (S1.pushAll fun p m => ?_) (wlk_zipN rfl (by simp) fun r m => ?_)⟩
                · rcases List.mem_cons.mp m with rfl | m
                  · exact da
                  · rw [List.mem_singleton.mp m]; exact db
                · rcases List.mem_cons.mp m with rfl | m
                  · rfl
                  · rw [List.mem_singleton.mp m]; exact hl.symm
              · rw [if_neg hl] at h
                exact (h : False).elim
end
end DL

namespace DL
open PySem PySem.Spec PyProof.Rows L2
section
variable {X : Cx} {CXa : CXT} {k : Nat} {f C : Addr} {fd : FuncData} {ps ks : List Str} {sp : Sp} {E : XK} {m : Str} {pos apos : Pos} {o : Expr} {kws : List Keyword} {ta : TE} {tk : TA} {g : List Value → List Value → List Value} {gV : List V → List V → List V}
def tMethK (C : Addr) (m : Str) (sp : Sp) (gV : List V → List V → List V) (E : XK) (ta : TE) (tk : TA) : TE := fun σ H Q => ta σ H fun x H1 => ∃ a dx fs, x = .ref a ∧ H1 a = some (.ins C dx fs) ∧ fs.lookup m = none ∧ tk σ H1 fun zs H2 => sp (gV [.ref a] zs) H2 Q E
theorem pe_methK {pl : Sem Bool} (he : PE X o ta) (c : Cls X.K C) (hm : Meth X.K C m f) (F : FnOk X.prog X.w X.K X.mg X.base CXa k f fd ps sp) (hr : Room k X.A) (hb : KBinds X.K fd ps ks g gV) (hx : Passes CXa X E) (hkw : PK X kws tk)
    (hall : (backToKw pos (keywordEach kws X.env)).all (·.1.isSome) = true := by rfl) (hks : (backToKw pos (keywordEach kws X.env)).filterMap (·.1) = ks := by rfl)
    (hpl : ((backTo pos (starEach [] X.env)).any (·.1) || (backToKw pos (keywordEach kws X.env)).any (·.1.isNone)) = false := by rfl)
    (ht : eval (.Call (.Attribute o m apos) [] kws pos) X.env = (do
      let ov ← eval o X.env
      standAt apos.atName
      let (f, first) ← holding [ov] (getMethod ov m pl)
      callWith pos f first (backTo pos (starEach [] X.env)) (backToKw pos (keywordEach kws X.env))) := by rfl) :
    PE X (.Call (.Attribute o m apos) [] kws pos) (tMethK C m sp gV E ta tk) := by
  refine ⟨fun pins s σ H Q I h => ?_⟩
  refine PySem.W.methodCall_KW (pl := pl) (thn (he.run pins s σ H _ I h) fun u s1 ⟨x, H1, I1, rx, a, dx, fs, ex, ea, l, q⟩ => ?_) ht
  subst ex
  obtain rfl : u = Value.ref a := rx
  refine getmeth_ok I1 ea c hm l ?_
  refine PySem.W.callWith_KW0 (first := [.ref a]) (h₀ := X.base) I.ok.mod.kin hm.kp hall ?_ hpl
  refine thn (hkw.run pos pins s1 σ H1 _ I1 q) fun ws s2 ⟨zs, H2, I2, rz, q2⟩ => ⟨I2.kIn, ?_⟩
  rw [hks]
  exact run_fnk (us := [.ref a]) (vs := [.ref a]) F hr hb hx I2 (.cons rfl .nil) rz q2
end

section
variable {R : Rs} {Γ : Gm R} {ι : Type} {X : ι → Cx} {E : XK}
/-- o.m(x=e), by the class's method, with one keyword alone -/
theorem ed_methK {C : Addr} {n : Nat} {F : FF R} {m : Str} {o e : Expr} {apos pos kpos : Pos} {nm : Option Str} {fo fe : FE R} {gV : List V → List V → List V} (ho : ED X E Γ o fo) (he : ED X E Γ e fe) (hg : ∀ a z, gV [a] [z] = [a, z])
    (pe : ∀ {to te} j, PE (X j) o to → PE (X j) e te → PE (X j) (.Call (.Attribute o m apos) [] [⟨nm, e, kpos⟩] pos) (tMethK C m (spD R Γ.K n F) gV E to (tCons te tNil))) : ED X E Γ (.Call (.Attribute o m apos) [] [⟨nm, e, kpos⟩] pos) (fMeth C n (F Γ.ix) [] m fo (fCons fe fNil)) := by
  obtain ⟨to, po, so⟩ := ho
  obtain ⟨te, pe', se⟩ := he
  refine ⟨_, fun j => pe j (po j) (pe' j), fun sl tm ow g σ H Q S h => ?_⟩
  unfold fMeth at h
  refine so sl tm ow g σ H _ S ?_
  cases e1 : fo sl g with
  | bad => rw [e1] at h; exact h
  | err C fs g' => rw [e1] at h; exact h
  | ok d g' =>
    rw [e1] at h
    dsimp only [bind_ok] at h
    intro v H1 S1 d1
    cases d1 with
    | obj ha nav hf =>
      rename_i a C' dx xs ds
      dsimp only at h
      by_cases hc : C' = C ∧ ds.lookup m = none
      · rw [if_pos hc] at h
        obtain ⟨rfl, hm⟩ := hc
        refine ⟨a, dx, xs, rfl, ha, (hf.look (x := m)).1 hm, ?_⟩
        refine se sl ((.ref a, .obj C' ds) :: tm) ow g' σ H1 _ (S1.push (.obj ha nav hf)) ?_
        unfold fCons fNil at h
        cases e2 : fe sl g' with
        | bad => rw [e2] at h; exact h
        | err C fs g2 => rw [e2] at h; exact fun y H2 S2 x2 => h y H2 S2.pop x2
        | ok d2 g2 =>
          rw [e2] at h
          dsimp only [bind_ok] at h
          intro v2 H2 S2 d3
          by_cases hn : (D.obj C' ds :: ([d2] ++ [])).length = n
          · rw [if_pos hn] at h
            show (spD R Γ.K n F) (gV [.ref a] [v2]) H2 Q E
            rw [hg]
            exact spD_call S2.pop (.cons S2.top (.cons d3 .nil)) hn h
          · rw [if_neg hn] at h
            exact h.elim
      · rw [if_neg hc] at h
        exact h.elim
    | _ => exact h.elim
end
end DL

namespace DL
open PySem PySem.Spec PyProof.Rows L2
section
variable {R : Rs} {Γ : Gm R} {ι : Type} {X : ι → Cx} {E : XK}
/-- xs[:i], of a list -/
def fSlTo (fa fi : FE R) : FE R := fun sl g => (fa sl g).bind fun d g => (fi sl g).bind fun e g => match d, e with
  | .lst ds, .int i => if 0 ≤ i then .ok (.lst (ds.take i.toNat)) g else .bad
  | _, _ => .bad
theorem cut_take {xs : List V} {i : Int} (h : 0 ≤ i) : cutV xs none (some i) = xs.take i.toNat := by
  have e : HT.sIx xs.length xs.length (some i) = min i.toNat xs.length := by
    show (if i < 0 then (i + (xs.length : Int)).toNat else min i.toNat xs.length) = _
    rw [if_neg (by omega)]
  show (xs.drop (HT.sIx xs.length 0 none)).take (HT.sIx xs.length xs.length (some i) - HT.sIx xs.length 0 none) = _
  rw [e, show HT.sIx xs.length 0 none = 0 from rfl, List.drop_zero, Nat.sub_zero]
  by_cases q : i.toNat ≤ xs.length
  · rw [Nat.min_eq_left q]
  · rw [Nat.min_eq_right (by omega), List.take_of_length_le (Nat.le_refl _), List.take_of_length_le (by omega)]
theorem DtAll.takeN {K : PySem.W.Frag} {av : Addr → Prop} {H : Hp} : ∀ {vs : List V} {ds : List D} (n : Nat), DtAll K av H vs ds → DtAll K av H (vs.take n) (ds.take n)
  | _, _, 0, _ => .nil
  | _, _, _ + 1, .nil => .nil
  | _, _, n + 1, .cons h t => .cons h (t.takeN n)
theorem ed_slTo {a i : Expr} {fa fi : FE R} {p2 pos : Pos} (ha : ED X E Γ a fa) (hi : ED X E Γ i fi)
    (pe : ∀ {ta ti} j, PE (X j) a ta → PE (X j) i ti → PE (X j) (.Subscript a (.Slice none (some i) none p2) pos) (tSl (rSlL Γ.K) ta tNoPart (tPart ti))) : ED X E Γ (.Subscript a (.Slice none (some i) none p2) pos) (fSlTo fa fi) := by
  obtain ⟨ta, pa, sa⟩ := ha
  obtain ⟨tb, pb, sb⟩ := hi
  refine ⟨_, fun j => pe j (pa j) (pb j), fun sl tm ow g σ H Q S h => ?_⟩
  unfold fSlTo at h
  refine sa sl tm ow g σ H _ S ?_
  cases ea : fa sl g with
  | bad => rw [ea] at h; exact h
  | err C fs g1 => rw [ea] at h; exact h
  | ok x g1 =>
    rw [ea] at h
    intro v H1 S1 d1
    show tPart tb σ H1 fun u H3 => rSlL Γ.K v none u H3 Q
    refine sb sl ((v, x) :: tm) ow g1 σ H1 _ (S1.push d1) ?_
    dsimp only [bind_ok] at h
    cases eb : fi sl g1 with
    | bad => rw [eb] at h; exact h
    | err C fs g2 => rw [eb] at h; exact fun y H2 S2 x2 => h y H2 S2.pop x2
    | ok y g2 =>
      rw [eb] at h
      dsimp only [bind_ok] at h
      intro u H2 S2 d2
      have d1' := S2.top
      split at h
      · rename_i ds i
        by_cases hi : 0 ≤ i
        · rw [if_pos hi] at h
          cases d2
          cases d1' with
          | lst q r =>
            refine ⟨i, rfl, _, _, rfl, q.seq, fun p hp => ?_⟩
            rw [cut_take hi]
            have S3 := S2.pop.newL (r.takeN i.toNat) hp
            exact h _ _ S3.pop S3.top
        · rw [if_neg hi] at h
          exact h.elim
      · exact h.elim
theorem r_slTo {sl : List SV} {g g1 g2 : R.α} {fa fi : FE R} {ds : List D} {i : Int} (ha : fa sl g = .ok (.lst ds) g1) (hi : fi sl g1 = .ok (.int i) g2) (h : 0 ≤ i) : fSlTo fa fi sl g = .ok (.lst (ds.take i.toNat)) g2 := by
  unfold fSlTo
  rw [ha, bind_ok, hi, bind_ok]
  exact if_pos h
end
end DL

set_option maxHeartbeats 4000000
namespace PySem
namespace VK
open PySem.W PySem.Calls PyProof.Rows
/-! ## an own error whose __init__ says super().__init__('..') and stores one field -/
def iA (x : Str) (p1 p2 : Pos) : Arguments := { posonlyargs := [], args := [{ arg := "self", annotation := none, pos := p1 }, { arg := x, annotation := none, pos := p2 }], vararg := none, kwonlyargs := [], kw_defaults := [], kwarg := none, defaults := [] }
def iSup (msg : Str) (j : Nat) (a1 a2 a3 a4 a5 a6 : Pos) : Stmt := .Expr (.Call (.Attribute (.Call (.Name "super" a1) [] [] a2) "__init__" a3) [.Constant (.str msg) 0 a4] [] a5) a6
def iB (msg x : Str) (a1 a2 a3 a4 a5 a6 b1 b2 b3 b4 : Pos) : List Stmt := [.Expr (.Call (.Attribute (.Call (.Name "super" a1) [] [] a2) "__init__" a3) [.Constant (.str msg) 0 a4] [] a5) a6, .Assign [.Attribute (.Name "self" b1) x b2] (.Name x b3) b4]
def iS (x : Str) : Scope := { kind := .function, names := [(PySem.Str.ofString "self", .local), (x, .local), (PySem.Str.ofString "__class__", .free), (PySem.Str.ofString "super", .globalImplicit)], isGenerator := false, isCoroutine := false, more := [] }
/-- no field -/
def iA0 (p1 : Pos) : Arguments := { posonlyargs := [], args := [{ arg := "self", annotation := none, pos := p1 }], vararg := none, kwonlyargs := [], kw_defaults := [], kwarg := none, defaults := [] }
def iB0 (msg : Str) (a1 a2 a3 a4 a5 a6 : Pos) : List Stmt := [.Expr (.Call (.Attribute (.Call (.Name "super" a1) [] [] a2) "__init__" a3) [.Constant (.str msg) 0 a4] [] a5) a6]
def iS0 : Scope := { kind := .function, names := [(PySem.Str.ofString "self", .local), (PySem.Str.ofString "__class__", .free), (PySem.Str.ofString "super", .globalImplicit)], isGenerator := false, isCoroutine := false, more := [] }

/-- what the written part says of the class at C over the built-in B -/
structure XCls (P : Program) (K : Frag) (B i newId : String) (bmB : List Value) (C : Addr) : Prop where
  ini : excInitIn K C bmB newId = true
  ovr : excOver K C bmB = true
  hsd : hasDictIn K C = true
  sat : findIn K (.ref C) "__setattr__" = some (some (.builtin "object.__setattr__"))
  gat : findIn K (.ref C) "__getattribute__" = some (some (.builtin "BaseException.__getattribute__"))
  gga : findIn K (.ref C) "__getattr__" = some none
  cla : findIn K (.ref C) "__class__" = some (some (.builtin "object.__class__"))
  sBE : subIn K (.ref C) (.type "BaseException") = some true
  sBB : subIn K (.ref C) (.type B) = some true
  tyC : typeIn K (.ref C) = some (.type "type")
  mOb : mroIn K C (.type "object") = some true
  mC : mroIn K C (.ref C) = some true
  kpC : keepIn K (.ref C) = true
  thr : nsIn K cStatics "thirdparty.any" = some none
  sup : ks_superIn K C C "__init__" = some (some (.builtin i))
  spG : specialIn K (.builtin "object.__class__") "__get__" = some (some (.builtin "getset_descriptor.__get__"))
  spT : takesIn K (.builtin "object.__class__") = some true
/-- of its __init__ at fI -/
structure XIni (P : Program) (K : Frag) (C fI : Addr) (qual : Str) (args : Arguments) (body : List Stmt) (sc : Scope) : Prop where
  at_ : findIn K (.ref C) "__init__" = some (some (.ref fI))
  fn : isFn K (.ref fI) = true
  lk : ∃ (oc : Value) (od : Option Addr) (kV doc pm : Value) (an : Option Addr) (cda cc : Addr) (ct : Value) (osl : Array (Option Value)),
    K.lookup fI = some ⟨oc, od, .func (ksFn "__init__" qual args body sc .none kV doc pm an (.ref cda) ct cc), osl⟩ ∧ codeIn K (.ref cda) qual = true ∧
    (∃ ccl cdd vs ccs file tf, K.lookup cda = some ⟨ccl, cdd, .fields vs, ccs⟩ ∧ vs[2]? = some (.str file tf) ∧ ((P.main.file : Str) == file) = true) ∧
    ∃ cl cld csl, K.lookup cc = some ⟨cl, cld, .cell (some (.ref C)), csl⟩

section
variable {prog : Program} {w : World} {A : Around} {R : Result → Shared → Prop} {s : Shared} {K : Frag} {B i newId : String} {bmB : List Value} {C fI : Addr} {qual msg x : Str}
open Builtin Builtin.ObjectAttr
/-- the first field stored into an error of any of these classes -/
theorem set_first {E : Value → Shared → Prop} {e t : Addr} {v : Value} {Q : Unit → Shared → Prop} (SF : StoreFacts B bmB "object.__setattr__" "object") (T : XCls prog K B i newId bmB C) (X : K.In s.heap) (hno : takerIn K C x = some none)
    (he : s.heap.get? e = some (excObj C t none .none))
    (hq : ∀ h' tk' dx, (∀ b o, b ≠ e → s.heap.get? b = some o → h'.get? b = some o) → s.heap.objs.size ≤ dx → dx ≠ e → h'.get? e = some (excObj C t (some dx) .none) →
      h'.Ns1 dx (fun y => if y = x then some v else none) → Q () { s with heap := h', toks := tk' }) : wpAny (model prog w) A (setAttr (.ref e) x v) Q E s := by
  obtain ⟨hp, g, d, tk, os⟩ := s
  have hes : e ≠ hp.objs.size := Nat.ne_of_lt (Heap.lt_size he)
  refine set_plain (od := none) X ⟨he, rfl, rfl, trivial⟩ T.sat ?_
  refine osa_openX (od := none) (ox := excObj C t none .none) SF X ⟨he, rfl, rfl, trivial⟩ T.ovr hno fun b => ?_
  show wpAny _ _ (storeInOwnDict (.ref e) (.ref C) (.str x tk) x v b) _ _ _
  obtain ⟨cd, hc, hd'⟩ := any_some T.hsd
  have hcls : Looks (model prog w) hp (classData C) cd := looks_clsIn X hc
  obtain ⟨nm, bs, mro, ns, qn, hd, sn, sb, ab, col, del⟩ := cd
  dsimp only at hd'
  subst hd'
  unfold storeInOwnDict ownDictForStores
  repeat (first | with_reducible refine PySem.PX.store_in_new ?_ ?_ | with_reducible refine wpAny_loadPart_at he ?_ | with_reducible refine hcls.at ?_ | wp_step)
  · exact ⟨_, #[], _, (Heap.get?_update_ne _ _ _ _ hes.symm).trans (Heap.get?_push_at rfl rfl), rfl, fun e he => absurd he (by simp), fun _ => rfl⟩
  · intro h' tk' hn' hs
    have he1 : (hp.push { cls := .type "dict", data := .dict #[] }).get? e = some (excObj C t none .none) := Heap.get?_push_of_some _ he
    refine hq h' tk' hp.objs.size (fun b o hb ho => ?_) (Nat.le_refl _) hes.symm ?_ hn'
    · exact (hs.2 b (Nat.ne_of_lt (Heap.lt_size ho))).trans ((Heap.get?_update_ne _ _ _ _ hb).trans (Heap.get?_push_of_some _ ho))
    · exact (hs.2 e hes).trans (Heap.get?_update_self _ he1 rfl)
end
end VK
end PySem

set_option maxHeartbeats 4000000
namespace PySem
namespace VK
open PySem.W PySem.Calls PyProof.Rows
def supPl (env : Env) (a1 a2 : Pos) : Sem Bool := (do return (← importBound (.Call (.Name "super" a1) [] [] a2) env).getD true)
theorem sup_ev (env : Env) (msg : Str) (a1 a2 a3 a4 a5 : Pos) (hp : (a3.endLine == a5.line) = true) : eval (.Call (.Attribute (.Call (.Name "super" a1) [] [] a2) "__init__" a3) [.Constant (.str msg) 0 a4] [] a5) env = (do
      let ov ← attributeBase (.Call (.Name "super" a1) [] [] a2) "__init__" env (eval (.Call (.Name "super" a1) [] [] a2) env)
      standAt a3.atName
      let (f, first) ← holding [ov] (getMethod ov "__init__" (supPl env a1 a2))
      callWith a5 f first (backTo a5 (starEach [.Constant (.str msg) 0 a4] env)) []) := by
  have h : methodCallPos true (.Call (.Name "super" a1) [] [] a2) env a3 a5 = pure a5 := by
    unfold methodCallPos
    rw [hp]
    rfl
  show (do
      let ov ← attributeBase (.Call (.Name "super" a1) [] [] a2) "__init__" env (eval (.Call (.Name "super" a1) [] [] a2) env)
      standAt a3.atName
      methodCall (.Call (.Name "super" a1) [] [] a2) "__init__" a3 a5 env ov 1 (backTo a5 (starEach [.Constant (.str msg) 0 a4] env)) []) = _
  unfold methodCall
  show (do
      let ov ← attributeBase (.Call (.Name "super" a1) [] [] a2) "__init__" env (eval (.Call (.Name "super" a1) [] [] a2) env)
      standAt a3.atName
      let (f, first) ← holding [ov] (getMethod ov "__init__" (supPl env a1 a2))
      let callPos ← methodCallPos true (.Call (.Name "super" a1) [] [] a2) env a3 a5
      callWith callPos f first (backTo a5 (starEach [.Constant (.str msg) 0 a4] env)) []) = _
  rw [h]
  rfl
section
variable {prog : Program} {w : World} {A : Around} {R : Result → Shared → Prop} {s : Shared} {K : Frag} {B i newId : String} {bmB : List Value} {C fI : Addr} {qual msg x : Str} {p1 p2 a1 a2 a3 a4 a5 a6 b1 b2 b3 b4 : Pos}
/-- what __init__ leaves: all that stood but e stands, e has its dict with the field -/
structure IniEnd (h h' : Heap) (e C : Addr) (x : Str) (v : Value) : Prop where
  keep : ∀ b o, b ≠ e → h.get? b = some o → h'.get? b = some o
  obj : ∃ t dx, h'.get? e = some (excObj C t (some dx) .none) ∧ h.objs.size ≤ dx ∧ dx ≠ e ∧ h'.Ns1 dx (fun y => if y = x then some v else none)
/-- what lies around a call: the written part, the module's names -/
structure Arnd (prog : Program) (K : Frag) (h : Heap) : Prop where
  kin : K.In h
  glo : ∃ mg, h.Ns mainGlobals mg ∧ mg "super" = none
  blt : ∃ mb, h.Ns builtinsNs mb ∧ mb "super" = some (.type "super")
  lim : h.NoLimit
  nosup : (prog.main.scope.names.lookup ("super" : Str)).isSome = false
theorem Arnd.keeps {h h' : Heap} (a : Arnd prog K h) (k : ∀ b o, h.get? b = some o → h'.get? b = some o) : Arnd prog K h' :=
  ⟨a.kin.keeps k, let ⟨m, h1, h2⟩ := a.glo; ⟨m, h1.keeps k, h2⟩, let ⟨m, h1, h2⟩ := a.blt; ⟨m, h1.keeps k, h2⟩, a.lim.keeps k, a.nosup⟩

/-- the super call: super().__init__('..') within the frame at L -/
theorem super_stmt {body : List Stmt} {qn : Str} {sc : Scope} {L cda cc : Addr} {m : Str → Option Value} {g : Heap} {e t : Addr} {env : Env} {P : Flow → Shared → Prop} {E : Value → Shared → Prop}
    (KF : KxsFacts B i) (FB : ExcBaseFacts B newId i bmB) (T : XCls prog K B i newId bmB C) (a : Arnd prog K g) (F : Fr g L s.heap m) (he : s.heap.get? e = some (excObj C t none .none)) (hge : g.objs.size ≤ e) (hne : e ≠ L)
    (henv : env = ksEnv qn sc L fI (.ref cda) cc) (hm : m "self" = some (.ref e))
    (hks : sc.names.lookup ("super" : Str) = some .globalImplicit) (hkc : sc.names.lookup ("__class__" : Str) = some .free) (hka : sc.names.lookup ("self" : Str) = some .local) (hk : sc.kind = .function) (hi : interactive env = false)
    {pl : Sem Bool} (hev : eval (.Call (.Attribute (.Call (.Name "super" a1) [] [] a2) "__init__" a3) [.Constant (.str msg) 0 a4] [] a5) env = (do
      let ov ← attributeBase (.Call (.Name "super" a1) [] [] a2) "__init__" env (eval (.Call (.Name "super" a1) [] [] a2) env)
      standAt a3.atName
      let (f, first) ← holding [ov] (getMethod ov "__init__" pl)
      callWith a5 f first (backTo a5 (starEach [.Constant (.str msg) 0 a4] env)) []))
    {oc : Value} {od : Option Addr} {fd : FuncData} {osl : Array (Option Value)} {ar : Arg} (hf : K.lookup fI = some ⟨oc, od, .func fd, osl⟩) (hp : (fd.params.posonlyargs ++ fd.params.args).head? = some ar) (har : ar.arg = "self")
    (hcode : ∃ ccl cdd vs ccs file tf, K.lookup cda = some ⟨ccl, cdd, .fields vs, ccs⟩ ∧ vs[2]? = some (.str file tf) ∧ ((prog.main.file : Str) == file) = true) (hcell : ∃ cl cld csl, K.lookup cc = some ⟨cl, cld, .cell (some (.ref C)), csl⟩)
    (hq : ∀ t' h' tk', Fr g L h' m → h'.get? e = some (excObj C t' none .none) → P .next { s with heap := h', toks := tk' }) :
    _root_.PySem.wpAt (model prog w) A (.func body env) (exec (.Expr (.Call (.Attribute (.Call (.Name "super" a1) [] [] a2) "__init__" a3) [.Constant (.str msg) 0 a4] [] a5) a6) env) P E s := by
  subst henv
  obtain ⟨ccl, cdd, vs, ccs, file, tf, hcd, hvs, hfile⟩ := hcode
  obtain ⟨cl, cld, csl, hcc⟩ := hcell
  have X : K.In s.heap := a.kin.keeps F.keep
  obtain ⟨mg, hg, hgs⟩ := a.glo
  obtain ⟨mb, hb, hbs⟩ := a.blt
  have gE : g.get? e = none := Heap.get?_none_of_le hge
  obtain ⟨cdC, hC⟩ := (by obtain ⟨c, h1, _⟩ := any_some T.hsd; exact ⟨c, h1⟩ : ∃ c, clsIn K C = some c)
  obtain ⟨oD, hD1, hD2⟩ : ∃ oD, K.lookup C = some oD ∧ oD.data = .cls cdC := by
    unfold clsIn at hC
    split at hC
    · rename_i c d cd' sl ho
      cases hC
      exact ⟨_, ho, rfl⟩
    · cases hC
  have N0 : News g L s.heap [(e, excObj C t none .none)] := fun p hp => by
    rcases List.mem_cons.mp hp with rfl | hp
    · exact ⟨he, hne, gE⟩
    · cases hp
  refine ks_wpAt_Expr_any (ks_wpAt_MethodCall (pl := pl) ?_ hev) hi
  refine ks_wpAt_super_base (env := ksEnv qn sc L fI (.ref cda) cc) hks hkc rfl rfl (X _ _ hf) rfl hp rfl (X _ _ hcd) rfl hvs hfile a.nosup ?_
  obtain ⟨hh, gg, d, tk, os⟩ := s
  refine ks_loadName_global hk hks (loadGlobal_builtin (env := ksEnv qn sc L fI (.ref cda) cc) (hg.keeps F.keep) hgs (hb.keeps F.keep) hbs ⟨rfl, ?_⟩)
  refine wpAny_loadName_free hk hkc rfl ⟨_, X _ _ hcc, rfl⟩ ?_
  rw [har]
  refine wpAny_loadName_local hk hka F.ns hm ?_
  refine ks_wpAny_isType_cls (X _ _ hD1) hD2 ⟨rfl, ?_⟩
  refine ks_wpAny_call_super (X _ _ hD1) hD2 he rfl (fun c e => nomatch e) (looks_mroIn X T.mC) (fun h1 e1 k1 => ?_)
  obtain ⟨F1, N1, _⟩ := ks_newsPush (s := ⟨hh, gg, d, tk, os⟩) F N0 rfl e1 k1
  refine kxs_method KF F1 a.kin N1 (.head _) (I := ⟨(N1 _ (.tail _ (.head _))).1, rfl, rfl, trivial⟩) (odx := none) T.thr T.sup T.sBB rfl fun q h2 F2 N2 lt2 => ?_
  show wpAny _ _ (callWith _ (.ref q) [] _ []) _ _ _
  refine kxs_callWith1 (i := i) (x := e) N2 (.head _) ?_
  show wpAny _ _ (spliced _) _ _ _
  refine Calls.spliced_cons ?_
  show wpAny _ _ (eval (.Constant (.str msg) 0 a4) _) _ _ _
  refine wpAny_Constant_str ?_
  refine Calls.spliced_nil ⟨kxs_at N2 (.head _), ?_⟩
  have heq : e < q := lt2 _ (.tail _ (.head _))
  have hes : e < hh.objs.size := Heap.lt_size he
  have U : UpdF e (excObj C t none .none) [(q, kxs_mw i e), (hh.objs.size, ks_superObj C e C), (e, excObj C t none .none)] (fun o' => (q, kxs_mw i e) :: (hh.objs.size, ks_superObj C e C) :: (e, o') :: []) :=
    .tail (Nat.ne_of_gt heq) (.tail (Nat.ne_of_gt hes) (.head fun _ z => nomatch z))
  refine kxs_call F2 a.kin N2 FB T.ini (.head _) U (by show 1 ≤ sizeLine; rw [sizeLine_eq]; omega) fun t' h3 F3 N3 _ => ?_
  exact hq t' h3 _ F3 (N3 _ (.tail _ (.tail _ (.tail _ (.head _))))).1

/-- what __init__ of one field leaves -/
structure Ini1 (g h' : Heap) (e C : Addr) (x : Str) (v : Value) : Prop where
  keep : ∀ b o, g.get? b = some o → h'.get? b = some o
  obj : ∃ t dx, h'.get? e = some (excObj C t (some dx) .none) ∧ g.objs.size ≤ dx ∧ dx ≠ e ∧ h'.Ns1 dx (fun y => if y = x then some v else none)
theorem init1 {g : Heap} {e t : Addr} {v : Value} (KF : KxsFacts B i) (FB : ExcBaseFacts B newId i bmB) (SF : StoreFacts B bmB "object.__setattr__" "object") (T : XCls prog K B i newId bmB C)
    (TI : XIni prog K C fI qual (iA x p1 p2) (iB msg x a1 a2 a3 a4 a5 a6 b1 b2 b3 b4) (iS x)) (hno : takerIn K C x = some none) (hx1 : (x == ("self" : Str)) = false) (hx2 : (("__class__" : Str) == x) = false) (hx3 : (("super" : Str) == x) = false) (hx4 : (x == ("__debug__" : Str)) = false) (hpos : (a3.endLine == a5.line) = true)
    (a : Arnd prog K g) (kg : ∀ b o, g.get? b = some o → s.heap.get? b = some o) (hL1 : g.objs.size ≤ s.heap.objs.size) (hge : g.objs.size ≤ e) (he : s.heap.get? e = some (excObj C t none .none)) (hroom : A.depth < recursionLimit)
    {args : Args} (hb : ∀ (kV doc pm : Value) (an : Option Addr) (cda cc : Addr) (ct : Value), bindArgs (ksFn "__init__" qual (iA x p1 p2) (iB msg x a1 a2 a3 a4 a5 a6 b1 b2 b3 b4) (iS x) .none kV doc pm an (.ref cda) ct cc) args = pure [(("self" : Str), .ref e), (x, v)])
    (hq : ∀ h' tk', Ini1 g h' e C x v → R (.ok (.ret .none)) { s with heap := h', toks := tk' }) :
    codeAny (model prog w) A (.call (.ref fI) args) R s := by
  obtain ⟨oc, od, kV, doc, pm, an, cda, cc, ct, osl, hf, hcd, hcode, hcell⟩ := TI.lk
  have X : K.In s.heap := a.kin.keeps kg
  have l1 : (iS x).names.lookup ("self" : Str) = some .local := rfl
  have l2 : (iS x).names.lookup x = some .local := by
    show List.lookup x [(PySem.Str.ofString "self", NameKind.local), (x, .local), (PySem.Str.ofString "__class__", .free), (PySem.Str.ofString "super", .globalImplicit)] = _
    rw [List.lookup_cons, hx1, List.lookup_cons, beq_self_eq_true]
  have l3 : (iS x).names.lookup ("__class__" : Str) = some .free := by
    show List.lookup (PySem.Str.ofString "__class__") [(PySem.Str.ofString "self", NameKind.local), (x, .local), (PySem.Str.ofString "__class__", .free), (PySem.Str.ofString "super", .globalImplicit)] = _
    rw [List.lookup_cons, show (PySem.Str.ofString "__class__" == PySem.Str.ofString "self") = false by decide, List.lookup_cons, hx2, List.lookup_cons, beq_self_eq_true]
  have l4 : (iS x).names.lookup ("super" : Str) = some .globalImplicit := by
    show List.lookup (PySem.Str.ofString "super") [(PySem.Str.ofString "self", NameKind.local), (x, .local), (PySem.Str.ofString "__class__", .free), (PySem.Str.ofString "super", .globalImplicit)] = _
    rw [List.lookup_cons, show (PySem.Str.ofString "super" == PySem.Str.ofString "self") = false by decide, List.lookup_cons, hx3, List.lookup_cons, show (PySem.Str.ofString "super" == PySem.Str.ofString "__class__") = false by decide, List.lookup_cons, beq_self_eq_true]
  refine ks_codeAny_call_defAt (fd := ksFn "__init__" qual (iA x p1 p2) (iB msg x a1 a2 a3 a4 a5 a6 b1 b2 b3 b4) (iS x) .none kV doc pm an (.ref cda) ct cc) (body := iB msg x a1 a2 a3 a4 a5 a6 b1 b2 b3 b4) (binds := [(("self" : Str), .ref e), (x, v)]) hroom (X _ _ hf) rfl (a.lim.keeps kg) (codeRec_of X hcd) rfl ?hb ?hc ?hl (fun h1 hn1 k1 => ?_) rfl rfl rfl
  case hb => exact BindsTo.of_eq (hb _ _ _ _ _ _ _)
  case hc =>
    intro y hy
    rcases List.mem_cons.mp hy with rfl | hy
    · exact nofun
    rcases List.mem_cons.mp hy with rfl | hy
    · exact nofun
    rcases List.mem_cons.mp hy with rfl | hy
    · exact nofun
    rcases List.mem_cons.mp hy with rfl | hy
    · exact nofun
    cases hy
  case hl =>
    intro y hy
    rcases List.mem_cons.mp hy with rfl | hy
    · exact l1
    rcases List.mem_cons.mp hy with rfl | hy
    · exact l2
    cases hy
  have F : Fr g s.heap.objs.size h1 (fun y => ([(("self" : Str), .ref e), (x, v)] : List (Str × Value)).reverse.lookup y) := ⟨hn1, fun b o z => k1 b o (kg b o z), hL1⟩
  have hm1 : ([(("self" : Str), .ref e), (x, v)] : List (Str × Value)).reverse.lookup ("self" : Str) = some (.ref e) := by
    show List.lookup (PySem.Str.ofString "self") [(x, v), (PySem.Str.ofString "self", .ref e)] = _
    rw [List.lookup_cons, show (PySem.Str.ofString "self" == x) = false from by rw [BEq.comm]; exact hx1, List.lookup_cons, beq_self_eq_true]
  have hm2 : ([(("self" : Str), .ref e), (x, v)] : List (Str × Value)).reverse.lookup x = some v := by
    show List.lookup x [(x, v), (PySem.Str.ofString "self", .ref e)] = _
    rw [List.lookup_cons, beq_self_eq_true]
  have hne : e ≠ s.heap.objs.size := Nat.ne_of_lt (Heap.lt_size he)
  refine ks_wpAt_execs_cons ?_
  refine super_stmt (s := { s with heap := h1, toks := s.toks + 2 }) (qn := qual) (sc := iS x) (L := s.heap.objs.size) (cda := cda) (cc := cc) KF FB T a F (k1 _ _ he) hge hne rfl hm1 l4 l3 l1 rfl rfl (sup_ev _ _ _ _ _ _ _ hpos) hf rfl rfl hcode hcell fun t' h2 tk2 F2 E2 => ?_
  show _root_.PySem.wpAt _ _ _ (execs [.Assign [.Attribute (.Name "self" b1) x b2] (.Name x b3) b4] _) _ _ _
  refine wpAt_of_wpAny (wpAny_execs_cons (plainObj_wpAny_Assign_Attribute ?_))
  refine wpAny_Name (wpAny_loadName_local (env := ksEnv qual (iS x) s.heap.objs.size fI (.ref cda) cc) rfl l2 F2.ns hm2 ?_) hx4
  refine wpAny_Name (wpAny_loadName_local (env := ksEnv qual (iS x) s.heap.objs.size fI (.ref cda) cc) rfl l1 F2.ns hm1 ?_)
  refine set_first SF T (a.kin.keeps F2.keep) hno E2 fun h3 tk3 dx k3 dn dne E3 N3 => ?_
  show wpAny _ _ (execs [] _) _ _ _
  have gE : ∀ {b : Addr} {o : Obj}, g.get? b = some o → b ≠ e := fun {b o} z => Nat.ne_of_lt (Nat.lt_of_lt_of_le (Heap.lt_size z) hge)
  have hz : g.objs.size ≤ h2.objs.size := Nat.le_trans F2.above (Nat.le_of_lt F2.ns.lt)
  exact wpAny_execs_nil (hq h3 tk3 ⟨fun b o z => k3 b o (gE z) (F2.keep b o z), ⟨t', dx, E3, Nat.le_trans hz dn, dne, N3⟩⟩)

/-- no field: what stood stands, e has no dict -/
theorem init0 {g : Heap} {e t : Addr} (KF : KxsFacts B i) (FB : ExcBaseFacts B newId i bmB) (T : XCls prog K B i newId bmB C)
    (TI : XIni prog K C fI qual (iA0 p1) (iB0 msg a1 a2 a3 a4 a5 a6) iS0) (hpos : (a3.endLine == a5.line) = true)
    (a : Arnd prog K g) (kg : ∀ b o, g.get? b = some o → s.heap.get? b = some o) (hL1 : g.objs.size ≤ s.heap.objs.size) (hge : g.objs.size ≤ e) (he : s.heap.get? e = some (excObj C t none .none)) (hroom : A.depth < recursionLimit)
    (hq : ∀ h' tk' t', (∀ b o, g.get? b = some o → h'.get? b = some o) → h'.get? e = some (excObj C t' none .none) → R (.ok (.ret .none)) { s with heap := h', toks := tk' }) :
    codeAny (model prog w) A (.call (.ref fI) ⟨[.ref e], []⟩) R s := by
  obtain ⟨oc, od, kV, doc, pm, an, cda, cc, ct, osl, hf, hcd, hcode, hcell⟩ := TI.lk
  have X : K.In s.heap := a.kin.keeps kg
  refine ks_codeAny_call_defAt (fd := ksFn "__init__" qual (iA0 p1) (iB0 msg a1 a2 a3 a4 a5 a6) iS0 .none kV doc pm an (.ref cda) ct cc) (body := iB0 msg a1 a2 a3 a4 a5 a6) (binds := [(("self" : Str), .ref e)]) hroom (X _ _ hf) rfl (a.lim.keeps kg) (codeRec_of X hcd) rfl ?hb ?hc ?hl (fun h1 hn1 k1 => ?_) rfl rfl rfl
  case hb => exact BindsTo.of_eq rfl
  case hc => show ∀ x ∈ iS0.names, x.2 ≠ .cell; decide
  case hl =>
    intro y hy
    rcases List.mem_cons.mp hy with rfl | hy
    · rfl
    cases hy
  have F : Fr g s.heap.objs.size h1 (fun y => ([(("self" : Str), .ref e)] : List (Str × Value)).reverse.lookup y) := ⟨hn1, fun b o z => k1 b o (kg b o z), hL1⟩
  have hm1 : ([(("self" : Str), .ref e)] : List (Str × Value)).reverse.lookup ("self" : Str) = some (.ref e) := by
    show List.lookup (PySem.Str.ofString "self") [(PySem.Str.ofString "self", Value.ref e)] = _
    rw [List.lookup_cons, beq_self_eq_true]
  have hne : e ≠ s.heap.objs.size := Nat.ne_of_lt (Heap.lt_size he)
  refine ks_wpAt_execs_cons ?_
  refine super_stmt (s := { s with heap := h1, toks := s.toks + 1 }) (qn := qual) (sc := iS0) (L := s.heap.objs.size) (cda := cda) (cc := cc) KF FB T a F (k1 _ _ he) hge hne rfl hm1 rfl rfl rfl rfl rfl (sup_ev _ _ _ _ _ _ _ hpos) hf rfl rfl hcode hcell fun t' h2 tk2 F2 E2 => ?_
  show _root_.PySem.wpAt _ _ _ (execs [] _) _ _ _
  exact wpAt_of_wpAny (wpAny_execs_nil (hq h2 tk2 t' F2.keep E2))

/-- a made error of one field: all that stood stands -/
structure Made1 (g h' : Heap) (e C : Addr) (x : Str) (v : Value) : Prop where
  keep : ∀ b o, g.get? b = some o → h'.get? b = some o
  new : g.objs.size ≤ e
  obj : ∃ t dx, h'.get? e = some (excObj C t (some dx) .none) ∧ g.objs.size ≤ dx ∧ dx ≠ e ∧ h'.Ns1 dx (fun y => if y = x then some v else none)
theorem made1 {E : Value → Shared → Prop} {Q : Value → Shared → Prop} {v : Value} (KF : KxsFacts B i) (FB : ExcBaseFacts B newId i bmB) (SF : StoreFacts B bmB "object.__setattr__" "object") (T : XCls prog K B i newId bmB C)
    (TI : XIni prog K C fI qual (iA x p1 p2) (iB msg x a1 a2 a3 a4 a5 a6 b1 b2 b3 b4) (iS x)) (hno : takerIn K C x = some none) (hx1 : (x == ("self" : Str)) = false) (hx2 : (("__class__" : Str) == x) = false) (hx3 : (("super" : Str) == x) = false) (hx4 : (x == ("__debug__" : Str)) = false)
    (hpos : (a3.endLine == a5.line) = true) (a : Arnd prog K s.heap) (hroom : A.depth + 1 < recursionLimit)
    (hb : ∀ (u1 u2 kV doc pm : Value) (an : Option Addr) (cda cc : Addr) (ct : Value), bindArgs (ksFn "__init__" qual (iA x p1 p2) (iB msg x a1 a2 a3 a4 a5 a6 b1 b2 b3 b4) (iS x) .none kV doc pm an (.ref cda) ct cc) ⟨[u1, u2], []⟩ = pure [(("self" : Str), u1), (x, u2)])
    (hq : ∀ h' tk' e, Made1 s.heap h' e C x v → Q (.ref e) { s with heap := h', toks := tk' }) :
    wpAny (model prog w) A (call (.ref C) [v]) Q E s := by
  obtain ⟨nm, N', qn, bs, bm, hdct, sn, sub, ab, col, dd, k0, k1, k2, k3, k5, hC, hT⟩ := excInit_of a.kin T.ini
  obtain ⟨oI, hoI, hcI⟩ : ∃ oI, s.heap.get? fI = some oI ∧ oI.cls = .type "function" := by
    obtain ⟨o, ho, hc⟩ := Option.map_eq_some_iff.mp (show (K.lookup fI).map (·.cls) = some (.type "function") from beq_iff_eq.mp TI.fn)
    exact ⟨o, a.kin _ _ ho, hc⟩
  have hi' : Looks (model prog w) s.heap (typeLookup (.ref C) "__init__") (some (.ref fI)) := looks_findIn a.kin TI.at_
  obtain ⟨hp, gg, d, tk, os⟩ := s
  have kk : ∀ b o, hp.get? b = some o → ((hp.push (kdv_tup [v])).push (PySem.PX.excO C hp.objs.size)).get? b = some o := fun b o e => Heap.get?_push_of_some _ (Heap.get?_push_of_some _ e)
  have hget : ((hp.push (kdv_tup [v])).push (PySem.PX.excO C hp.objs.size)).get? (hp.objs.size + 1) = some (PySem.PX.excO C hp.objs.size) := by heap_get
  refine wpAny_call (PySem.PX.call_own FB hT hC hi' (fun self => exc_bind hoI hcI self) (by show 1 ≤ sizeLine; rw [sizeLine_eq]; omega) ?_)
  refine init1 (s := ⟨(hp.push (kdv_tup [v])).push (PySem.PX.excO C hp.objs.size), gg, d, tk, os⟩) (v := v) (t := hp.objs.size) KF FB SF T TI hno hx1 hx2 hx3 hx4 hpos a kk (show hp.objs.size ≤ _ by rw [Heap.size_push, Heap.size_push]; omega) (Nat.le_succ _) hget hroom (hb _ _) fun h' tk' M => ?_
  exact ⟨rfl, hq h' tk' _ ⟨M.keep, Nat.le_succ _, M.obj⟩⟩
theorem made0 {E : Value → Shared → Prop} {Q : Value → Shared → Prop} (KF : KxsFacts B i) (FB : ExcBaseFacts B newId i bmB) (T : XCls prog K B i newId bmB C)
    (TI : XIni prog K C fI qual (iA0 p1) (iB0 msg a1 a2 a3 a4 a5 a6) iS0) (hpos : (a3.endLine == a5.line) = true) (a : Arnd prog K s.heap) (hroom : A.depth + 1 < recursionLimit)
    (hq : ∀ h' tk' e t', (∀ b o, s.heap.get? b = some o → h'.get? b = some o) → s.heap.objs.size ≤ e → h'.get? e = some (excObj C t' none .none) → Q (.ref e) { s with heap := h', toks := tk' }) :
    wpAny (model prog w) A (call (.ref C) []) Q E s := by
  obtain ⟨nm, N', qn, bs, bm, hdct, sn, sub, ab, col, dd, k0, k1, k2, k3, k5, hC, hT⟩ := excInit_of a.kin T.ini
  obtain ⟨oI, hoI, hcI⟩ : ∃ oI, s.heap.get? fI = some oI ∧ oI.cls = .type "function" := by
    obtain ⟨o, ho, hc⟩ := Option.map_eq_some_iff.mp (show (K.lookup fI).map (·.cls) = some (.type "function") from beq_iff_eq.mp TI.fn)
    exact ⟨o, a.kin _ _ ho, hc⟩
  have hi' : Looks (model prog w) s.heap (typeLookup (.ref C) "__init__") (some (.ref fI)) := looks_findIn a.kin TI.at_
  obtain ⟨hp, gg, d, tk, os⟩ := s
  have kk : ∀ b o, hp.get? b = some o → ((hp.push (kdv_tup [])).push (PySem.PX.excO C hp.objs.size)).get? b = some o := fun b o e => Heap.get?_push_of_some _ (Heap.get?_push_of_some _ e)
  have hget : ((hp.push (kdv_tup [])).push (PySem.PX.excO C hp.objs.size)).get? (hp.objs.size + 1) = some (PySem.PX.excO C hp.objs.size) := by heap_get
  refine wpAny_call (PySem.PX.call_own FB hT hC hi' (fun self => exc_bind hoI hcI self) (by show 0 ≤ sizeLine; omega) ?_)
  refine init0 (s := ⟨(hp.push (kdv_tup [])).push (PySem.PX.excO C hp.objs.size), gg, d, tk, os⟩) (t := hp.objs.size) KF FB T TI hpos a kk (show hp.objs.size ≤ _ by rw [Heap.size_push, Heap.size_push]; omega) (Nat.le_succ _) hget hroom fun h' tk' t' k' E' => ?_
  exact ⟨rfl, hq h' tk' _ t' k' (Nat.le_succ _) E'⟩
end
end VK
end PySem

set_option maxHeartbeats 4000000
namespace VK
open PySem PySem.VK L2
/-! ## errors as values over the abstract heap -/
/-- at e: an error of the class at C, its dict (none | at dx) -/
def exS (e C : Addr) (d : Option Addr) : HO := .ext fun h => ∃ t : Addr, h.get? e = some (PySem.W.excObj C t d .none)
theorem exS_ok {P : Program} {w : World} {H : Hp} {h : Heap} {e C t : Addr} {d : Option Addr} (he : h.get? e = some (PySem.W.excObj C t d .none)) : ObjOk P w H h e (exS e C d) :=
  ⟨⟨t, he⟩, ⟨_, he⟩, fun _ _ ⟨t, q⟩ k => ⟨t, k _ q⟩⟩
theorem exS_at {P : Program} {w : World} {H : Hp} {h : Heap} {e C : Addr} {d : Option Addr} (hok : HOk P w H h) (he : H e = some (exS e C d)) : ∃ t : Addr, h.get? e = some (PySem.W.excObj C t d .none) := by
  have x : ObjOk P w H h e (.ext fun h => ∃ t : Addr, h.get? e = some (PySem.W.excObj C t d .none)) := hok e _ he
  exact x.1
theorem relO_one {x : Str} {v : V} {u : Value} (r : RelV v u) (g : Str) : RelO (([(x, v)] : List (Str × V)).lookup g) (if g = x then some u else none) := by
  by_cases hw : g = x
  · subst hw
    rw [if_pos rfl, List.lookup_cons, beq_self_eq_true]
    exact r
  · have q : (g == x) = false := by simpa using hw
    rw [if_neg hw, List.lookup_cons, q]
    trivial
/-- the call of a class of one field, of none -/
def tMk1 (C : Addr) (x : Str) (ta : TE) : TE := fun σ H Q => ta σ H fun v H1 => ∀ a d, H1 a = none → H1 d = none → d ≠ a → Q (.ref a) (upd (upd H1 d (.xd [(x, v)])) a (exS a C (some d)))
def tMk0 (C : Addr) : TE := fun _ H Q => ∀ a, H a = none → Q (.ref a) (upd H a (exS a C none))
section
variable {X : Cx} {pins : List (Addr × Obj)} {σ : L2.St} {H : Hp} {s : Shared} {B i newId : String} {bmB : List Value} {C fI : Addr} {qual msg x cn : Str} {p1 p2 a1 a2 a3 a4 a5 a6 b1 b2 b3 b4 p pos : Pos}
/-- what a body of a def knows around a call -/
theorem arnd_of (I : Inv X pins σ H s) (hs : X.mg "super" = none) (hn : (X.prog.main.scope.names.lookup ("super" : Str)).isSome = false) : Arnd X.prog X.K s.heap := by
  obtain ⟨mb, hb, hbb⟩ := I.mod.blt
  exact ⟨I.kIn, ⟨X.mg, I.mod.glob.keeps I.bk, hs⟩, ⟨mb, hb.keeps I.bk, (hbb _ (by decide)).trans (by decide +kernel)⟩, I.nolimit, hn⟩
/-- one object laid, tracked -/
theorem inv_two {h' : Heap} {a d : Addr} {oa od : HO} {t' : Nat} (I : Inv X pins σ H s) (k : ∀ b u, s.heap.get? b = some u → h'.get? b = some u) (ha : s.heap.objs.size ≤ a) (hd : s.heap.objs.size ≤ d) (hne : d ≠ a)
    (na : ∀ H', ObjOk X.prog X.w H' h' a oa) (nd : ∀ H', ObjOk X.prog X.w H' h' d od) : Inv X pins σ (upd (upd H d od) a oa) { s with heap := h', toks := t' } := by
  have hna : H a = none := I.hok.fresh ha
  have hnd : H d = none := I.hok.fresh hd
  have neA : ∀ {b : Addr} {o : Obj}, s.heap.get? b = some o → b ≠ a := fun {b o} q => Nat.ne_of_lt (Nat.lt_of_lt_of_le (Heap.lt_size q) ha)
  have neD : ∀ {b : Addr} {o : Obj}, s.heap.get? b = some o → b ≠ d := fun {b o} q => Nat.ne_of_lt (Nat.lt_of_lt_of_le (Heap.lt_size q) hd)
  have hna' : upd H d od a = none := by rw [upd_ne hne.symm]; exact hna
  refine I.un (t' := t') { keep := fun b o q n _ _ => k b o q, slot := fun b o q n _ _ => ⟨o.slots, k b o q⟩, free := fun b o q n _ => ?_, there := fun b o q _ => ⟨o, k b o q⟩, tups := fun b xs q => ?_, frzs := fun b o u q => ?_, tbls := fun b ps q => ⟨#[], ?_⟩ } ?_
  · rw [upd_ne (neA q), upd_ne (neD q)]; exact n
  · rw [upd_ne (ne_of_none q hna), upd_ne (ne_of_none q hnd)]; exact q
  · rw [upd_ne (ne_of_none q hna), upd_ne (ne_of_none q hnd)]; exact q
  · rw [upd_ne (ne_of_none q hna), upd_ne (ne_of_none q hnd), q]; simp
  · exact ((I.hok.kept k).laidN (fun _ _ q => q) hnd (nd _)).laidN (fun _ _ q => q) hna' (na _)
/-- C(e), C an own error of one field -/
theorem pe_mk1 {e : Expr} {ta : TE} (KF : PySem.W.KxsFacts B i) (FB : ExcBaseFacts B newId i bmB) (SF : StoreFacts B bmB "object.__setattr__" "object") (T : XCls X.prog X.K B i newId bmB C)
    (TI : XIni X.prog X.K C fI qual (iA x p1 p2) (iB msg x a1 a2 a3 a4 a5 a6 b1 b2 b3 b4) (iS x)) (hno : PySem.W.takerIn X.K C x = some none) (hgC : X.mg cn = some (.ref C)) (hsu : X.mg "super" = none) (hns : (X.prog.main.scope.names.lookup ("super" : Str)).isSome = false)
    (hdp : X.A.depth + 1 < recursionLimit) (hg : Gl X cn) (he : PE X e ta)
    (hb : ∀ (u1 u2 kV doc pm : Value) (an : Option Addr) (cda cc : Addr) (ct : Value), bindArgs (PySem.W.ksFn "__init__" qual (iA x p1 p2) (iB msg x a1 a2 a3 a4 a5 a6 b1 b2 b3 b4) (iS x) .none kV doc pm an (.ref cda) ct cc) ⟨[u1, u2], []⟩ = pure [(("self" : Str), u1), (x, u2)])
    (hpos : (a3.endLine == a5.line) = true) (hx1 : (x == ("self" : Str)) = false := by decide) (hx2 : (("__class__" : Str) == x) = false := by decide) (hx3 : (("super" : Str) == x) = false := by decide) (hx4 : (x == ("__debug__" : Str)) = false := by decide)
    (hs : starEach [e] X.env = (false, eval e X.env) :: starEach [] X.env := by rfl) (hdb : (cn == ("__debug__" : Str)) = false := by decide) :
    PE X (.Call (.Name cn p) [e] [] pos) (tMk1 C x ta) := by
  refine ⟨fun pins s σ H Q I h => ?_⟩
  refine wpAny_Call_Name_kw (ld_glob I hg hgC ?_ hdb)
  refine PySem.W.callWith_K (h₀ := X.base) I.ok.mod.kin T.kpC ?_ hs (by rfl)
  rw [hs]
  show wpAny _ _ (spliced ((false, eval e X.env) :: backTo pos (starEach [] X.env))) _ _ s
  refine Calls.spliced_cons (thn (he.run pins s σ H _ I h) fun u s1 ⟨v, H1, I1, r1, q1⟩ => ?_)
  refine Calls.spliced_nil ⟨I1.kIn, ?_⟩
  show wpAny _ _ (call (.ref C) [u]) _ _ _
  refine made1 KF FB SF T TI hno hx1 hx2 hx3 hx4 hpos (arnd_of I1 hsu hns) hdp hb fun h' tk' a M => ?_
  obtain ⟨t, d, ho, hd, hne, hn⟩ := M.obj
  have J : Inv X pins σ (upd (upd H1 d (.xd [(x, v)])) a (exS a C (some d))) { s1 with heap := h', toks := tk' } :=
    inv_two I1 M.keep M.new hd hne (fun _ => exS_ok ho) fun _ => ⟨_, hn, relO_one r1⟩
  exact ⟨.ref a, _, J, rfl, q1 a d (I1.hok.fresh M.new) (I1.hok.fresh hd) hne⟩
theorem pe_mk0 (KF : PySem.W.KxsFacts B i) (FB : ExcBaseFacts B newId i bmB) (T : XCls X.prog X.K B i newId bmB C)
    (TI : XIni X.prog X.K C fI qual (iA0 p1) (iB0 msg a1 a2 a3 a4 a5 a6) iS0) (hgC : X.mg cn = some (.ref C)) (hsu : X.mg "super" = none) (hns : (X.prog.main.scope.names.lookup ("super" : Str)).isSome = false)
    (hdp : X.A.depth + 1 < recursionLimit) (hg : Gl X cn) (hpos : (a3.endLine == a5.line) = true) (hdb : (cn == ("__debug__" : Str)) = false := by decide) :
    PE X (.Call (.Name cn p) [] [] pos) (tMk0 C) := by
  refine ⟨fun pins s σ H Q I h => ?_⟩
  refine wpAny_Call_Name_kw (ld_glob I hg hgC ?_ hdb)
  refine PySem.W.callWith_K0 I.kIn T.kpC ?_
  refine made0 KF FB T TI hpos (arnd_of I hsu hns) hdp fun h' tk' a t k hge ho => ?_
  exact ⟨.ref a, _, I.laid (t' := tk') k hge (exS_ok ho), rfl, h a (I.hok.fresh hge)⟩

/-- e.x of such an error -/
def tXat (K : PySem.W.Frag) (C : Addr) (x : Str) (te : TE) : TE := fun σ H Q => te σ H fun z H1 => ∃ a d v, z = .ref a ∧ H1 a = some (exS a C (some d)) ∧ H1 d = some (.xd [(x, v)]) ∧ Q v H1
theorem pe_xat {e : Expr} {te : TE} (T : XCls X.prog X.K B i newId bmB C) (hno : PySem.W.findIn X.K (.ref C) x = some none) (he : PE X e te)
    (hb : attributeBase e x X.env (eval e X.env) = eval e X.env := by rfl) : PE X (.Attribute e x pos) (tXat X.K C x te) := by
  refine ⟨fun pins s σ H Q I h => ?_⟩
  refine attr_of hb (thn (he.run pins s σ H _ I h) fun u s1 hh => ?_)
  obtain ⟨z, H1, I1, rx, a, d, v, rfl, ea, ed, q⟩ := hh
  obtain rfl : u = Value.ref a := rx
  obtain ⟨t, ho⟩ := exS_at I1.hok ea
  have hx : ObjOk X.prog X.w H1 s1.heap d (.xd [(x, v)]) := I1.hok d _ ed
  obtain ⟨mA, hns, hr⟩ := hx
  obtain ⟨od, hod, hl⟩ := lookIn_ns hns
  have l : List.lookup x [(x, v)] = some v := by rw [List.lookup_cons, beq_self_eq_true]
  obtain ⟨u, hu, ru⟩ := RelO.some_of (v := v) (o := mA x) (by rw [← l]; exact hr x)
  have J : PySem.W.InstAt s1.heap a (PySem.W.excObj C t (some d) .none) C (some od) := ⟨ho, rfl, rfl, hod⟩
  exact PySem.PX.exc_get I1.kIn J T.gat T.gga T.sBE (PySem.W.findObj_own T.hsd hno rfl (by rw [hl, hu])) (handed_of ru) ⟨v, H1, I1.tok _, ru, q⟩
/-- isinstance(e, c) of such an error -/
def rIsX (K : PySem.W.Frag) : List V → Hp → VK → Prop := fun xs H Q => ∃ (a C : Addr) (d : Option Addr) (c : V) (cv : Value) (b : Bool), xs = [.ref a, c] ∧ H a = some (exS a C d) ∧ (∀ dd, d = some dd → ∃ fs, H dd = some (.xd fs)) ∧ (∃ (P : Program) (B i newId : String) (bmB : List Value), XCls P K B i newId bmB C) ∧ (∀ u, RelV c u → u = cv) ∧ PySem.W.kitOne K (.ref C) cv = some b ∧ Q (.bl b) H
theorem call_isX : CallR X (.builtin "isinstance") (rIsX X.K) := by
  intro pins s σ H xs us Q I r h
  obtain ⟨a, C, d, c, cv, b, rfl, ha, hd, ⟨P, B, i, newId, bmB, T⟩, hcv, e, q⟩ := h
  cases r with
  | cons rx rr =>
    cases rr with
    | cons rt rr =>
      cases rr
      cases rx
      have ec := hcv _ rt
      subst ec
      obtain ⟨t, ho⟩ := exS_at I.hok ha
      have hcl : (PySem.W.clsIn X.K C).isSome = true := by obtain ⟨cd, hc, _⟩ := PySem.W.any_some T.hsd; rw [hc]; rfl
      obtain ⟨od, J⟩ : ∃ od, PySem.W.InstAt s.heap a (PySem.W.excObj C t d .none) C od := by
        cases d with
        | none => exact ⟨none, ho, rfl, rfl, trivial⟩
        | some dd =>
          obtain ⟨fs, hf⟩ := hd dd rfl
          have hx : ObjOk X.prog X.w H s.heap dd (.xd fs) := I.hok dd _ hf
          obtain ⟨mA, hns, _⟩ := hx
          obtain ⟨od, hod, _⟩ := lookIn_ns hns
          exact ⟨some od, ho, rfl, rfl, hod⟩
      exact PySem.W.kia_one (PySem.W.kitx_exc hcl T.gat T.gga T.sBE T.cla T.spG T.spT T.mOb) I.kIn J e (fun z => nomatch z) fun tk => ⟨.bl b, H, I.kept (t' := tk) fun _ _ z => z, rfl, q⟩
end
end VK

set_option maxHeartbeats 4000000
namespace PySem
namespace VK
open PySem.W PySem.Calls PyProof.Rows
/-! ## the same with the field by keyword -/
section
variable {prog : Program} {w : World} {M : Model} {A : Around} {E : Value → Shared → Prop} {R : Result → Shared → Prop} {h : Heap} {g : Array GenState} {d : Drawn} {t : Nat} {os : OsState}
variable {nm q : Str} {C N : Addr} {bs bm bmB : List Value} {hdct : Bool} {sn : List Str} {sub : List Value} {ab : Bool} {col : Option Bool} {dd : Option Addr} {k0 k1 k2 k3 k5 : Option Value} {B newId initId : String} {kw : List (Str × Value)}
theorem new_checkK (FB : ExcBaseFacts B newId initId bmB) (same : ∀ X : String, bm.contains (.type X) = bmB.contains (.type X)) {Q : Unit → Shared → Prop}
    (at_ : h.get? C = some (excClassObj nm q C N bs bm hdct sn sub ab col dd k0 k1 k2 k3 k5 newId)) (fin : Q () ⟨h, g, d, t, os⟩) : wpAny M A (checkBuiltinCall newId ⟨[.ref C], kw⟩) Q E ⟨h, g, d, t, os⟩ := by
  have isB : (Value.ref C :: bm).contains (.type B) = true := by
    rw [List.contains_cons, same, FB.hasB, Bool.or_true]
  have st := FB.noStar
  simp only [checkBuiltinCall, FB.newKind, FB.newSplit, FB.newRow]
  repeat first
    | refine wpAny_loadPart_at at_ ?_
    | (refine wpAny_isSubtype_exc at_ ?_; rw [isB])
    | refine wpAny_staticBase_exc at_ ?_
    | refine wpAny_madeBy_exc at_ ?_
    | simp only [bne_self_eq_false, Bool.false_eq_true, if_false]
    | wp_step
  exact fin
theorem newK (FB : ExcBaseFacts B newId initId bmB) (same : ∀ X : String, bm.contains (.type X) = bmB.contains (.type X))
    (at_ : h.get? C = some (excClassObj nm q C N bs bm hdct sn sub ab col dd k0 k1 k2 k3 k5 newId))
    (fin : R (.ok (.ret (.ref (h.objs.size + 1)))) ⟨(h.push (kdv_tup [])).push (PySem.PX.excO C h.objs.size), g, d, t, os⟩) :
    codeAny (model prog w) A (.builtin newId ⟨[.ref C], kw⟩) R ⟨h, g, d, t, os⟩ := by
  have ends := FB.ends
  have isB : (Value.ref C :: bm).contains (.type B) = true := by
    rw [List.contains_cons, same, FB.hasB, Bool.or_true]
  have noA : (Value.ref C :: bm).contains (.type "AttributeError") = false := by
    rw [List.contains_cons, same, FB.noAttr]; rfl
  have noN : (Value.ref C :: bm).contains (.type "NameError") = false := by
    rw [List.contains_cons, same, FB.noName]; rfl
  refine codeAny_builtinAt FB.entry ?_
  unfold Builtin.«BaseException.__new__»
  refine wpAt_bind ?_
  show _root_.PySem.wpAt _ _ _ (stack >>= _) _ _ _
  refine wpAt_bind (wpAt_stack fun p below => wpAt_of_wpAny ?_)
  wp_walk
  refine wpAt_of_wpAny ?_
  rw [FB.owner]
  repeat first
    | with_reducible refine wpAny_madeHere_exc FB.canon at_ ?_
    | with_reducible refine wpAny_loadPart_at at_ ?_
    | (with_reducible refine wpAny_isSubtype_exc at_ ?_; first | rw [isB] | rw [noA] | rw [noN])
    | wp_step
  show R _ _
  rw [Heap.size_push]
  exact fin
theorem type_callK (FB : ExcBaseFacts B newId initId bmB) (same : ∀ X : String, bm.contains (.type X) = bmB.contains (.type X)) {fI : Addr} {Q : Fin → Shared → Prop}
    (at_ : h.get? C = some (excClassObj nm q C N bs bm hdct sn sub ab col dd k0 k1 k2 k3 k5 newId))
    (hi : Looks (model prog w) h (typeLookup (.ref C) "__init__") (some (.ref fI))) (hb : ∀ self, Looks (model prog w) h (bindSpecial (.ref fI) self) (.ref fI, [self]))
    (fin : codeAny (model prog w) A (.call (.ref fI) ⟨[.ref (h.objs.size + 1)], kw⟩)
      (fun r s' => match r with | .ok (.ret v) => v = .none ∧ Q (.done (.ret (.ref (h.objs.size + 1)))) s' | .ok _ => False | .error e => E e s')
      ⟨(h.push (kdv_tup [])).push (PySem.PX.excO C h.objs.size), g, d, t, os⟩) :
    wpAny (model prog w) A (Builtin.«type.__call__» ⟨[.ref C], kw⟩) Q E ⟨h, g, d, t, os⟩ := by
  repeat first
    | with_reducible refine wpAny_loadPart_at at_ ?_
    | with_reducible refine wpAny_madeBy_exc at_ ?_
    | wp_step
  refine codeAny_call_builtin_code (Code.quiet_builtin _ FB.quiet) (new_checkK FB same at_ ?_)
  refine newK FB same at_ ?_
  show wpAny _ _ _ _ _ _
  have up : ∀ b o, h.get? b = some o → ((h.push (kdv_tup [])).push (PySem.PX.excO C h.objs.size)).get? b = some o :=
    fun b o e => Heap.get?_push_of_some _ (Heap.get?_push_of_some _ e)
  have at1 := up _ _ at_
  have here : ((h.push (kdv_tup [])).push (PySem.PX.excO C h.objs.size)).get? (h.objs.size + 1) = some (PySem.PX.excO C h.objs.size) := by heap_get
  have own : (Value.ref C :: bm).contains (.ref C) = true := by simp
  have i1 := hi.keeps up
  have b1 := (hb (.ref (h.objs.size + 1))).keeps up
  unfold isInstance
  repeat first
    | with_reducible refine wpAny_loadPart_at here ?_
    | (with_reducible refine wpAny_isSubtype_exc at1 ?_; rw [own])
    | wp_step
  show wpAny _ _ (typeLookup (.ref C) _) _ _ _
  refine i1.at ?_
  refine wpAny_holding (wpAny_bind (b1.at ?_))
  refine wpAny_bind (wpAny_call (codeAny_mono fin fun r s' z => ?_))
  rcases r with e | (v | _ | _ | _) <;> first | exact z | exact z.elim | skip
  obtain ⟨rfl, z⟩ := z
  first
    | exact wpAny_pure (wpAny_pure z)
    | (wp_walk; exact z)
theorem call_ownK (FB : ExcBaseFacts B newId initId bmB) (same : ∀ X : String, bm.contains (.type X) = bmB.contains (.type X)) {fI : Addr}
    (at_ : h.get? C = some (excClassObj nm q C N bs bm hdct sn sub ab col dd k0 k1 k2 k3 k5 newId))
    (hi : Looks (model prog w) h (typeLookup (.ref C) "__init__") (some (.ref fI))) (hb : ∀ self, Looks (model prog w) h (bindSpecial (.ref fI) self) (.ref fI, [self]))
    (fin : codeAny (model prog w) (A.under (.builtin "type.__call__" ⟨[.ref C], kw⟩)) (.call (.ref fI) ⟨[.ref (h.objs.size + 1)], kw⟩) (InitBack (h.objs.size + 1) R)
      ⟨(h.push (kdv_tup [])).push (PySem.PX.excO C h.objs.size), g, d, t, os⟩) :
    codeAny (model prog w) A (.call (.ref C) ⟨[], kw⟩) R ⟨h, g, d, t, os⟩ := by
  have f1 := tc_lookup
  have f2 := tc_bind (.ref C)
  have ty : (⟨h, g, d, t, os⟩ : Shared).TypeIs (.ref C) "type" := ⟨_, at_, rfl⟩
  refine codeAny_of_tree ?_
  show wpAny _ _ (callAny (.ref C) _) _ _ _
  repeat (any_goals first | assumption | with_reducible refine wpAny_loadPart_at at_ ?_ | wp_step)
  refine ⟨rfl, ?_⟩
  refine codeAny_call_builtin_at (Code.quiet_builtin _ (by decide +kernel)) entry_typeCall (wpAny_check_type_call_sub at_ (type_callK FB same at_ hi hb ?_))
  refine codeAny_mono fin fun r s' z => ?_
  rcases r with e | (v | _ | _ | _) <;> exact z
end
section
variable {prog : Program} {w : World} {A : Around} {R : Result → Shared → Prop} {s : Shared} {K : Frag} {B i newId : String} {bmB : List Value} {C fI : Addr} {qual msg x : Str} {p1 p2 a1 a2 a3 a4 a5 a6 b1 b2 b3 b4 : Pos}
theorem made1K {E : Value → Shared → Prop} {Q : Value → Shared → Prop} {v : Value} (KF : KxsFacts B i) (FB : ExcBaseFacts B newId i bmB) (SF : StoreFacts B bmB "object.__setattr__" "object") (T : XCls prog K B i newId bmB C)
    (TI : XIni prog K C fI qual (iA x p1 p2) (iB msg x a1 a2 a3 a4 a5 a6 b1 b2 b3 b4) (iS x)) (hno : takerIn K C x = some none) (hx1 : (x == ("self" : Str)) = false) (hx2 : (("__class__" : Str) == x) = false) (hx3 : (("super" : Str) == x) = false) (hx4 : (x == ("__debug__" : Str)) = false)
    (hpos : (a3.endLine == a5.line) = true) (a : Arnd prog K s.heap) (hroom : A.depth + 1 < recursionLimit)
    (hb : ∀ (u1 u2 kV doc pm : Value) (an : Option Addr) (cda cc : Addr) (ct : Value), bindArgs (ksFn "__init__" qual (iA x p1 p2) (iB msg x a1 a2 a3 a4 a5 a6 b1 b2 b3 b4) (iS x) .none kV doc pm an (.ref cda) ct cc) ⟨[u1], [(x, u2)]⟩ = pure [(("self" : Str), u1), (x, u2)])
    (hq : ∀ h' tk' e, Made1 s.heap h' e C x v → Q (.ref e) { s with heap := h', toks := tk' }) :
    wpAny (model prog w) A (call (.ref C) [] [(x, v)]) Q E s := by
  obtain ⟨nm, N', qn, bs, bm, hdct, sn, sub, ab, col, dd, k0, k1, k2, k3, k5, hC, hT⟩ := excInit_of a.kin T.ini
  obtain ⟨oI, hoI, hcI⟩ : ∃ oI, s.heap.get? fI = some oI ∧ oI.cls = .type "function" := by
    obtain ⟨o, ho, hc⟩ := Option.map_eq_some_iff.mp (show (K.lookup fI).map (·.cls) = some (.type "function") from beq_iff_eq.mp TI.fn)
    exact ⟨o, a.kin _ _ ho, hc⟩
  have hi' : Looks (model prog w) s.heap (typeLookup (.ref C) "__init__") (some (.ref fI)) := looks_findIn a.kin TI.at_
  obtain ⟨hp, gg, d, tk, os⟩ := s
  have kk : ∀ b o, hp.get? b = some o → ((hp.push (kdv_tup [])).push (PySem.PX.excO C hp.objs.size)).get? b = some o := fun b o e => Heap.get?_push_of_some _ (Heap.get?_push_of_some _ e)
  have hget : ((hp.push (kdv_tup [])).push (PySem.PX.excO C hp.objs.size)).get? (hp.objs.size + 1) = some (PySem.PX.excO C hp.objs.size) := by heap_get
  refine wpAny_call (call_ownK FB hT hC hi' (fun self => exc_bind hoI hcI self) ?_)
  refine init1 (s := ⟨(hp.push (kdv_tup [])).push (PySem.PX.excO C hp.objs.size), gg, d, tk, os⟩) (v := v) (t := hp.objs.size) KF FB SF T TI hno hx1 hx2 hx3 hx4 hpos a kk (show hp.objs.size ≤ _ by rw [Heap.size_push, Heap.size_push]; omega) (Nat.le_succ _) hget hroom (hb _ _) fun h' tk' M => ?_
  exact ⟨rfl, hq h' tk' _ ⟨M.keep, Nat.le_succ _, M.obj⟩⟩
end
end VK
end PySem
namespace VK
open PySem PySem.VK L2
section
variable {X : Cx} {B i newId : String} {bmB : List Value} {C fI : Addr} {qual msg x cn : Str} {p1 p2 a1 a2 a3 a4 a5 a6 b1 b2 b3 b4 p pos kp : Pos}
/-- C(x = e) -/
theorem pe_mk1K {e : Expr} {te : TE} (KF : PySem.W.KxsFacts B i) (FB : ExcBaseFacts B newId i bmB) (SF : StoreFacts B bmB "object.__setattr__" "object") (T : XCls X.prog X.K B i newId bmB C)
    (TI : XIni X.prog X.K C fI qual (iA x p1 p2) (iB msg x a1 a2 a3 a4 a5 a6 b1 b2 b3 b4) (iS x)) (hno : PySem.W.takerIn X.K C x = some none) (hgC : X.mg cn = some (.ref C)) (hsu : X.mg "super" = none) (hns : (X.prog.main.scope.names.lookup ("super" : Str)).isSome = false)
    (hdp : X.A.depth + 1 < recursionLimit) (hg : Gl X cn) (he : PE X e te)
    (hb : ∀ (u1 u2 kV doc pm : Value) (an : Option Addr) (cda cc : Addr) (ct : Value), bindArgs (PySem.W.ksFn "__init__" qual (iA x p1 p2) (iB msg x a1 a2 a3 a4 a5 a6 b1 b2 b3 b4) (iS x) .none kV doc pm an (.ref cda) ct cc) ⟨[u1], [(x, u2)]⟩ = pure [(("self" : Str), u1), (x, u2)])
    (hpos : (a3.endLine == a5.line) = true) (hx1 : (x == ("self" : Str)) = false := by decide) (hx2 : (("__class__" : Str) == x) = false := by decide) (hx3 : (("super" : Str) == x) = false := by decide) (hx4 : (x == ("__debug__" : Str)) = false := by decide)
    (hall : (backToKw pos (keywordEach [⟨some x, e, kp⟩] X.env)).all (·.1.isSome) = true := by rfl) (hks : (backToKw pos (keywordEach [⟨some x, e, kp⟩] X.env)).filterMap (·.1) = [x] := by rfl)
    (hpl : ((backTo pos (starEach [] X.env)).any (·.1) || (backToKw pos (keywordEach [⟨some x, e, kp⟩] X.env)).any (·.1.isNone)) = false := by rfl) (hdb : (cn == ("__debug__" : Str)) = false := by decide) :
    PE X (.Call (.Name cn p) [] [⟨some x, e, kp⟩] pos) (tMk1 C x te) := by
  refine ⟨fun pins s σ H Q I h => ?_⟩
  refine wpAny_Call_Name_kw (ld_glob I hg hgC ?_ hdb)
  refine PySem.W.callWith_KW0 (h₀ := X.base) I.ok.mod.kin T.kpC hall ?_ hpl
  refine thn ((pk_cons he pk_nil).run pos pins s σ H (fun zs H1 => match zs with | [v] => ∀ a d, H1 a = none → H1 d = none → d ≠ a → Q (.ref a) (upd (upd H1 d (.xd [(x, v)])) a (exS a C (some d))) | _ => False) I h) fun ws s1 hz => ?_
  obtain ⟨zs, H1, I1, r1, q1⟩ := hz
  cases r1 with
  | nil => exact False.elim q1
  | cons r1 rr =>
  cases rr with
  | cons _ _ => exact False.elim q1
  | nil =>
    refine ⟨I1.kIn, ?_⟩
    rw [hks]
    refine made1K KF FB SF T TI hno hx1 hx2 hx3 hx4 hpos (arnd_of I1 hsu hns) hdp hb fun h' tk' a M => ?_
    obtain ⟨t, d, ho, hd, hne, hn⟩ := M.obj
    have J := inv_two (t' := tk') I1 M.keep M.new hd hne (oa := exS a C (some d)) (od := .xd [(x, _)]) (fun _ => exS_ok ho) fun _ => ⟨_, hn, relO_one r1⟩
    exact ⟨.ref a, _, J, rfl, q1 a d (I1.hok.fresh M.new) (I1.hok.fresh hd) hne⟩
end
end VK

set_option maxHeartbeats 4000000
namespace VK
open PySem PySem.Spec PyProof.Rows L2
/-! ## data that is tracked, and expressions that lay it -/
mutual
inductive Dt (H : Hp) : V → PyData → Prop
  | non : Dt H .non .none
  | bl (b : Bool) : Dt H (.bl b) (.bool b)
  | int (i : Int) : Dt H (.int i) (.int i)
  | str (x : Str) : Dt H (.str x) (.str x)
  | lst {a : Addr} {xs : List V} {ds : List PyData} : H a = some (.lst xs) → DtAll H xs ds → Dt H (.ref a) (.list ds)
  | tup {a : Addr} {xs : List V} {ds : List PyData} : H a = some (.tup xs) → DtAll H xs ds → Dt H (.ref a) (.tuple ds)
  | dct {a : Addr} {kvs : List (Key × V)} {ds : List (PyData × PyData)} : H a = some (.dK kvs) → Paired (fun (p : Key × V) (q : PyData × PyData) => q.1 = keyD p.1 ∧ Fl p.2 q.2) kvs ds → Dt H (.ref a) (.dict ds)
inductive DtAll (H : Hp) : List V → List PyData → Prop
  | nil : DtAll H [] []
  | cons {v : V} {vs : List V} {d : PyData} {ds : List PyData} : Dt H v d → DtAll H vs ds → DtAll H (v :: vs) (d :: ds)
end
/-- what data leans on: lists, tuples, dicts of flat values -/
def Leans : HO → Prop
  | .lst _ => True
  | .tup _ => True
  | .dK kvs => ∀ p ∈ kvs, ∀ a, p.2 ≠ .ref a
  | _ => False
theorem flat_of : ∀ {kvs : List (Key × V)} {ds : List (PyData × PyData)}, Paired (fun (p : Key × V) (q : PyData × PyData) => q.1 = keyD p.1 ∧ Fl p.2 q.2) kvs ds → ∀ p ∈ kvs, ∀ a, p.2 ≠ .ref a
  | _, _, .nil, _, h, _ => nomatch h
  | _, _, .cons r t, p, h, a => by
    rcases List.mem_cons.mp h with rfl | h
    · intro z
      have f := r.2
      rw [z] at f
      cases f
    · exact flat_of t p h a
mutual
theorem Dt.keep {H H' : Hp} (k : ∀ b o, H b = some o → Leans o → H' b = some o) : ∀ (d : PyData) (v : V), Dt H v d → Dt H' v d
  | .none, _, h => by cases h; exact .non
  | .bool b, _, h => by cases h; exact .bl b
  | .int i, _, h => by cases h; exact .int i
  | .str x, _, h => by cases h; exact .str x
  | .list ds, _, h => by
    cases h with
    | lst ha hs => exact .lst (k _ _ ha trivial) (DtAll.keep k ds _ hs)
  | .tuple ds, _, h => by
    cases h with
    | tup ha hs => exact .tup (k _ _ ha trivial) (DtAll.keep k ds _ hs)
  | .dict ds, _, h => by
    cases h with
    | dct ha hp => exact .dct (k _ _ ha (flat_of hp)) hp
theorem DtAll.keep {H H' : Hp} (k : ∀ b o, H b = some o → Leans o → H' b = some o) : ∀ (ds : List PyData) (vs : List V), DtAll H vs ds → DtAll H' vs ds
  | [], _, h => by cases h; exact .nil
  | d :: ds, _, h => by
    cases h with
    | cons h1 h2 => exact .cons (Dt.keep k d _ h1) (DtAll.keep k ds _ h2)
end
theorem Dt.same {H H' : Hp} (s : Same H H') {d : PyData} {v : V} (h : Dt H v d) : Dt H' v d := Dt.keep (fun b o e _ => s b o e) d v h
theorem DtAll.same {H H' : Hp} (s : Same H H') {ds : List PyData} {vs : List V} (h : DtAll H vs ds) : DtAll H' vs ds := DtAll.keep (fun b o e _ => s b o e) ds vs h
mutual
theorem Dt.dp {K : PySem.W.Frag} {H : Hp} : ∀ (d : PyData) (v : V), Dt H v d → d.hasDict = false → Dp K H v d
  | .none, _, h, _ => by cases h; exact .non
  | .bool b, _, h, _ => by cases h; exact .bl b
  | .int i, _, h, _ => by cases h; exact .int i
  | .str x, _, h, _ => by cases h; exact .str x
  | .list ds, _, h, z => by
    cases h with
    | lst ha hs => exact .lst (SqL.of ha) (DtAll.dp ds _ hs (by simpa only [PyData.hasDict] using z))
  | .tuple ds, _, h, z => by
    cases h with
    | tup ha hs => exact .tup (SqT.of ha) (DtAll.dp ds _ hs (by simpa only [PyData.hasDict] using z))
  | .dict ds, _, _, z => by simp only [PyData.hasDict] at z; cases z
theorem DtAll.dp {K : PySem.W.Frag} {H : Hp} : ∀ (ds : List PyData) (vs : List V), DtAll H vs ds → PyData.hasDictAll ds = false → DpAll K H vs ds
  | [], _, h, _ => by cases h; exact .nil
  | d :: ds, _, h, z => by
    cases h with
    | cons h1 h2 =>
      simp only [PyData.hasDictAll, Bool.or_eq_false_iff] at z
      exact .cons (Dt.dp d _ h1 z.1) (DtAll.dp ds _ h2 z.2)
end
/-- no dict within: repr may be asked -/
def topDict : PyData → Bool
  | .dict _ => true
  | d => !d.hasDict
theorem Dt.dr {K : PySem.W.Frag} {H : Hp} {d : PyData} {v : V} (h : Dt H v d) (z : topDict d = true) : Dr K H v d := by
  cases d with
  | dict ds => cases h with | dct ha hp => exact .dct ha hp
  | none => exact .of (Dt.dp _ _ h (by simpa [topDict] using z))
  | bool b => exact .of (Dt.dp _ _ h (by simpa [topDict] using z))
  | int b => exact .of (Dt.dp _ _ h (by simpa [topDict] using z))
  | str b => exact .of (Dt.dp _ _ h (by simpa [topDict] using z))
  | list b => exact .of (Dt.dp _ _ h (by simpa [topDict] using z))
  | tuple b => exact .of (Dt.dp _ _ h (by simpa [topDict] using z))
theorem DtAll.length {H : Hp} : ∀ {vs : List V} {ds : List PyData}, DtAll H vs ds → vs.length = ds.length
  | _, _, .nil => rfl
  | _, _, .cons _ t => congrArg (· + 1) t.length
theorem DtAll.append {H : Hp} : ∀ {vs ws : List V} {ds es : List PyData}, DtAll H vs ds → DtAll H ws es → DtAll H (vs ++ ws) (ds ++ es)
  | _, _, _, _, .nil, h => h
  | _, _, _, _, .cons a t, h => .cons a (t.append h)
theorem DtAll.mem {H : Hp} : ∀ {vs : List V} {ds : List PyData}, DtAll H vs ds → ∀ v ∈ vs, ∃ d ∈ ds, Dt H v d
  | _, _, .nil, _, h => nomatch h
  | _, _, .cons a t, v, h => by
    rcases List.mem_cons.mp h with rfl | h
    · exact ⟨_, List.mem_cons_self, a⟩
    · obtain ⟨d, hd, q⟩ := t.mem v h
      exact ⟨d, List.mem_cons_of_mem _ hd, q⟩
/-- an expression that lays data, new where it is an object -/
def EvD (te : TE) (σ : L2.St) (d : PyData) : Prop := ∀ H Q, (∀ v H1, Same H H1 → Dt H1 v d → (∀ a, v = .ref a → H a = none) → Q v H1) → te σ H Q
def EvDs (ta : TA) (σ : L2.St) (ds : List PyData) : Prop := ∀ H Q, (∀ vs H1, Same H H1 → DtAll H1 vs ds → (∀ v ∈ vs, ∀ a, v = .ref a → H a = none) → Q vs H1) → ta σ H Q
section
variable {σ : L2.St} {te : TE} {ta : TA} {d : PyData} {ds : List PyData}
theorem ed_non : EvD (tC .non) σ .none := fun H _ k => k _ H (Same.refl H) .non (fun _ z => nomatch z)
theorem ed_bl (b : Bool) : EvD (tC (.bl b)) σ (.bool b) := fun H _ k => k _ H (Same.refl H) (.bl b) (fun _ z => nomatch z)
theorem ed_int (i : Int) : EvD (tC (.int i)) σ (.int i) := fun H _ k => k _ H (Same.refl H) (.int i) (fun _ z => nomatch z)
theorem ed_str (x : Str) : EvD (tC (.str x)) σ (.str x) := fun H _ k => k _ H (Same.refl H) (.str x) (fun _ z => nomatch z)
theorem ed_neg (i : Int) : EvD (tUn (rU fun i => .int (-i)) (tC (.int i))) σ (.int (-i)) := fun H _ k => ⟨i, rfl, k _ H (Same.refl H) (.int (-i)) (fun _ z => nomatch z)⟩
theorem ed_pow (i j : Int) (h : CPow i j) : EvD (tOp (rI CPow fun i j => .int (i ^ j.toNat)) (tC (.int i)) (tC (.int j))) σ (.int (i ^ j.toNat)) := fun H _ k => ⟨i, j, rfl, rfl, h, k _ H (Same.refl H) (.int _) (fun _ z => nomatch z)⟩
theorem eds_nil : EvDs tNil σ [] := fun H _ k => k _ H (Same.refl H) .nil (fun _ z => nomatch z)
theorem eds_cons (h : EvD te σ d) (hr : EvDs ta σ ds) : EvDs (tCons te ta) σ (d :: ds) := fun H Q k => h H _ fun v H1 s1 d1 n1 => hr H1 _ fun vs H2 s2 d2 n2 => k _ H2 (s1.trans s2) (.cons (d1.same s2) d2) fun x hx a e => by
  rcases List.mem_cons.mp hx with rfl | hx
  · exact n1 a e
  · exact s1.free (n2 x hx a e)
theorem ed_lst (h : EvDs ta σ ds) (hl : ds.length ≤ 10000 := by decide) : EvD (tLst ta) σ (.list ds) := fun H Q k => h H _ fun vs H1 s1 d1 n1 =>
  ⟨by rw [d1.length]; exact Nat.le_trans hl (by decide), fun p hp => k _ _ (s1.trans (fun b o e => by rw [upd_ne (ne_of_none e hp)]; exact e)) (.lst upd_same (d1.same fun b o e => by rw [upd_ne (ne_of_none e hp)]; exact e)) fun a e => by cases e; exact s1.free hp⟩
theorem ed_tup (h : EvDs ta σ ds) (hl : ds.length ≤ 10000 := by decide) : EvD (tTup ta) σ (.tuple ds) := fun H Q k => h H _ fun vs H1 s1 d1 n1 =>
  ⟨by rw [d1.length]; exact Nat.le_trans hl (by decide), fun p hp => k _ _ (s1.trans (fun b o e => by rw [upd_ne (ne_of_none e hp)]; exact e)) (.tup upd_same (d1.same fun b o e => by rw [upd_ne (ne_of_none e hp)]; exact e)) fun a e => by cases e; exact s1.free hp⟩
theorem ed_dict0 : EvD tDNewK σ (.dict []) := fun H Q k p hp => k _ _ (fun b o e => by rw [upd_ne (ne_of_none e hp)]; exact e) (.dct upd_same .nil) fun a e => by cases e; exact hp
theorem ed_dict1 (i j : Int) : EvD (tDisp [(tC (.int i), tC (.int j))]) σ (.dict [(.int i, .int j)]) := fun H Q k p hp =>
  ⟨upd_same, [(Sum.inl i, .int j)], rfl, by show 1 ≤ 15; decide, k _ _ (fun b o e => by rw [upd_ne (ne_of_none e hp), upd_ne (ne_of_none e hp)]; exact e) (.dct upd_same (.cons ⟨rfl, .int j⟩ .nil)) fun a e => by cases e; exact hp⟩

/-- x = e, e laying data; a list + a list laid in the place -/
theorem st_evd {i : Nat} {u : TS} {D : Ends} {H : Hp} (h : EvD te σ d) (k : ∀ v H1, Same H H1 → Dt H1 v d → (∀ a, v = .ref a → H a = none) → u D (σ.set i (some v)) H1) : tSeq (tAsg te (gName i)) u D σ H := h H _ k
theorem op_evd {r : R2} {tb : TE} {H : Hp} {Q : VK} {x : V} {i : Nat} (hi : σ[i]? = some (some x)) (h : EvD tb σ d) (k : ∀ v H1, Same H H1 → Dt H1 v d → (∀ a, v = .ref a → H a = none) → r x v H1 Q) : tOp r (tVar i) tb σ H Q := ⟨x, hi, h H _ k⟩
theorem lst_evds {H : Hp} {Q : VK} (h : EvDs ta σ ds) (hl : ds.length ≤ 10000) (k : ∀ p vs H1, H p = none → Same H H1 → H1 p = some (.lst vs) → DtAll H1 vs ds → (∀ v ∈ vs, ∀ a, v = .ref a → H a = none) → Q (.ref p) H1) : tLst ta σ H Q :=
  h H _ fun vs H1 s1 d1 n1 => ⟨by rw [d1.length]; exact Nat.le_trans hl (by decide), fun p hp => k p vs _ (s1.free hp) (s1.trans (fun b o e => by rw [upd_ne (ne_of_none e hp)]; exact e)) upd_same (d1.same fun b o e => by rw [upd_ne (ne_of_none e hp)]; exact e) n1⟩
theorem st_evds {i : Nat} {u : TS} {D : Ends} {H : Hp} (h : EvDs ta σ ds) (hl : ds.length ≤ 10000) (k : ∀ p vs H1, H p = none → Same H H1 → H1 p = some (.lst vs) → DtAll H1 vs ds → (∀ v ∈ vs, ∀ a, v = .ref a → H a = none) → u D (σ.set i (some (.ref p))) H1) :
    tSeq (tAsg (tLst ta) (gName i)) u D σ H := by
  show tLst ta σ H (fun x H1 => u D (σ.set i (some x)) H1)
  exact lst_evds h hl k
theorem op_evds {r : R2} {H : Hp} {Q : VK} {x : V} {i : Nat} (hi : σ[i]? = some (some x)) (h : EvDs ta σ ds) (hl : ds.length ≤ 10000) (k : ∀ p vs H1, H p = none → Same H H1 → H1 p = some (.lst vs) → DtAll H1 vs ds → (∀ v ∈ vs, ∀ a, v = .ref a → H a = none) → r x (.ref p) H1 Q) :
    tOp r (tVar i) (tLst ta) σ H Q := ⟨x, hi, lst_evds h hl k⟩
end
end VK

set_option maxHeartbeats 4000000
namespace VK
open PySem PySem.VK PySem.Spec PyProof.Rows L2
/-! ## many errors -/
def XOk (K : PySem.W.Frag) (C : Addr) : Prop := ∃ (P : Program) (B i newId : String) (bmB : List Value), XCls P K B i newId bmB C
def tXatA (K : PySem.W.Frag) (x : Str) (te : TE) : TE := fun σ H Q => te σ H fun z H1 => ∃ a C d v, z = .ref a ∧ H1 a = some (exS a C (some d)) ∧ H1 d = some (.xd [(x, v)]) ∧ XOk K C ∧ PySem.W.findIn K (.ref C) x = some none ∧ Q v H1
section
variable {X : Cx} {x : Str} {pos : Pos}
theorem pe_xatA {e : Expr} {te : TE} (he : PE X e te) (hb : attributeBase e x X.env (eval e X.env) = eval e X.env := by rfl) : PE X (.Attribute e x pos) (tXatA X.K x te) := by
  refine ⟨fun pins s σ H Q I h => ?_⟩
  refine attr_of hb (thn (he.run pins s σ H _ I h) fun u s1 hh => ?_)
  obtain ⟨z, H1, I1, rx, a, C, d, v, rfl, ea, ed, ⟨P, B, i, newId, bmB, T⟩, hno, q⟩ := hh
  obtain rfl : u = Value.ref a := rx
  obtain ⟨t, ho⟩ := exS_at I1.hok ea
  have hx : ObjOk X.prog X.w H1 s1.heap d (.xd [(x, v)]) := I1.hok d _ ed
  obtain ⟨mA, hns, hr⟩ := hx
  obtain ⟨od, hod, hl⟩ := lookIn_ns hns
  have l : List.lookup x [(x, v)] = some v := by rw [List.lookup_cons, beq_self_eq_true]
  obtain ⟨u, hu, ru⟩ := RelO.some_of (v := v) (o := mA x) (by rw [← l]; exact hr x)
  have J : PySem.W.InstAt s1.heap a (PySem.W.excObj C t (some d) .none) C (some od) := ⟨ho, rfl, rfl, hod⟩
  exact PySem.PX.exc_get I1.kIn J T.gat T.gga T.sBE (PySem.W.findObj_own T.hsd hno rfl (by rw [hl, hu])) (handed_of ru) ⟨v, H1, I1.tok _, ru, q⟩
/-- text * 0, text * 1 -/
theorem op_repS : OpR X (binaryOp .Mult) (fun x y H Q => ∃ (z : Str) (b : Bool), x = .str z ∧ y = .int (if b then 1 else 0) ∧ Q (.str (if b then z else Str.empty)) H) := by
  intro pins s σ H x y v u Q I rx ry h
  obtain ⟨z, b, rfl, rfl, q⟩ := h
  obtain ⟨t, rfl⟩ := rx
  obtain ⟨t', rfl⟩ := ry
  cases b with
  | false => exact PySem.P.mul_str_none (by decide) (by decide) ⟨.str _, H, I.tok _, ⟨_, rfl⟩, q⟩
  | true => exact PySem.P.mul_str (by decide) (fun _ h2 => absurd h2 (by simp)) (fun _ h2 => absurd h2 (by simp)) (by
      rw [if_neg (by decide), if_pos (by simp)]
      exact ⟨.str _, H, I, ⟨_, rfl⟩, q⟩)
end
/-- an error at e, of the class C, with the field x of value v, or none -/
def ErrAt (H : Hp) (v : V) (e C : Addr) : Option Str → Prop
  | some x => ∃ d, H e = some (exS e C (some d)) ∧ H d = some (.xd [(x, v)])
  | none => H e = some (exS e C none)
theorem ErrAt.same {H H' : Hp} {v : V} {e C : Addr} {x : Option Str} (s : Same H H') (h : ErrAt H v e C x) : ErrAt H' v e C x := by
  cases x with
  | some x =>
    obtain ⟨d, h1, h2⟩ := h
    exact ⟨d, s _ _ h1, s _ _ h2⟩
  | none => exact s _ _ h
abbrev Errs (H : Hp) (v : V) : List Addr → List (Addr × Option Str) → Prop := Paired fun e s => ErrAt H v e s.1 s.2
theorem Errs.same {H H' : Hp} {v : V} {es : List Addr} {sp : List (Addr × Option Str)} (s : Same H H') (h : Errs H v es sp) : Errs H' v es sp := Paired.mapP h fun _ _ q => q.same s
theorem Errs.append {H : Hp} {v : V} : ∀ {es fs : List Addr} {sp sq : List (Addr × Option Str)}, Errs H v es sp → Errs H v fs sq → Errs H v (es ++ fs) (sp ++ sq)
  | _, _, _, _, .nil, h => h
  | _, _, _, _, .cons a t, h => .cons a (Errs.append t h)
theorem Errs.len {H : Hp} {v : V} {es : List Addr} {sp : List (Addr × Option Str)} (h : Errs H v es sp) : es.length = sp.length := Paired.length h
theorem Errs.at_ {H : Hp} {v : V} : ∀ {es : List Addr} {sp : List (Addr × Option Str)} (k : Nat) {s : Addr × Option Str}, Errs H v es sp → sp[k]? = some s → ∃ e, es[k]? = some e ∧ ErrAt H v e s.1 s.2
  | _, _, k, _, .nil, e => by simp at e
  | _, _, 0, _, .cons a _, e => by
    simp only [List.getElem?_cons_zero, Option.some.injEq] at e
    subst e
    exact ⟨_, rfl, a⟩
  | _, _, k + 1, _, .cons _ t, e => by
    obtain ⟨e', h1, h2⟩ := Errs.at_ k t (by simpa using e)
    exact ⟨e', by simpa using h1, h2⟩
theorem new_same {H : Hp} {p : Addr} {o : HO} (h : H p = none) : Same H (upd H p o) := fun b u z => by rw [upd_ne (ne_of_none z h)]; exact z
def EvXs (ta : TA) (σ : L2.St) (v : V) (sp : List (Addr × Option Str)) : Prop := ∀ H Q, (∀ es H1, Same H H1 → Errs H1 v es sp → Q (es.map V.ref) H1) → ta σ H Q
section
variable {σ : L2.St} {ta : TA} {v : V} {sp : List (Addr × Option Str)} {C : Addr} {x : Str} {i : Nat}
theorem xs_nil : EvXs tNil σ v [] := fun H _ k => k [] H (Same.refl H) .nil
theorem xs_mk1 (hv : σ[i]? = some (some v)) (h : EvXs ta σ v sp) : EvXs (tCons (tMk1 C x (tVar i)) ta) σ v ((C, some x) :: sp) := fun H Q k => ⟨v, hv, fun a d ha hd hne => by
  have s1 : Same H (upd (upd H d (.xd [(x, v)])) a (exS a C (some d))) := fun b o e => by rw [upd_ne (ne_of_none e ha), upd_ne (ne_of_none e hd)]; exact e
  refine h _ _ fun es H1 s2 r => k (a :: es) H1 (s1.trans s2) (.cons ⟨d, s2 _ _ upd_same, s2 _ _ ?_⟩ r)
  rw [upd_ne hne]
  exact upd_same⟩
theorem xs_mk0 (h : EvXs ta σ v sp) : EvXs (tCons (tMk0 C) ta) σ v ((C, none) :: sp) := fun H Q k a ha =>
  h _ _ fun es H1 s2 r => k (a :: es) H1 ((new_same ha).trans s2) (.cons (s2 _ _ upd_same) r)
theorem lst_xs {H : Hp} {Q : VK} (h : EvXs ta σ v sp) (hl : sp.length ≤ 10000) (k : ∀ p es H1, Same H H1 → H1 p = some (.lst (es.map V.ref)) → Errs H1 v es sp → Q (.ref p) H1) : tLst ta σ H Q :=
  h H _ fun es H1 s1 r => ⟨by rw [List.length_map, r.len]; exact Nat.le_trans hl (by decide), fun p hp => k p es _ (s1.trans (fun b o e => by rw [upd_ne (ne_of_none e hp)]; exact e)) upd_same (r.same fun b o e => by rw [upd_ne (ne_of_none e hp)]; exact e)⟩
theorem st_xs {u : TS} {D : Ends} {H : Hp} (h : EvXs ta σ v sp) (hl : sp.length ≤ 10000) (k : ∀ p es H1, Same H H1 → H1 p = some (.lst (es.map V.ref)) → Errs H1 v es sp → u D (σ.set i (some (.ref p))) H1) : tSeq (tAsg (tLst ta) (gName i)) u D σ H := by
  show tLst ta σ H (fun x H1 => u D (σ.set i (some x)) H1)
  exact lst_xs h hl k
theorem cat_xs {H : Hp} {Q : VK} {L : Addr} {es : List Addr} {sq : List (Addr × Option Str)} (hi : σ[i]? = some (some (.ref L))) (hL : H L = some (.lst (es.map V.ref))) (hE : Errs H v es sp) (hs : sp.length ≤ 10000) (h : EvXs ta σ v sq) (hl : sq.length ≤ 10000)
    (k : ∀ p fs H1, Same H H1 → H1 p = some (.lst (fs.map V.ref)) → Errs H1 v fs (sp ++ sq) → Q (.ref p) H1) : tOp rCat (tVar i) (tLst ta) σ H Q := ⟨_, hi, lst_xs h hl fun p fs H1 s1 hp r => by
  refine ⟨L, p, _, _, rfl, rfl, s1 _ _ hL, hp, ?_, fun q hq => ?_⟩
  · rw [List.length_map, List.length_map, hE.len, r.len]
    exact Nat.le_trans (Nat.add_le_add hs hl) (by decide)
  · have s2 : Same H1 (upd H1 q (.lst (es.map V.ref ++ fs.map V.ref))) := fun b o e => by rw [upd_ne (ne_of_none e hq)]; exact e
    refine k q (es ++ fs) _ (s1.trans s2) ?_ (Errs.append (hE.same (s1.trans s2)) (r.same s2))
    rw [List.map_append]
    exact upd_same⟩
theorem st_catxs {u : TS} {D : Ends} {H : Hp} {j : Nat} {L : Addr} {es : List Addr} {sq : List (Addr × Option Str)} (hi : σ[i]? = some (some (.ref L))) (hL : H L = some (.lst (es.map V.ref))) (hE : Errs H v es sp) (hs : sp.length ≤ 10000) (h : EvXs ta σ v sq) (hl : sq.length ≤ 10000)
    (k : ∀ p fs H1, Same H H1 → H1 p = some (.lst (fs.map V.ref)) → Errs H1 v fs (sp ++ sq) → u D (σ.set j (some (.ref p))) H1) : tSeq (tAsg (tOp rCat (tVar i) (tLst ta)) (gName j)) u D σ H := by
  show tOp rCat (tVar i) (tLst ta) σ H (fun x H1 => u D (σ.set j (some x)) H1)
  exact cat_xs hi hL hE hs h hl k
end
end VK

set_option maxHeartbeats 4000000
namespace VK
open PySem PySem.VK PySem.Spec PyProof.Rows L2
/-! ## own error classes in bundles -/
structure XBd where
  B : String
  i : String
  nw : String
  bm : List Value
def fldNames : List Str := ["value", "line", "index", "number", "limit"]
structure XB (b : XBd) : Prop where
  KF : PySem.W.KxsFacts b.B b.i
  FB : ExcBaseFacts b.B b.nw b.i b.bm
  SF : StoreFacts b.B b.bm "object.__setattr__" "object"
  tl : PySem.W.excTail b.bm b.bm = true
  ai : ∀ K, PySem.W.alongIn K "__init__" b.bm = some (some (.builtin b.i))
  as : ∀ K, PySem.W.alongIn K "__setattr__" b.bm = some (some (.builtin "object.__setattr__"))
  ag : ∀ K, PySem.W.alongIn K "__getattribute__" b.bm = some (some (.builtin "BaseException.__getattribute__"))
  aa : ∀ K, PySem.W.alongIn K "__getattr__" b.bm = some none
  ac : ∀ K, PySem.W.alongIn K "__class__" b.bm = some (some (.builtin "object.__class__"))
  af : ∀ K x, x ∈ fldNames → PySem.W.alongIn K x b.bm = some none
  hE : b.bm.contains (.type "BaseException") = true
  hB : b.bm.contains (.type b.B) = true
  hO : b.bm.contains (.type "object") = true
  hr : ∀ a, b.bm.contains (.ref a) = false
def xValueError : XBd := ⟨"ValueError", "ValueError.__init__", "ValueError.__new__", [.type "ValueError", .type "Exception", .type "BaseException", .type "object"]⟩
theorem xb_ValueError : XB xValueError where
  KF := PySem.W.kxs_ValueError
  FB := PySem.F.excBase_ValueError
  SF := PySem.F.store_ValueError
  tl := by decide +kernel
  ai := fun K => by kernel_rfl
  as := fun K => by kernel_rfl
  ag := fun K => by kernel_rfl
  aa := fun K => by kernel_rfl
  ac := fun K => by kernel_rfl
  af := fun K x h => by
    simp only [fldNames, List.mem_cons, List.not_mem_nil, or_false] at h
    rcases h with rfl | rfl | rfl | rfl | rfl <;> kernel_rfl
  hE := by decide +kernel
  hB := by decide +kernel
  hO := by decide +kernel
  hr := fun a => rfl
def xLookupError : XBd := ⟨"LookupError", "LookupError.__init__", "LookupError.__new__", [.type "LookupError", .type "Exception", .type "BaseException", .type "object"]⟩
theorem xb_LookupError : XB xLookupError where
  KF := PySem.W.kxs_LookupError
  FB := PySem.F.excBase_LookupError
  SF := PySem.F.store_LookupError
  tl := by decide +kernel
  ai := fun K => by kernel_rfl
  as := fun K => by kernel_rfl
  ag := fun K => by kernel_rfl
  aa := fun K => by kernel_rfl
  ac := fun K => by kernel_rfl
  af := fun K x h => by
    simp only [fldNames, List.mem_cons, List.not_mem_nil, or_false] at h
    rcases h with rfl | rfl | rfl | rfl | rfl <;> kernel_rfl
  hE := by decide +kernel
  hB := by decide +kernel
  hO := by decide +kernel
  hr := fun a => rfl
def xIndexError : XBd := ⟨"IndexError", "IndexError.__init__", "IndexError.__new__", [.type "IndexError", .type "LookupError", .type "Exception", .type "BaseException", .type "object"]⟩
theorem xb_IndexError : XB xIndexError where
  KF := PySem.W.kxs_IndexError
  FB := PySem.F.excBase_IndexError
  SF := PySem.F.store_IndexError
  tl := by decide +kernel
  ai := fun K => by kernel_rfl
  as := fun K => by kernel_rfl
  ag := fun K => by kernel_rfl
  aa := fun K => by kernel_rfl
  ac := fun K => by kernel_rfl
  af := fun K x h => by
    simp only [fldNames, List.mem_cons, List.not_mem_nil, or_false] at h
    rcases h with rfl | rfl | rfl | rfl | rfl <;> kernel_rfl
  hE := by decide +kernel
  hB := by decide +kernel
  hO := by decide +kernel
  hr := fun a => rfl
def xOverflowError : XBd := ⟨"OverflowError", "OverflowError.__init__", "OverflowError.__new__", [.type "OverflowError", .type "ArithmeticError", .type "Exception", .type "BaseException", .type "object"]⟩
theorem xb_OverflowError : XB xOverflowError where
  KF := PySem.W.kxs_OverflowError
  FB := PySem.F.excBase_OverflowError
  SF := PySem.F.store_OverflowError
  tl := by decide +kernel
  ai := fun K => by kernel_rfl
  as := fun K => by kernel_rfl
  ag := fun K => by kernel_rfl
  aa := fun K => by kernel_rfl
  ac := fun K => by kernel_rfl
  af := fun K x h => by
    simp only [fldNames, List.mem_cons, List.not_mem_nil, or_false] at h
    rcases h with rfl | rfl | rfl | rfl | rfl <;> kernel_rfl
  hE := by decide +kernel
  hB := by decide +kernel
  hO := by decide +kernel
  hr := fun a => rfl
def xRuntimeError : XBd := ⟨"RuntimeError", "RuntimeError.__init__", "RuntimeError.__new__", [.type "RuntimeError", .type "Exception", .type "BaseException", .type "object"]⟩
theorem xb_RuntimeError : XB xRuntimeError where
  KF := PySem.W.kxs_RuntimeError
  FB := PySem.F.excBase_RuntimeError
  SF := PySem.F.store_RuntimeError
  tl := by decide +kernel
  ai := fun K => by kernel_rfl
  as := fun K => by kernel_rfl
  ag := fun K => by kernel_rfl
  aa := fun K => by kernel_rfl
  ac := fun K => by kernel_rfl
  af := fun K x h => by
    simp only [fldNames, List.mem_cons, List.not_mem_nil, or_false] at h
    rcases h with rfl | rfl | rfl | rfl | rfl <;> kernel_rfl
  hE := by decide +kernel
  hB := by decide +kernel
  hO := by decide +kernel
  hr := fun a => rfl

/-- what an __init__ of one field is, of none -/
def IniOk (P : Program) (K : PySem.W.Frag) (C : Addr) : Option Str → Prop
  | some x => ∃ (fI : Addr) (qual msg : Str) (p1 p2 a1 a2 a3 a4 a5 a6 b1 b2 b3 b4 : Pos), XIni P K C fI qual (iA x p1 p2) (iB msg x a1 a2 a3 a4 a5 a6 b1 b2 b3 b4) (iS x) ∧ (a3.endLine == a5.line) = true ∧ x ∈ fldNames ∧
      PySem.W.findIn K (.ref C) x = some none
  | none => ∃ (fI : Addr) (qual msg : Str) (p1 a1 a2 a3 a4 a5 a6 : Pos), XIni P K C fI qual (iA0 p1) (iB0 msg a1 a2 a3 a4 a5 a6) iS0 ∧ (a3.endLine == a5.line) = true
structure EC (P : Program) (K : PySem.W.Frag) (mg : Str → Option Value) (cn : Str) (C : Addr) (b : XBd) (fl : Option Str) : Prop where
  xb : XB b
  T : XCls P K b.B b.i b.nw b.bm C
  g : mg cn = some (.ref C)
  cd : ∃ cd, PySem.W.clsIn K C = some cd ∧ cd.name = cn ∧ cd.mro = .ref C :: b.bm
  ini : IniOk P K C fl
/-- from what the top has written -/
theorem ec_cls {P : Program} {K : PySem.W.Frag} {C : Addr} {b : XBd} {cd : ClassData} {dd : Option Addr} {sl : Array (Option Value)} {k0 k1 k2 k3 k5 : Option Value} (xb : XB b)
    (lk : K.lookup C = some ⟨.type "type", dd, .cls cd, sl⟩) (hm : cd.mro = .ref C :: b.bm) (hs : sl.toList = [k0, k1, k2, k3, some (.builtin b.nw), k5]) (hd : cd.hasDel = false) (hh : cd.hasDict = true)
    (n1 : PySem.W.nsIn K cd.ns "__setattr__" = some none) (n2 : PySem.W.nsIn K cd.ns "__getattribute__" = some none) (n3 : PySem.W.nsIn K cd.ns "__getattr__" = some none) (n4 : PySem.W.nsIn K cd.ns "__class__" = some none)
    (kp : PySem.W.keepIn K (.ref C) = true) (thr : PySem.W.nsIn K cStatics "thirdparty.any" = some none) (spG : PySem.W.specialIn K (.builtin "object.__class__") "__get__" = some (some (.builtin "getset_descriptor.__get__"))) (spT : PySem.W.takesIn K (.builtin "object.__class__") = some true) :
    XCls P K b.B b.i b.nw b.bm C := by
  have hc : PySem.W.clsIn K C = some cd := by unfold PySem.W.clsIn; rw [lk]
  have own : ∀ n, PySem.W.nsIn K cd.ns n = some none → PySem.W.findIn K (.ref C) n = PySem.W.alongIn K n b.bm := fun n hn => by
    unfold PySem.W.findIn
    simp only [lk, hm]
    rw [PySem.W.alongIn]
    unfold PySem.W.ownIn
    simp only [lk, hn]
  have mro : ∀ v, PySem.W.mroIn K C v = some ((Value.ref C :: b.bm).contains v) := fun v => by
    unfold PySem.W.mroIn
    rw [hc, Option.bind_some, hm]
    rfl
  exact {
    ini := by
      unfold PySem.W.excInitIn
      simp only [lk, hm, hs, hd, xb.tl, beq_self_eq_true, Bool.not_false, Bool.and_self]
    ovr := by
      unfold PySem.W.excOver
      simp only [hc, Option.any_some, hm, xb.tl, beq_self_eq_true, Bool.and_self]
    hsd := by
      unfold PySem.W.hasDictIn
      rw [hc, Option.any_some, hh]
    sat := (own _ n1).trans (xb.as K)
    gat := (own _ n2).trans (xb.ag K)
    gga := (own _ n3).trans (xb.aa K)
    cla := (own _ n4).trans (xb.ac K)
    sBE := (mro _).trans (by rw [List.contains_cons, xb.hE, Bool.or_true])
    sBB := (mro _).trans (by rw [List.contains_cons, xb.hB, Bool.or_true])
    tyC := by
      show (K.lookup C).map (·.cls) = _
      rw [lk]
      rfl
    mOb := (mro _).trans (by rw [List.contains_cons, xb.hO, Bool.or_true])
    mC := (mro _).trans (by rw [List.contains_cons, beq_self_eq_true, Bool.true_or])
    kpC := kp
    thr := thr
    sup := by
      unfold PySem.W.ks_superIn
      rw [hc, Option.bind_some, hm, List.dropWhile_cons]
      simp only [bne_self_eq_false, Bool.false_eq_true, if_false, List.drop_succ_cons, List.drop_zero]
      exact xb.ai K
    spG := spG
    spT := spT }
theorem ec_get {K : PySem.W.Frag} {C : Addr} {b : XBd} {cd : ClassData} {dd : Option Addr} {sl : Array (Option Value)} {x : Str} (xb : XB b)
    (lk : K.lookup C = some ⟨.type "type", dd, .cls cd, sl⟩) (hm : cd.mro = .ref C :: b.bm) (hx : x ∈ fldNames) (n : PySem.W.nsIn K cd.ns x = some none) : PySem.W.findIn K (.ref C) x = some none := by
  unfold PySem.W.findIn
  simp only [lk, hm]
  rw [PySem.W.alongIn]
  unfold PySem.W.ownIn
  simp only [lk, n]
  exact xb.af K x hx
section
variable {P : Program} {K : PySem.W.Frag} {mg : Str → Option Value} {cn cn' : Str} {C C' : Addr} {b b' : XBd} {fl fl' : Option Str}
theorem EC.mro (E : EC P K mg cn C b fl) (v : Value) : PySem.W.subIn K (.ref C) v = some ((Value.ref C :: b.bm).contains v) := by
  obtain ⟨cd, hc, _, hm⟩ := E.cd
  show PySem.W.mroIn K C v = _
  unfold PySem.W.mroIn
  rw [hc, Option.bind_some, hm]
  rfl
theorem EC.kit (E : EC P K mg cn C b fl) (E' : EC P K mg cn' C' b' fl') : PySem.W.kitOne K (.ref C) (.ref C') = some (decide (cn = cn')) := by
  obtain ⟨cd, hc, hn, hm⟩ := E.cd
  obtain ⟨cd', hc', hn', hm'⟩ := E'.cd
  have iff : C = C' ↔ cn = cn' := ⟨fun e => by
    subst e
    rw [hc] at hc'
    cases hc'
    rw [← hn, ← hn'], fun e => by
    subst e
    have q := E.g.symm.trans E'.g
    cases q
    rfl⟩
  unfold PySem.W.kitOne
  by_cases h : C = C'
  · rw [if_pos (by rw [h]; exact beq_self_eq_true _), decide_eq_true (iff.mp h)]
  · have hv : (Value.ref C == Value.ref C') = false := by
      rw [beq_eq_false_iff_ne]
      intro z
      cases z
      exact h rfl
    have hv' : (Value.ref C' == Value.ref C) = false := by
      rw [beq_eq_false_iff_ne]
      intro z
      cases z
      exact h rfl
    rw [if_neg (by rw [hv]; decide)]
    unfold PySem.W.kitCls
    have ty := E'.T.tyC
    simp only [hc', ty, Option.isSome_some, beq_self_eq_true, Bool.and_self, if_true]
    rw [E.mro, List.contains_cons, hv', E.xb.hr, Bool.or_self, decide_eq_false (fun e => h (iff.mpr e))]
theorem EC.kitT (E : EC P K mg cn C b fl) {T : String} (m : PySem.W.kitMeta T = true) : PySem.W.kitOne K (.ref C) (.type T) = some (b.bm.contains (.type T)) := by
  unfold PySem.W.kitOne
  have hv : (Value.ref C == Value.type T) = false := by
    rw [beq_eq_false_iff_ne]
    intro z
    cases z
  have hv' : (Value.type T == Value.ref C) = false := by
    rw [beq_eq_false_iff_ne]
    intro z
    cases z
  rw [if_neg (by rw [hv]; decide)]
  unfold PySem.W.kitCls
  simp only [m, if_true]
  rw [E.mro, List.contains_cons, hv', Bool.false_or]
theorem EC.xok (E : EC P K mg cn C b fl) : XOk K C := ⟨_, _, _, _, _, E.T⟩
theorem EC.get {x : Str} (E : EC P K mg cn C b (some x)) : PySem.W.findIn K (.ref C) x = some none := by
  obtain ⟨_, _, _, _, _, _, _, _, _, _, _, _, _, _, _, _, _, _, q⟩ := E.ini
  exact q
end
theorem fldNames_ok {x : Str} (h : x ∈ fldNames) : (x == ("self" : Str)) = false ∧ (("__class__" : Str) == x) = false ∧ (("super" : Str) == x) = false ∧ (x == ("__debug__" : Str)) = false := by
  simp only [fldNames, List.mem_cons, List.not_mem_nil, or_false] at h
  rcases h with rfl | rfl | rfl | rfl | rfl <;> decide
theorem taker_no {K : PySem.W.Frag} {C : Addr} {x : Str} (h : PySem.W.findIn K (.ref C) x = some none) : PySem.W.takerIn K C x = some none := by
  unfold PySem.W.takerIn
  rw [h]
  rfl
/-- what a body needs to make one -/
structure MkR (X : Cx) : Prop where
  su : X.mg "super" = none
  ns : (X.prog.main.scope.names.lookup ("super" : Str)).isSome = false
  dp : X.A.depth + 1 < recursionLimit
section
variable {X : Cx} {cn x y : Str} {C : Addr} {b : XBd} {p q pos kp : Pos} {ty : TE}
theorem EC.mk1 (E : EC X.prog X.K X.mg cn C b (some x)) (R : MkR X) (hg : Gl X cn) (he : PE X (.Name y q) ty) (hdb : (cn == ("__debug__" : Str)) = false := by decide) : PE X (.Call (.Name cn p) [.Name y q] [] pos) (tMk1 C x ty) := by
  obtain ⟨fI, qual, msg, p1, p2, a1, a2, a3, a4, a5, a6, b1, b2, b3, b4, TI, hp, hx, hf⟩ := E.ini
  obtain ⟨x1, x2, x3, x4⟩ := fldNames_ok hx
  refine pe_mk1 E.xb.KF E.xb.FB E.xb.SF E.T TI (taker_no hf) E.g R.su R.ns R.dp hg he ?_ hp x1 x2 x3 x4 (by rfl) hdb
  intro u1 u2 kV doc pm an cda cc ct
  simp only [fldNames, List.mem_cons, List.not_mem_nil, or_false] at hx
  rcases hx with rfl | rfl | rfl | rfl | rfl <;> rfl
theorem EC.mk1K (E : EC X.prog X.K X.mg cn C b (some x)) (R : MkR X) (hg : Gl X cn) (he : PE X (.Name y q) ty) (hdb : (cn == ("__debug__" : Str)) = false := by decide) : PE X (.Call (.Name cn p) [] [⟨some x, .Name y q, kp⟩] pos) (tMk1 C x ty) := by
  obtain ⟨fI, qual, msg, p1, p2, a1, a2, a3, a4, a5, a6, b1, b2, b3, b4, TI, hp, hx, hf⟩ := E.ini
  obtain ⟨x1, x2, x3, x4⟩ := fldNames_ok hx
  refine pe_mk1K E.xb.KF E.xb.FB E.xb.SF E.T TI (taker_no hf) E.g R.su R.ns R.dp hg he ?_ hp x1 x2 x3 x4 (by rfl) (by rfl) (by rfl) hdb
  intro u1 u2 kV doc pm an cda cc ct
  simp only [fldNames, List.mem_cons, List.not_mem_nil, or_false] at hx
  rcases hx with rfl | rfl | rfl | rfl | rfl <;> rfl
theorem EC.mk0 (E : EC X.prog X.K X.mg cn C b none) (R : MkR X) (hg : Gl X cn) (hdb : (cn == ("__debug__" : Str)) = false := by decide) : PE X (.Call (.Name cn p) [] [] pos) (tMk0 C) := by
  obtain ⟨fI, qual, msg, p1, a1, a2, a3, a4, a5, a6, TI, hp⟩ := E.ini
  exact pe_mk0 E.xb.KF E.xb.FB E.T TI E.g R.su R.ns R.dp hg hp hdb
end
/-! ## a bundle from what the top has written: each premise is a fact that k_is finds -/
theorem ec1_mk {P : Program} {K : PySem.W.Frag} {mg : Str → Option Value} {h : Heap} (X : K.In h) (G : h.Ns mainGlobals mg) {cn x : Str} {b : XBd} (xb : XB b) {C fI cda cc : Addr} {cd : ClassData} {dd od cdd cld an : Option Addr} {sl osl ccs csl : Array (Option Value)}
    {k0 k1 k2 k3 k5 : Option Value} {oc kV doc pm ct ccl cl : Value} {qual msg : Str} {p1 p2 a1 a2 a3 a4 a5 a6 b1 b2 b3 b4 : Pos} {vs : Array Value} {file : Str} {tf : Tok}
    (aC : PySem.W.nsIn K mainGlobals cn = some (some (.ref C)))
    (lk : K.lookup C = some ⟨.type "type", dd, .cls cd, sl⟩) (hm : cd.mro = .ref C :: b.bm) (hs : sl.toList = [k0, k1, k2, k3, some (.builtin b.nw), k5]) (hd : cd.hasDel = false) (hh : cd.hasDict = true) (hn : cd.name = cn)
    (n1 : PySem.W.nsIn K cd.ns "__setattr__" = some none) (n2 : PySem.W.nsIn K cd.ns "__getattribute__" = some none) (n3 : PySem.W.nsIn K cd.ns "__getattr__" = some none) (n4 : PySem.W.nsIn K cd.ns "__class__" = some none)
    (kp : PySem.W.keepIn K (.ref C) = true) (thr : PySem.W.nsIn K cStatics "thirdparty.any" = some none) (spG : PySem.W.specialIn K (.builtin "object.__class__") "__get__" = some (some (.builtin "getset_descriptor.__get__"))) (spT : PySem.W.takesIn K (.builtin "object.__class__") = some true)
    (hx : x ∈ fldNames) (n5 : PySem.W.nsIn K cd.ns x = some none)
    (at_ : PySem.W.findIn K (.ref C) "__init__" = some (some (.ref fI))) (fn : PySem.W.isFn K (.ref fI) = true)
    (lf : K.lookup fI = some ⟨oc, od, .func (PySem.W.ksFn "__init__" qual (iA x p1 p2) (iB msg x a1 a2 a3 a4 a5 a6 b1 b2 b3 b4) (iS x) .none kV doc pm an (.ref cda) ct cc), osl⟩)
    (ci : PySem.W.codeIn K (.ref cda) qual = true) (lc : K.lookup cda = some ⟨ccl, cdd, .fields vs, ccs⟩) (hv : vs[2]? = some (.str file tf)) (hf : ((P.main.file : Str) == file) = true)
    (ll : K.lookup cc = some ⟨cl, cld, .cell (some (.ref C)), csl⟩) (hp : (a3.endLine == a5.line) = true) : EC P K mg cn C b (some x) where
  xb := xb
  T := ec_cls xb lk hm hs hd hh n1 n2 n3 n4 kp thr spG spT
  g := PySem.W.mg_of X G aC
  cd := ⟨cd, by unfold PySem.W.clsIn; rw [lk], hn, hm⟩
  ini := ⟨fI, qual, msg, p1, p2, a1, a2, a3, a4, a5, a6, b1, b2, b3, b4, ⟨at_, fn, oc, od, kV, doc, pm, an, cda, cc, ct, osl, lf, ci, ⟨ccl, cdd, vs, ccs, file, tf, lc, hv, hf⟩, cl, cld, csl, ll⟩, hp, hx, ec_get xb lk hm hx n5⟩
theorem ec0_mk {P : Program} {K : PySem.W.Frag} {mg : Str → Option Value} {h : Heap} (X : K.In h) (G : h.Ns mainGlobals mg) {cn : Str} {b : XBd} (xb : XB b) {C fI cda cc : Addr} {cd : ClassData} {dd od cdd cld an : Option Addr} {sl osl ccs csl : Array (Option Value)}
    {k0 k1 k2 k3 k5 : Option Value} {oc kV doc pm ct ccl cl : Value} {qual msg : Str} {p1 a1 a2 a3 a4 a5 a6 : Pos} {vs : Array Value} {file : Str} {tf : Tok}
    (aC : PySem.W.nsIn K mainGlobals cn = some (some (.ref C)))
    (lk : K.lookup C = some ⟨.type "type", dd, .cls cd, sl⟩) (hm : cd.mro = .ref C :: b.bm) (hs : sl.toList = [k0, k1, k2, k3, some (.builtin b.nw), k5]) (hd : cd.hasDel = false) (hh : cd.hasDict = true) (hn : cd.name = cn)
    (n1 : PySem.W.nsIn K cd.ns "__setattr__" = some none) (n2 : PySem.W.nsIn K cd.ns "__getattribute__" = some none) (n3 : PySem.W.nsIn K cd.ns "__getattr__" = some none) (n4 : PySem.W.nsIn K cd.ns "__class__" = some none)
    (kp : PySem.W.keepIn K (.ref C) = true) (thr : PySem.W.nsIn K cStatics "thirdparty.any" = some none) (spG : PySem.W.specialIn K (.builtin "object.__class__") "__get__" = some (some (.builtin "getset_descriptor.__get__"))) (spT : PySem.W.takesIn K (.builtin "object.__class__") = some true)
    (at_ : PySem.W.findIn K (.ref C) "__init__" = some (some (.ref fI))) (fn : PySem.W.isFn K (.ref fI) = true)
    (lf : K.lookup fI = some ⟨oc, od, .func (PySem.W.ksFn "__init__" qual (iA0 p1) (iB0 msg a1 a2 a3 a4 a5 a6) iS0 .none kV doc pm an (.ref cda) ct cc), osl⟩)
    (ci : PySem.W.codeIn K (.ref cda) qual = true) (lc : K.lookup cda = some ⟨ccl, cdd, .fields vs, ccs⟩) (hv : vs[2]? = some (.str file tf)) (hf : ((P.main.file : Str) == file) = true)
    (ll : K.lookup cc = some ⟨cl, cld, .cell (some (.ref C)), csl⟩) (hp : (a3.endLine == a5.line) = true) : EC P K mg cn C b none where
  xb := xb
  T := ec_cls xb lk hm hs hd hh n1 n2 n3 n4 kp thr spG spT
  g := PySem.W.mg_of X G aC
  cd := ⟨cd, by unfold PySem.W.clsIn; rw [lk], hn, hm⟩
  ini := ⟨fI, qual, msg, p1, a1, a2, a3, a4, a5, a6, ⟨at_, fn, oc, od, kV, doc, pm, an, cda, cc, ct, osl, lf, ci, ⟨ccl, cdd, vs, ccs, file, tf, lc, hv, hf⟩, cl, cld, csl, ll⟩, hp⟩
end VK

set_option maxHeartbeats 4000000
namespace VK
open PySem PySem.VK PySem.Spec PyProof.Rows L2
/-! ## comprehensions by a function of the place -/
theorem range_snoc (f : Nat → V) (n : Nat) : (List.range (n + 1)).map f = (List.range n).map f ++ [f n] := by
  rw [List.range_succ, List.map_append]
  rfl
section
variable {K : PySem.W.Frag} {a D : Addr} {xs : List V} {te : TE} {σ : L2.St} {H1 : Hp} {Qd : Hp → Prop} {j : Nat}
theorem lc_map (f : Nat → V) (hD : H1 D = none) (hx : SqL K H1 a xs) (hl : xs.length ≤ 10000) (hw : ∀ x, wipe ((wipe σ [j]).set j (some x)) [j] = wipe σ [j])
    (hs : ∀ i x H, xs[i]? = some x → Same H1 H → ∀ Q : VK, (∀ H', Same H H' → Q (f i) H') → te ((wipe σ [j]).set j (some x)) H Q)
    (hd : ∀ H, Same H1 H → H D = some (.lst ((List.range xs.length).map f)) → Qd H) :
    ∃ W : Nat → Nat → Hp → Prop, (∃ m, W 0 m (upd H1 D (.lst []))) ∧ ∀ i m H, W i m H →
      ((Itl K a).stop i H ∧ Qd H) ∨ ((Itl K a).go i H ∧ ∃ Nx : Hp → Prop, (∀ H', Nx H' → ∃ m', m' < m ∧ W (i + 1) m' H') ∧ ∀ x H', (Itl K a).yld i H x H' → gName j x (wipe σ [j]) H' fun σ2 H2 => wipe σ2 [j] = wipe σ [j] ∧ tYes σ2 H2 fun b H3 =>
        if b = true then te σ2 H3 fun y H4 => ∃ acc, H4 D = some (.lst acc) ∧ acc.length < sizeLine ∧ Nx (upd H4 D (.lst (acc ++ [y]))) else Nx H3) := by
  refine lc_list (K := K) (a := a) (xs := xs) (fun i H => Same H1 H ∧ H D = some (.lst ((List.range i).map f))) ⟨new_same hD, upd_same⟩ (fun i H _ p => p.1.seq hx) ?_ (fun H p => hd H p.1 p.2)
  intro i x H hi p
  refine ⟨hw x, ?_⟩
  dsimp only [tYes]
  rw [if_pos rfl]
  refine hs i x H hi p.1 _ fun H' s => ⟨_, s _ _ p.2, ?_, ?_, ?_⟩
  · rw [List.length_map, List.length_range]
    have := (List.getElem?_eq_some_iff.mp hi).1
    exact Nat.lt_of_lt_of_le this (Nat.le_trans hl (by decide))
  · intro b o e
    have hb : b ≠ D := fun z => by
      subst z
      rw [hD] at e
      cases e
    rw [upd_ne hb]
    exact s _ _ (p.1 _ _ e)
  · rw [upd_same, range_snoc]
theorem lc_mapR {n : Nat} (f : Nat → V) (hD : H1 D = none) (hl : n ≤ 10000) (hw : ∀ x, wipe ((wipe σ [j]).set j (some x)) [j] = wipe σ [j])
    (hs : ∀ i H, i < n → Same H1 H → ∀ Q : VK, (∀ H', Same H H' → Q (f i) H') → te ((wipe σ [j]).set j (some (.int (0 + (i : Int))))) H Q)
    (hd : ∀ H, Same H1 H → H D = some (.lst ((List.range n).map f)) → Qd H) :
    ∃ W : Nat → Nat → Hp → Prop, (∃ m, W 0 m (upd H1 D (.lst []))) ∧ ∀ i m H, W i m H →
      ((Itr 0 n).stop i H ∧ Qd H) ∨ ((Itr 0 n).go i H ∧ ∃ Nx : Hp → Prop, (∀ H', Nx H' → ∃ m', m' < m ∧ W (i + 1) m' H') ∧ ∀ x H', (Itr 0 n).yld i H x H' → gName j x (wipe σ [j]) H' fun σ2 H2 => wipe σ2 [j] = wipe σ [j] ∧ tYes σ2 H2 fun b H3 =>
        if b = true then te σ2 H3 fun y H4 => ∃ acc, H4 D = some (.lst acc) ∧ acc.length < sizeLine ∧ Nx (upd H4 D (.lst (acc ++ [y]))) else Nx H3) := by
  refine lc_range (lo := 0) (n := n) (fun i H => Same H1 H ∧ H D = some (.lst ((List.range i).map f))) ⟨new_same hD, upd_same⟩ ?_ (fun H p => hd H p.1 p.2)
  intro i H hi p
  refine ⟨hw _, ?_⟩
  dsimp only [tYes]
  rw [if_pos rfl]
  refine hs i H hi p.1 _ fun H' s => ⟨_, s _ _ p.2, ?_, ?_, ?_⟩
  · rw [List.length_map, List.length_range]
    exact Nat.lt_of_lt_of_le hi (Nat.le_trans hl (by decide))
  · intro b o e
    have hb : b ≠ D := fun z => by
      subst z
      rw [hD] at e
      cases e
    rw [upd_ne hb]
    exact s _ _ (p.1 _ _ e)
  · rw [upd_same, range_snoc]
end
theorem pc_inv {α β : Type} {R : α → β → Prop} {es : List α} {s : β} {sp : List β} (h : Paired R es (s :: sp)) : ∃ e es', es = e :: es' ∧ R e s ∧ Paired R es' sp := by
  cases h with
  | cons a t => exact ⟨_, _, rfl, a, t⟩
theorem pn_inv {α β : Type} {R : α → β → Prop} {es : List α} (h : Paired R es ([] : List β)) : es = [] := by
  cases h
  rfl
/-! ## values that are made without a change -/
def EvP1 (te : TE) (σ : L2.St) (H0 : Hp) (v : V) : Prop := ∀ H Q, Same H0 H → Q v H → te σ H Q
def EvP (ta : TA) (σ : L2.St) (H0 : Hp) (vs : List V) : Prop := ∀ H Q, Same H0 H → Q vs H → ta σ H Q
section
variable {K : PySem.W.Frag} {σ : L2.St} {H0 H : Hp} {te : TE} {ta : TA} {v : V} {vs ws : List V} {i j : Nat} {Q : VK} {u : TS} {D : Ends} {L : Addr}
theorem pv_nil : EvP tNil σ H0 [] := fun _ _ _ q => q
theorem pv_cons (h : EvP1 te σ H0 v) (t : EvP ta σ H0 vs) : EvP (tCons te ta) σ H0 (v :: vs) := fun H Q s q => h H _ s (t H _ s q)
theorem lst_ps (h : EvP ta σ H0 vs) (s : Same H0 H) (hl : vs.length ≤ 10000) (k : ∀ p H1, Same H H1 → H1 p = some (.lst vs) → Q (.ref p) H1) : tLst ta σ H Q :=
  h H _ s ⟨Nat.le_trans hl (by decide), fun p hp => k p _ (new_same hp) upd_same⟩
theorem st_ps (h : EvP ta σ H0 vs) (s : Same H0 H) (hl : vs.length ≤ 10000) (k : ∀ p H1, Same H H1 → H1 p = some (.lst vs) → u D (σ.set i (some (.ref p))) H1) : tSeq (tAsg (tLst ta) (gName i)) u D σ H := by
  show tLst ta σ H (fun x H1 => u D (σ.set i (some x)) H1)
  exact lst_ps h s hl k
theorem cat_ps (hi : σ[i]? = some (some (.ref L))) (hL : H L = some (.lst ws)) (hws : ws.length ≤ 10000) (h : EvP ta σ H0 vs) (s : Same H0 H) (hl : vs.length ≤ 10000) (k : ∀ p H1, Same H H1 → H1 p = some (.lst (ws ++ vs)) → Q (.ref p) H1) :
    tOp rCat (tVar i) (tLst ta) σ H Q := ⟨_, hi, lst_ps h s hl fun p H1 s1 hp => by
  refine ⟨L, p, _, _, rfl, rfl, s1 _ _ hL, hp, ?_, fun q hq => ?_⟩
  · exact Nat.le_trans (Nat.add_le_add hws hl) (by decide)
  · exact k q _ (s1.trans (new_same hq)) upd_same⟩
theorem st_catps (hi : σ[i]? = some (some (.ref L))) (hL : H L = some (.lst ws)) (hws : ws.length ≤ 10000) (h : EvP ta σ H0 vs) (s : Same H0 H) (hl : vs.length ≤ 10000) (k : ∀ p H1, Same H H1 → H1 p = some (.lst (ws ++ vs)) → u D (σ.set j (some (.ref p))) H1) :
    tSeq (tAsg (tOp rCat (tVar i) (tLst ta)) (gName j)) u D σ H := by
  show tOp rCat (tVar i) (tLst ta) σ H (fun x H1 => u D (σ.set j (some x)) H1)
  exact cat_ps hi hL hws h s hl k
/-- isinstance(e, c) -/
theorem is_at {P : Program} {mg : Str → Option Value} {cn : Str} {C e : Addr} {b : XBd} {fl : Option Str} {c : V} {cv : Value} {r : Bool} (E : EC P K mg cn C b fl) (h : ErrAt H v e C fl) (hc : ∀ u, RelV c u → u = cv) (hk : PySem.W.kitOne K (.ref C) cv = some r) (q : Q (.bl r) H) :
    rIsX K [.ref e, c] H Q := by
  cases fl with
  | none => exact ⟨e, C, none, c, cv, r, rfl, h, (fun dd z => nomatch z), E.xok, hc, hk, q⟩
  | some x =>
    obtain ⟨d, h1, h2⟩ := h
    exact ⟨e, C, some d, c, cv, r, rfl, h1, (fun dd z => by cases z; exact ⟨_, h2⟩), E.xok, hc, hk, q⟩
theorem pv_is {P : Program} {mg : Str → Option Value} {cn : Str} {C e : Addr} {b : XBd} {fl : Option Str} {c : V} {cv : Value} {r : Bool} (E : EC P K mg cn C b fl) (h : ErrAt H0 v e C fl) (hv : σ[i]? = some (some (.ref e))) (hc : ∀ u, RelV c u → u = cv) (hk : PySem.W.kitOne K (.ref C) cv = some r) :
    EvP1 (tCB (rIsX K) (tCons (tVar i) (tCons (tC c) tNil))) σ H0 (.bl r) := fun H Q s q => ⟨_, hv, is_at E (h.same s) hc hk q⟩
/-- t * int(isinstance(e, c)) -/
theorem pv_txt {P : Program} {mg : Str → Option Value} {cn z : Str} {C e : Addr} {b : XBd} {fl : Option Str} {c : V} {cv : Value} {r : Bool} {r2 : R2} {rI : List V → Hp → VK → Prop} (E : EC P K mg cn C b fl) (h : ErrAt H0 v e C fl) (hv : σ[i]? = some (some (.ref e))) (hc : ∀ u, RelV c u → u = cv)
    (hk : PySem.W.kitOne K (.ref C) cv = some r) (h2 : ∀ H Q, Q (.str (if r then z else Str.empty)) H → r2 (.str z) (.int (if r then 1 else 0)) H Q) (hI : ∀ H Q, Q (.int (if r then 1 else 0)) H → rI [.bl r] H Q) :
    EvP1 (tOp r2 (tC (.str z)) (tCB rI (tCons (tCB (rIsX K) (tCons (tVar i) (tCons (tC c) tNil))) tNil))) σ H0 (.str (if r then z else Str.empty)) := fun H Q s q =>
  pv_is E h hv hc hk H _ s (hI _ _ (h2 _ _ q))
/-- some[k].x -/
theorem pv_fld {e C : Addr} {x : Str} {es : List V} {k : Nat} (hv : σ[i]? = some (some (.ref L))) (hL : H0 L = some (.lst es)) (he : es[k]? = some (.ref e)) (h : ErrAt H0 v e C (some x)) (ok : XOk K C) (hf : PySem.W.findIn K (.ref C) x = some none) {te : TE}
    (ht : ∀ H Q, te σ H Q = (∃ v, σ[i]? = some (some v) ∧ rIxL K v (.int (k : Int)) H Q)) : EvP1 (tXatA K x te) σ H0 v := fun H Q s q => by
  obtain ⟨d, h1, h2⟩ := h.same s
  show te σ H _
  rw [ht]
  refine ⟨_, hv, L, es, _, _, rfl, rfl, SqL.of (s _ _ hL), atI_nat he, e, C, d, v, rfl, h1, h2, ok, hf, q⟩
end
section
variable {X : Cx} {x : Str} {pos : Pos} {K : PySem.W.Frag} {te : TE}
/-- within a comprehension: the written part named from outside -/
theorem pe_xatK {e : Expr} (hK : X.K = K) (he : PE X e te) (hb : attributeBase e x X.env (eval e X.env) = eval e X.env := by rfl) : PE X (.Attribute e x pos) (tXatA K x te) := by
  subst hK
  exact pe_xatA he hb
def rRepr (K : PySem.W.Frag) : List V → Hp → VK → Prop := fun xs H Q => ∃ v d, xs = [v] ∧ Dr K H v d ∧ d.showable = true ∧ d.shown.length ≤ sizeLine ∧ d.depth ≤ 60 ∧ Q (.str d.shown) H
theorem call_reprKo (hK : X.K = K) (hg : X.A.guards = some []) (hu : X.A.units + 64 < cLine) : CallR X (.builtin "repr") (rRepr K) := by
  subst hK
  exact call_repr hg hu
end
end VK

set_option maxHeartbeats 4000000
namespace VK
open PySem PySem.VK PySem.Spec PyProof.Rows L2
/-! ## data is one; what doesn't lean on an address -/
theorem Fl.det {v : V} {d d' : PyData} (h : Fl v d) (h' : Fl v d') : d = d' := by cases h <;> cases h' <;> rfl
theorem fls_det : ∀ {kvs : List (Key × V)} {ds ds' : List (PyData × PyData)}, Paired (fun (p : Key × V) (q : PyData × PyData) => q.1 = keyD p.1 ∧ Fl p.2 q.2) kvs ds → Paired (fun (p : Key × V) (q : PyData × PyData) => q.1 = keyD p.1 ∧ Fl p.2 q.2) kvs ds' → ds = ds'
  | _, _, _, .nil, .nil => rfl
  | _, _, _, .cons a t, .cons b u => by
    have e1 := a.1.trans b.1.symm
    have e2 := a.2.det b.2
    rw [Prod.ext e1 e2, fls_det t u]
mutual
theorem Dt.det {H : Hp} : ∀ (d : PyData) (v : V) (d' : PyData), Dt H v d → Dt H v d' → d = d'
  | .none, _, _, h, h' => by cases h; cases h'; rfl
  | .bool _, _, _, h, h' => by cases h; cases h'; rfl
  | .int _, _, _, h, h' => by cases h; cases h'; rfl
  | .str _, _, _, h, h' => by cases h; cases h'; rfl
  | .list ds, _, d', h, h' => by
    cases h with
    | lst ha hs =>
      cases h' with
      | lst hb ht =>
        have e := ha.symm.trans hb
        cases e
        rw [DtAll.det ds _ _ hs ht]
      | tup hb ht => cases ha.symm.trans hb
      | dct hb ht => cases ha.symm.trans hb
  | .tuple ds, _, d', h, h' => by
    cases h with
    | tup ha hs =>
      cases h' with
      | tup hb ht =>
        have e := ha.symm.trans hb
        cases e
        rw [DtAll.det ds _ _ hs ht]
      | lst hb ht => cases ha.symm.trans hb
      | dct hb ht => cases ha.symm.trans hb
  | .dict ds, _, d', h, h' => by
    cases h with
    | dct ha hs =>
      cases h' with
      | dct hb ht =>
        have e := ha.symm.trans hb
        cases e
        rw [fls_det hs ht]
      | lst hb ht => cases ha.symm.trans hb
      | tup hb ht => cases ha.symm.trans hb
theorem DtAll.det {H : Hp} : ∀ (ds : List PyData) (vs : List V) (ds' : List PyData), DtAll H vs ds → DtAll H vs ds' → ds = ds'
  | [], _, _, h, h' => by cases h; cases h'; rfl
  | d :: ds, _, _, h, h' => by
    cases h with
    | cons h1 h2 =>
      cases h' with
      | cons g1 g2 => rw [Dt.det d _ _ h1 g1, DtAll.det ds _ _ h2 g2]
end
mutual
theorem Dt.cut {H H' : Hp} {a : Addr} {da : PyData} (ha : Dt H (.ref a) da) (k : ∀ b o, H b = some o → b ≠ a → H' b = some o) : ∀ (d : PyData) (v : V), Dt H v d → sizeOf d < sizeOf da → Dt H' v d
  | .none, _, h, _ => by cases h; exact .non
  | .bool b, _, h, _ => by cases h; exact .bl b
  | .int i, _, h, _ => by cases h; exact .int i
  | .str x, _, h, _ => by cases h; exact .str x
  | .list ds, _, h, z => by
    have h0 := h
    cases h with
    | @lst b _ _ hb hs =>
      refine .lst (k _ _ hb fun e => ?_) (DtAll.cut ha k ds _ hs (by simp only [PyData.list.sizeOf_spec] at z; omega))
      subst e
      rw [Dt.det _ _ _ h0 ha] at z
      exact Nat.lt_irrefl _ z
  | .tuple ds, _, h, z => by
    have h0 := h
    cases h with
    | @tup b _ _ hb hs =>
      refine .tup (k _ _ hb fun e => ?_) (DtAll.cut ha k ds _ hs (by simp only [PyData.tuple.sizeOf_spec] at z; omega))
      subst e
      rw [Dt.det _ _ _ h0 ha] at z
      exact Nat.lt_irrefl _ z
  | .dict ds, _, h, z => by
    have h0 := h
    cases h with
    | @dct b _ _ hb hs =>
      refine .dct (k _ _ hb fun e => ?_) hs
      subst e
      rw [Dt.det _ _ _ h0 ha] at z
      exact Nat.lt_irrefl _ z
theorem DtAll.cut {H H' : Hp} {a : Addr} {da : PyData} (ha : Dt H (.ref a) da) (k : ∀ b o, H b = some o → b ≠ a → H' b = some o) : ∀ (ds : List PyData) (vs : List V), DtAll H vs ds → sizeOf ds < sizeOf da → DtAll H' vs ds
  | [], _, h, _ => by cases h; exact .nil
  | d :: ds, _, h, z => by
    cases h with
    | cons h1 h2 =>
      simp only [List.cons.sizeOf_spec] at z
      exact .cons (Dt.cut ha k d _ h1 (by omega)) (DtAll.cut ha k ds _ h2 (by omega))
end
/-- xs.append(9) -/
theorem Dt.app9 {H : Hp} {a : Addr} {xs : List V} {ds : List PyData} (h : H a = some (.lst xs)) (hs : DtAll H xs ds) : Dt (upd H a (.lst (xs ++ [.int 9]))) (.ref a) (.list (ds ++ [.int 9])) := by
  refine .lst upd_same (DtAll.append (DtAll.cut (.lst h hs) (fun b o e hb => by rw [upd_ne hb]; exact e) ds xs hs (by simp only [PyData.list.sizeOf_spec]; omega)) (.cons (.int 9) .nil))
/-! ## lists that are made -/
def EvL (te : TE) (σ : L2.St) (H0 : Hp) (vs : List V) : Prop := ∀ H Q, Same H0 H → (∀ p H1, Same H H1 → H1 p = some (.lst vs) → Q (.ref p) H1) → te σ H Q
section
variable {K : PySem.W.Frag} {σ : L2.St} {H0 H : Hp} {te tf : TE} {ta : TA} {v : V} {vs ws : List V} {i : Nat} {Q : VK}
theorem ev_lst (h : EvP ta σ H0 vs) (hl : vs.length ≤ 10000) : EvL (tLst ta) σ H0 vs := fun H Q s k => lst_ps h s hl k
theorem ev_rep {k : Int} (h : EvL te σ H0 vs) (h0 : 0 ≤ k) (h1 : k < 1000) (hl : vs.length * k.toNat ≤ 10000) : EvL (tOp rRep te (tC (.int k))) σ H0 (List.replicate k.toNat vs).flatten := fun H Q s q =>
  h H _ s fun p H1 s1 hp => ⟨p, k, vs, rfl, rfl, hp, by omega, by omega, Nat.le_trans hl (by decide), fun p2 hp2 => q p2 _ (s1.trans (new_same hp2)) upd_same⟩
theorem ev_cat (h : EvL te σ H0 vs) (g : EvL tf σ H0 ws) (hl : vs.length ≤ 10000) (hm : ws.length ≤ 10000) : EvL (tOp rCat te tf) σ H0 (vs ++ ws) := fun H Q s q =>
  h H _ s fun p H1 s1 hp => g H1 _ (s.trans s1) fun p2 H2 s2 hp2 => ⟨p, p2, _, _, rfl, rfl, s2 _ _ hp, hp2, Nat.le_trans (Nat.add_le_add hl hm) (by decide), fun p3 hp3 => q p3 _ ((s1.trans s2).trans (new_same hp3)) upd_same⟩
theorem pv_str {x : Str} : EvP1 (tC (.str x)) σ H0 (.str x) := fun H Q s q => q
theorem pv_var (h : σ[i]? = some (some v)) : EvP1 (tVar i) σ H0 v := fun H Q s q => ⟨_, h, q⟩
end
/-! ## texts and bools in lists, as data -/
theorem dpAll_str {K : PySem.W.Frag} {H : Hp} : ∀ ss : List Str, DpAll K H (ss.map V.str) (ss.map PyData.str)
  | [] => .nil
  | s :: ss => .cons (.str s) (dpAll_str ss)
theorem dpAll_bl {K : PySem.W.Frag} {H : Hp} : ∀ ss : List Bool, DpAll K H (ss.map V.bl) (ss.map PyData.bool)
  | [] => .nil
  | s :: ss => .cons (.bl s) (dpAll_bl ss)
theorem strs_lay : ∀ ss : List Str, (∀ s ∈ ss, PyData.strOk s = true) → PyData.canLayAll0 (ss.map PyData.str) = true ∧ PyData.depthAll (ss.map PyData.str) = 0
  | [], _ => ⟨by simp only [List.map_nil, PyData.canLayAll0], by simp only [List.map_nil, PyData.depthAll]⟩
  | s :: ss, h => by
    have r := strs_lay ss fun x hx => h x (List.mem_cons_of_mem _ hx)
    have r0 := h s List.mem_cons_self
    exact ⟨by simp only [List.map_cons, PyData.canLayAll0, PyData.canLay0, r0, r.1]; rfl, by simp only [List.map_cons, PyData.depthAll, PyData.depth, r.2]; rfl⟩
theorem bls_lay : ∀ ss : List Bool, PyData.canLayAll0 (ss.map PyData.bool) = true ∧ PyData.depthAll (ss.map PyData.bool) = 0
  | [] => ⟨by simp only [List.map_nil, PyData.canLayAll0], by simp only [List.map_nil, PyData.depthAll]⟩
  | s :: ss => by
    have r := bls_lay ss
    exact ⟨by simp only [List.map_cons, PyData.canLayAll0, PyData.canLay0, r.1]; rfl, by simp only [List.map_cons, PyData.depthAll, PyData.depth, r.2]; rfl⟩
theorem shaped_strs {ss : List Str} (h : ∀ s ∈ ss, PyData.strOk s = true) : SeqAt.shaped (.list (ss.map PyData.str)) = true := by
  have r := strs_lay ss h
  unfold SeqAt.shaped
  simp only [PyData.canLay0, PyData.depth, r.1, r.2]
  decide
theorem shaped_bls (ss : List Bool) : SeqAt.shaped (.list (ss.map PyData.bool)) = true := by
  have r := bls_lay ss
  unfold SeqAt.shaped
  simp only [PyData.canLay0, PyData.depth, r.1, r.2]
  decide
/-- two lists of the same texts: != is False -/
theorem ne_strs {K : PySem.W.Frag} {H : Hp} {p q : Addr} {ss : List Str} {Q : VK} (h : ∀ s ∈ ss, PyData.strOk s = true) (hp : H p = some (.lst (ss.map V.str))) (hq : H q = some (.lst (ss.map V.str))) (k : Q (.bl false) H) : rNeD K (.ref p) (.ref q) H Q := by
  have sh := shaped_strs h
  refine ⟨_, _, .lst (SqL.of hp) (dpAll_str ss), .lst (SqL.of hq) (dpAll_str ss), sh, sh, ?_⟩
  rw [PySem.SeqAt.eqv_refl _ (SeqAt.canLay_of_shaped sh)]
  exact k
theorem ne_bls {K : PySem.W.Frag} {H : Hp} {p q : Addr} {ss : List Bool} {Q : VK} (hp : H p = some (.lst (ss.map V.bl))) (hq : H q = some (.lst (ss.map V.bl))) (k : Q (.bl false) H) : rNeD K (.ref p) (.ref q) H Q := by
  have sh := shaped_bls ss
  refine ⟨_, _, .lst (SqL.of hp) (dpAll_bl ss), .lst (SqL.of hq) (dpAll_bl ss), sh, sh, ?_⟩
  rw [PySem.SeqAt.eqv_refl _ (SeqAt.canLay_of_shaped sh)]
  exact k
/-- is it a list -/
def isL : PyData → Bool
  | .list _ => true
  | _ => false
theorem Dt.isL {K : PySem.W.Frag} {H : Hp} {v : V} {d : PyData} (h : Dt H v d) : ∃ t, TyX K H v t ∧ PySem.W.kitOne K t (.type "list") = some (isL d) := by
  cases h with
  | non => exact ⟨_, .base .non, kit_ty (r := false) (by decide +kernel)⟩
  | bl b => exact ⟨_, .base (.bl b), kit_ty (r := false) (by decide +kernel)⟩
  | int i => exact ⟨_, .base (.int i), kit_ty (r := false) (by decide +kernel)⟩
  | str x => exact ⟨_, .base (.str x), kit_ty (r := false) (by decide +kernel)⟩
  | lst h _ => exact ⟨_, .base (.lst h), kit_ty (r := true) (by decide +kernel)⟩
  | tup h _ => exact ⟨_, .base (.tup h), kit_ty (r := false) (by decide +kernel)⟩
  | dct h _ => exact ⟨_, .base (.dK h), kit_ty (r := false) (by decide +kernel)⟩
end VK

set_option maxHeartbeats 4000000
namespace VK
open PySem PySem.VK PySem.Spec PyProof.Rows L2
/-! ## own errors raised, caught and kept -/
section
variable {X : Cx} {cn x y : Str} {C : Addr} {b : XBd} {p q pos kp : Pos} {ta : TE} {e : Expr}
/-- C(e) that is raised: d, its dict -/
def tRz1 (C : Addr) (x : Str) (ta : TE) : L2.St → Hp → XK → Prop := fun σ H Q => ta σ H fun v H1 => ∀ d, H1 d = none → Q (.ref C) (some d) (upd H1 d (.xd [(x, v)]))
theorem EC.raises (E : EC X.prog X.K X.mg cn C b fl) : Raises X (.ref C) := raises_own E.T.sBE E.T.tyC
theorem EC.pmk1 (E : EC X.prog X.K X.mg cn C b (some x)) (R : MkR X) (hg : Gl X cn) (he : PE X e ta) (hdb : (cn == ("__debug__" : Str)) = false := by decide)
    (hs : starEach [e] X.env = (false, eval e X.env) :: starEach [] X.env := by rfl) : PMk X (.Call (.Name cn p) [e] [] pos) (tRz1 C x ta) := by
  obtain ⟨fI, qual, msg, p1, p2, a1, a2, a3, a4, a5, a6, b1, b2, b3, b4, TI, hp, hx, hf⟩ := E.ini
  obtain ⟨x1, x2, x3, x4⟩ := fldNames_ok hx
  intro pins s σ H Q I h
  refine wpAny_Call_Name_kw (ld_glob I hg E.g ?_ hdb)
  refine PySem.W.callWith_K (h₀ := X.base) I.ok.mod.kin E.T.kpC ?_ hs (by rfl)
  rw [hs]
  show wpAny _ _ (spliced ((false, eval e X.env) :: backTo pos (starEach [] X.env))) _ _ s
  refine Calls.spliced_cons (thn (he.run pins s σ H _ I h) fun u s1 ⟨v, H1, I1, r1, q1⟩ => ?_)
  refine Calls.spliced_nil ⟨I1.kIn, ?_⟩
  show wpAny _ _ (call (.ref C) [u]) _ _ _
  refine made1 E.xb.KF E.xb.FB E.xb.SF E.T TI (taker_no hf) x1 x2 x3 x4 hp (arnd_of I1 R.su R.ns) R.dp ?_ fun h' tk' a M => ?_
  · intro u1 u2 kV doc pm an cda cc ct
    simp only [fldNames, List.mem_cons, List.not_mem_nil, or_false] at hx
    rcases hx with rfl | rfl | rfl | rfl | rfl <;> rfl
  · obtain ⟨t, d, ho, hd, hne, hn⟩ := M.obj
    obtain ⟨G, g1, g2⟩ := restrict h' fun b => decide (b ≠ a)
    have gk : ∀ b, b ≠ a → G.get? b = h'.get? b := fun b hb => g1 b (decide_eq_true hb)
    have ga : G.get? a = none := g2 a (decide_eq_false fun z => z rfl)
    have keep : ∀ b o, s1.heap.get? b = some o → G.get? b = some o := fun b o e => by
      rw [gk b (Nat.ne_of_lt (Nat.lt_of_lt_of_le (Heap.lt_size e) M.new))]
      exact M.keep b o e
    have hd0 : s1.heap.get? d = none := Heap.get?_none_of_le hd
    have hn0 : H1 d = none := I1.hok.fresh hd
    have hnG : G.Ns1 d (fun y => if y = x then some u else none) := hn.at fun o z => by rw [gk d hne]; exact z
    have J : Inv X pins σ (upd H1 d (.xd [(x, v)])) { s1 with heap := G, toks := tk' } := I1.laidN keep hd0 hn0 ⟨_, hnG, relO_one r1⟩
    exact ⟨a, _, _, _, _, .ref C, some d, rfl, J, fun b o z => by
      by_cases hb : b = a
      · rw [hb, ga] at z
        cases z
      · rw [gk b hb] at z
        exact z, ga, ho, ⟨rfl, rfl⟩, rfl, rfl, by rw [upd_ne hne.symm]; exact I1.hok.fresh M.new, rfl, I1.bare, E.raises, q1 d hn0⟩
/-- C() that is raised -/
theorem EC.pmk0 (E : EC X.prog X.K X.mg cn C b none) (R : MkR X) (hg : Gl X cn) (hdb : (cn == ("__debug__" : Str)) = false := by decide) : PMk X (.Call (.Name cn p) [] [] pos) (fun _ H Q => Q (.ref C) none H) := by
  obtain ⟨fI, qual, msg, p1, a1, a2, a3, a4, a5, a6, TI, hp⟩ := E.ini
  intro pins s σ H Q I h
  refine wpAny_Call_Name_kw (ld_glob I hg E.g ?_ hdb)
  refine PySem.W.callWith_K0 I.kIn E.T.kpC ?_
  refine made0 E.xb.KF E.xb.FB E.T TI hp (arnd_of I R.su R.ns) R.dp fun h' tk' a t k hge ho => ?_
  exact ⟨a, _, _, s, H, .ref C, none, rfl, I, k, Heap.get?_none_of_le hge, ho, ⟨rfl, rfl⟩, rfl, rfl, I.hok.fresh hge, rfl, I.bare, E.raises, h⟩
end
/-- at a: an error that was raised, of the class cls, its dict d -/
def exR (a : Addr) (cls : Value) (d : Option Addr) : HO := .ext fun h => ∃ (oe : Obj) (vs : Array Value), h.get? a = some oe ∧ Zc cls d oe ∧ oe.data = .fields vs
theorem exR_ok {P : Program} {w : World} {H : Hp} {h : Heap} {a : Addr} {cls : Value} {d : Option Addr} {oe : Obj} {vs : Array Value} (e : h.get? a = some oe) (z : Zc cls d oe) (hd : oe.data = .fields vs) : ObjOk P w H h a (exR a cls d) :=
  ⟨⟨oe, vs, e, z, hd⟩, ⟨oe, e⟩, fun _ _ ⟨o, v, q, r⟩ k => ⟨o, v, k o q, r⟩⟩
theorem exR_at {P : Program} {w : World} {H : Hp} {h : Heap} {a C : Addr} {d : Option Addr} (hok : HOk P w H h) (he : H a = some (exR a (.ref C) d)) : ∃ (vs : Array Value) (sl : Array (Option Value)), h.get? a = some ⟨.ref C, d, .fields vs, sl⟩ := by
  obtain ⟨⟨oe, vs, e, z, hd⟩, _⟩ := hok a _ he
  obtain ⟨c, d', dt, sl⟩ := oe
  obtain ⟨h1, h2⟩ := z
  dsimp only at h1 h2 hd
  subst h1 h2 hd
  exact ⟨vs, sl, e⟩
/-- e.x of it -/
def tXatR (K : PySem.W.Frag) (x : Str) (te : TE) : TE := fun σ H Q => te σ H fun z H1 => ∃ a C d v, z = .ref a ∧ H1 a = some (exR a (.ref C) (some d)) ∧ H1 d = some (.xd [(x, v)]) ∧ XOk K C ∧ PySem.W.findIn K (.ref C) x = some none ∧ Q v H1
section
variable {X : Cx} {x : Str} {pos : Pos} {e : Expr} {te : TE}
theorem pe_xatR (he : PE X e te) (hb : attributeBase e x X.env (eval e X.env) = eval e X.env := by rfl) : PE X (.Attribute e x pos) (tXatR X.K x te) := by
  refine ⟨fun pins s σ H Q I h => ?_⟩
  refine attr_of hb (thn (he.run pins s σ H _ I h) fun u s1 hh => ?_)
  obtain ⟨z, H1, I1, rx, a, C, d, v, rfl, ea, ed, ⟨P, B, i, newId, bmB, T⟩, hno, q⟩ := hh
  obtain rfl : u = Value.ref a := rx
  obtain ⟨vs, sl, ho⟩ := exR_at I1.hok ea
  have hx : ObjOk X.prog X.w H1 s1.heap d (.xd [(x, v)]) := I1.hok d _ ed
  obtain ⟨mA, hns, hr⟩ := hx
  obtain ⟨od, hod, hl⟩ := lookIn_ns hns
  have l : List.lookup x [(x, v)] = some v := by rw [List.lookup_cons, beq_self_eq_true]
  obtain ⟨u, hu, ru⟩ := RelO.some_of (v := v) (o := mA x) (by rw [← l]; exact hr x)
  have J : PySem.W.InstAt s1.heap a ⟨.ref C, some d, .fields vs, sl⟩ C (some od) := ⟨ho, rfl, rfl, hod⟩
  exact PySem.PX.exc_get I1.kIn J T.gat T.gga T.sBE (PySem.W.findObj_own T.hsd hno rfl (by rw [hl, hu])) (handed_of ru) ⟨v, H1, I1.tok _, ru, q⟩
/-- isinstance(e, c) of it -/
def rIsR (K : PySem.W.Frag) : List V → Hp → VK → Prop := fun xs H Q => ∃ (a C : Addr) (d : Option Addr) (c : V) (cv : Value) (r : Bool), xs = [.ref a, c] ∧ H a = some (exR a (.ref C) d) ∧ (∀ dd, d = some dd → ∃ fs, H dd = some (.xd fs)) ∧ XOk K C ∧ (∀ u, RelV c u → u = cv) ∧ PySem.W.kitOne K (.ref C) cv = some r ∧ Q (.bl r) H
theorem call_isR : CallR X (.builtin "isinstance") (rIsR X.K) := by
  intro pins s σ H xs us Q I r h
  obtain ⟨a, C, d, c, cv, b, rfl, ha, hd, ⟨P, B, i, newId, bmB, T⟩, hcv, e, q⟩ := h
  obtain ⟨u1, u2, rfl, r1, r2⟩ := vals2 r
  cases (show u1 = Value.ref a from r1)
  have ec := hcv _ r2
  subst ec
  obtain ⟨vs, sl, ho⟩ := exR_at I.hok ha
  have hcl : (PySem.W.clsIn X.K C).isSome = true := by obtain ⟨cd, hc, _⟩ := PySem.W.any_some T.hsd; rw [hc]; rfl
  obtain ⟨od, J⟩ : ∃ od, PySem.W.InstAt s.heap a ⟨.ref C, d, .fields vs, sl⟩ C od := by
    cases d with
    | none => exact ⟨none, ho, rfl, rfl, trivial⟩
    | some dd =>
      obtain ⟨fs, hf⟩ := hd dd rfl
      have hx : ObjOk X.prog X.w H s.heap dd (.xd fs) := I.hok dd _ hf
      obtain ⟨mA, hns, _⟩ := hx
      obtain ⟨od, hod, _⟩ := lookIn_ns hns
      exact ⟨some od, ho, rfl, rfl, hod⟩
  exact PySem.W.kia_one (PySem.W.kitx_exc hcl T.gat T.gga T.sBE T.cla T.spG T.spT T.mOb) I.kIn J e (fun z => nomatch z) fun tk => ⟨.bl b, H, I.kept (t' := tk) fun _ _ z => z, rfl, q⟩
end
end VK

set_option maxHeartbeats 4000000
namespace VK
open PySem PySem.VK PySem.Spec PyProof.Rows L2
/-! ## an error that is caught and kept: tracked from the clause on -/
/-- what the clause asks: slot i is the name's -/
def wTr (K : PySem.W.Frag) (c : Value) (i n : Nat) (ts : Addr → Value → Option Addr → TS) (Wout : WX) (D : Ends) : WX := fun cls d σ H => σ.length = n →
  ∃ b, PySem.W.exmOne K cls c = some b ∧
    (b = true → ∀ a, H a = none → ts a cls d { nx := fun σ' H' => D.nx (σ'.set i none) H', rt := D.rt, bk := fun σ' H' => D.bk (σ'.set i none) H', ct := fun σ' H' => D.ct (σ'.set i none) H' } (σ.set i (some (.ref a))) (upd H a (exR a cls d))) ∧
    (b = false → Wout cls d σ H)
section
variable {X : Cx} {pins : List (Addr × Obj)} {σ : L2.St} {H : Hp} {sI s s' : Shared} {B : Heap}
/-- back on the ground, the error tracked -/
theorem inv_landT {a : Addr} {cls : Value} {d : Option Addr} {oe : Obj} {vs : Array Value} (I : Inv X pins σ H sI) (nb : ∀ b o, sI.heap.get? b = some o → b ∉ frs X.stack → B.get? b = some o) (st : B.StaysIn s'.heap) (up : sI.heap.UpToSlots s'.heap) (os : s'.os = sI.os) (ag : AllBare s'.gens)
    (na : H a = none) (hB : B.get? a = none) (nf : a ∉ frs X.stack) (ha : s'.heap.get? a = some oe) (hz : Zc cls d oe) (hd : oe.data = .fields vs) : Inv X pins σ (upd H a (exR a cls d)) s' := by
  have n0 : sI.heap.get? a = none := by
    cases e : sI.heap.get? a with
    | none => rfl
    | some o =>
      have z := nb a o e nf
      rw [hB] at z
      cases z
  have ne : ∀ b o, sI.heap.get? b = some o → b ≠ a := fun b o e z => by
    rw [z, n0] at e
    cases e
  have fr : ∀ b ∈ frs X.stack, ∀ o, sI.heap.get? b = some o → ∃ sl, s'.heap.get? b = some { o with slots := sl } := fun b hb o e => by
    obtain ⟨_, o', e', hd'⟩ := I.stack.mem hb
    have q := e.symm.trans e'
    cases q
    exact up b o e hd'
  have ok1 : HOk X.prog X.w H s'.heap := (I.inGround nb).kept st
  refine I.call' (ch := []) os { keep := fun b o e _ hb _ => st b o (nb b o e hb), slot := fun b o e _ hb _ => fr b hb o e, free := fun b o e n _ => ?_, there := fun b o e _ => ?_, tups := fun b xs e => ?_, frzs := fun b o u e => ?_, tbls := fun b ps e => ⟨#[], ?_⟩ }
    (ok1.laidN (fun _ _ z => z) na (exR_ok ha hz hd)) ag (fun _ z => nomatch z)
  · rw [upd_ne (ne b o e)]
    exact n
  · by_cases hb : b ∈ frs X.stack
    · obtain ⟨sl, q⟩ := fr b hb o e
      exact ⟨_, q⟩
    · exact ⟨o, st b o (nb b o e hb)⟩
  · rw [upd_ne (ne_of_none e na)]
    exact e
  · rw [upd_ne (ne_of_none e na)]
    exact e
  · rw [upd_ne (ne_of_none e na), e]
    simp
/-- into the suite: the mark stands, no pin is added -/
theorem inv_suiteT (I : Inv X pins σ H s) (a : Addr) : Inv (X.suite a (X.pn ++ pins)) [] σ H s :=
  ⟨I.ok.suite _ _, I.os, I.bare, I.base, I.loc, I.cell, I.free, I.freeC, fun p hp => I.pin p (by rw [List.append_nil] at hp; exact hp), I.hok, I.len⟩
theorem inv_unsuiteT {a : Addr} {pn' : List (Addr × Obj)} (I : Inv (X.suite a (X.pn ++ pins)) pn' σ H s) (ok : X.Ok) : Inv X pins σ H s :=
  ⟨ok, I.os, I.bare, I.base, I.loc, I.cell, I.free, I.freeC, fun p hp => I.pin p (List.mem_append_left _ hp), I.hok, I.len⟩
end
section
variable {X : Cx} {x n : Str} {c : Value} {i : Nat} {body suite : List Stmt} {b₀ : Stmt} {np pos pos' : Pos} {tb : WX → TS} {ts : Addr → Value → Option Addr → TS} {Wout : WX}
theorem ps_try_tr (hs : X.stack = X.env :: X.outer) (hf : X.env.frame = some X.env.locals) (hN : X.N.Nodup) (hi : X.N[i]? = some n) (hln : X.env.kindOf n = some .local) (hc : Names X x c) (tk : Takes X Wout)
    (hb : ∀ (W : WX) (pn : List (Addr × Obj)) (xe : Value → Shared → Prop), Takes (X.tr pn xe) W → PassesOwn (model X.prog X.w) X.A X.env xe → PSs (X.tr pn xe) body (tb W))
    (hsu : ∀ (a : Addr) (cls : Value) (d : Option Addr) (pn : List (Addr × Obj)), PSs (X.suite a pn) (b₀ :: suite) (ts a cls d)) :
    PS X (.Try body [.ExceptHandler (some (.Name x np)) (some n) (b₀ :: suite) pos'] [] [] pos) (fun D σ H => tb (wTr X.K c i X.N.length ts Wout D) D σ H) := by
  refine ⟨fun pins s σ H D I h => ?_⟩
  have ok := I.ok
  have hfr : X.A.frames = some (X.env :: X.outer) := ok.frames.trans (congrArg some hs)
  refine wpAny_Try_except ?_
  have body' := (hb (wTr X.K c i X.N.length ts Wout D) (X.pn ++ pins)
    (fun e s₁ => wpAny (model X.prog X.w) X.A (noteFrame e X.env)
      (fun _ s₂ => wpAny (model X.prog X.w) X.A (setFlight e none)
        (fun _ s₃ => wpAny (model X.prog X.w) X.A (handleBy e X.env [.ExceptHandler (some (.Name x np)) (some n) (b₀ :: suite) pos']) (SP X pins D) X.xe s₃) X.xe s₂) X.xe s₁)
    (fun u s' xx => ?_) PassesOwn.looking).run [] s σ H D (I.toTry _) h
  · refine wpAny_mono body' (fun f s1 hsp => ?_) (fun e s1 he => he)
    cases f with
    | next =>
      obtain ⟨σ', H', J', q⟩ := hsp
      exact wpAny_execs_nil ⟨σ', H', J'.ofTry ok, q⟩
    | brk =>
      obtain ⟨σ', H', J', q⟩ := hsp
      exact ⟨σ', H', J'.ofTry ok, q⟩
    | cont =>
      obtain ⟨σ', H', J', q⟩ := hsp
      exact ⟨σ', H', J'.ofTry ok, q⟩
    | ret u =>
      obtain ⟨v, σ', H', J', r, q⟩ := hsp
      exact ⟨v, σ', H', J'.ofTry ok, r, q⟩
  · -- caught
    obtain ⟨a, B, sI, pins', σ', H', cls, d, rfl, J', nb, up, sky, na, os, ag, wish⟩ := xx
    obtain ⟨b, hb1, hyes, hno⟩ := wish J'.len
    have J : Inv X pins σ' H' sI := J'.ofTry ok
    have sky' : Sky B (X.env :: X.outer) a (Zc cls d) X.env.locals s'.heap := by
      rw [← hs]
      exact sky
    show wpAny (model X.prog X.w) X.A (noteFrame (.ref a) X.env) _ _ _
    refine Sky.land Zc.steady hfr hf sky' fun h3 fl3 up3 => ?_
    obtain ⟨oe3, vs3, he3, hz3, hd3⟩ := fl3.there
    have nfr : a ∉ frs X.stack := by
      rw [hs]
      intro hm
      obtain ⟨_, o', e', hnf⟩ := fl3.2.2.1.mem hm
      have q := he3.symm.trans e'
      cases q
      exact hnf _ hd3
    have nL : a ≠ X.env.locals := fun z => nfr (by rw [hs]; exact List.mem_filterMap.mpr ⟨X.env, List.mem_cons_self, by rw [hf, z]⟩)
    have nF : a ∉ X.fs := fun hm => by
      obtain ⟨e, he, q⟩ := List.mem_filterMap.mp hm
      exact nfr (by rw [hs]; exact List.mem_filterMap.mpr ⟨e, List.mem_cons_of_mem _ he, q⟩)
    have J3 : Inv X pins σ' H' { s' with heap := h3 } := J.landed nb fl3.1 (up.trans up3) os ag
    have S3 := J3.suite he3 hd3 na nL nF
    refine wpAny_handleBy_cons (codeAny_handlers_test ?_) (by intro q; cases q)
    have LT : PySem.W.Looks (model X.prog X.w) h3 (typeOf (.ref a)) cls := fun A Q E s k q => wpAny_typeOf_ref (k _ _ he3) (by rw [hz3.1]; exact q)
    have LM := PySem.W.exm_one (M := model X.prog X.w) J3.kIn LT hb1
    have asks : ∀ {Q : Value → Shared → Prop} {E : Value → Shared → Prop}, Q c { s' with heap := h3 } → wpAny (model X.prog X.w) (X.A.mark (some (.ref a))) (eval (.Name x np) X.env) Q E { s' with heap := h3 } := fun {Q E} q => by
      obtain ⟨hg, hdbg, hm | ⟨hm, hv, hnn⟩⟩ := hc
      · exact ld_glob (X := X.suite a ((a, oe3) :: (X.pn ++ pins))) S3 hg hm q hdbg
      · exact ld_blt (X := X.suite a ((a, oe3) :: (X.pn ++ pins))) S3 hg hm hv q hnn hdbg
    refine asks (LM.here ?_)
    cases b with
    | false =>
      show wpAny _ X.A (handleBy (.ref a) X.env []) _ _ _
      refine wpAny_handleBy_nil ?_
      obtain ⟨k1, k2, k3, oe, vs, T, oT, ts', he, hz, hd, h1, hr⟩ := id fl3
      unfold PySem.passOn
      refine wpAny_bind (wpAny_field he hd h1 ?_)
      rw [if_neg (show ¬ ((Value.ref T == Value.none) = true) from by simp)]
      have onward : wpAny (model X.prog X.w) X.A (setFlight (.ref a) X.env.frame) (fun _ s4 => wpAny (model X.prog X.w) X.A (throw (.ref a) : Sem Flow) (SP X pins D) X.xe s4) X.xe { s' with heap := h3 } := by
        rw [hf]
        refine HandSPX.setFlight_upZ fl3 fun h4 hh4 up4 => wpAny_throw (tk _ _ ?_)
        exact ⟨a, B, sI, pins, σ', H', cls, d, rfl, J, nb, (up.trans up3).trans up4, .inr (.inr (by rw [hs]; exact hh4)), na, os, ag, hno rfl⟩
      first
        | exact wpAny_bind (wpAny_pure (wpAny_bind onward))
        | exact wpAny_bind onward
    | true =>
      refine codeAny_handlers_suite_as ?_
      refine HandSPX.lands_againZ fl3 fun h4 fl4 up4 => ?_
      obtain ⟨oe4, vs4, he4, hz4, hd4⟩ := fl4.there
      have J4 : Inv X pins σ' (upd H' a (exR a cls d)) { s' with heap := h4 } := inv_landT J nb fl4.1 ((up.trans up3).trans up4) os ag na fl4.2.1 nfr he4 hz4 hd4
      refine store_ok (X := X.suite a (X.pn ++ pins)) (v := .ref a) (inv_suiteT J4 a) hN hi (.inl hln) rfl (fun s5 S5 => ?_) (.inr hln)
      refine wpAny_mono ((hsu a cls d (X.pn ++ pins)).run [] s5 _ _ _ S5 (hyes rfl a na)) (fun f s6 hsp => ?_) (fun _ _ z => False.elim z)
      have fin : ∀ {σ6 : L2.St} {H6 : Hp} {Q : Shared → Prop}, Inv (X.suite a (X.pn ++ pins)) [] σ6 H6 s6 → (∀ s7, Inv X pins (σ6.set i none) H6 s7 → Q s7) →
          wpAny (model X.prog X.w) X.A (do bindName X.env n .none; unbindBehindTheSuite X.env n pos') (fun _ s7 => Q s7) X.xe s6 := fun {σ6 H6 Q} S6 hq => gone_ok (inv_unsuiteT S6 ok) hN hi hln hq
      cases f with
      | next =>
        obtain ⟨σ6, H6, S6, q6⟩ := hsp
        exact fin S6 fun s7 J7 => ⟨_, _, J7, q6⟩
      | brk =>
        obtain ⟨σ6, H6, S6, q6⟩ := hsp
        exact fin S6 fun s7 J7 => ⟨_, _, J7, q6⟩
      | cont =>
        obtain ⟨σ6, H6, S6, q6⟩ := hsp
        exact fin S6 fun s7 J7 => ⟨_, _, J7, q6⟩
      | ret u =>
        obtain ⟨v6, σ6, H6, S6, r6, q6⟩ := hsp
        exact fin S6 fun s7 J7 => ⟨_, _, _, J7, r6, q6⟩
end
end VK

set_option maxHeartbeats 4000000
namespace VK
open PySem PySem.VK PySem.Spec PyProof.Rows L2 LamX
/-! ## the end of a law with tables of code objects, no repr under way -/
theorem law_callGT {P : Program} {w : World} {K : PySem.W.Frag} {mg mb : Str → Option Value} {k : Nat} {fa a : Addr} {cs : List (Addr × Addr)} {fd : FuncData} {x : Str} {sp : Sp} {s₁ : Shared} {vs : List Value} {ns : List Int}
    (KX : K.In s₁.heap) (hns : s₁.heap.Ns mainGlobals mg) (hb : s₁.heap.Ns builtinsNs mb) (hbb : ∀ x : Str, x ≠ "__name__" → mb x = bootBuiltins x) (hlim : s₁.heap.NoLimit) (hg : s₁.gens = #[])
    (hT : ∀ p ∈ cs, s₁.heap.get? p.2 = some { cls := .none, data := .fields #[] }) (nT : ∀ p ∈ cs, K.lookup p.2 = none) (hC : ∀ p ∈ cs, PySem.W.CodeHd s₁.heap p.1 p.2)
    (hbm : ∃ (bm : Addr) (ob : Obj), mg "__builtins__" = some (.ref bm) ∧ bm ≠ builtinsNs ∧ s₁.heap.get? bm = some ob ∧ ob.cls = .type "module" ∧ ob.dict = some builtinsNs ∧ ob.data = .plain)
    (ha : s₁.heap.get? a = some { cls := .type "list", data := .seq vs.toArray }) (hi : IntsAre vs ns) (hl : ns.length ≤ sizeLine) (hr : Room k callerA)
    (F : ∀ base : Heap, K.In base → base.Ns mainGlobals mg → (∀ p ∈ cs, TabB base mg p.1 p.2) → FnG P w K mg base CX0 k fa fd [x] sp) (hbind : ∀ (s : Shared) (u : Value), BindsTo s fd ⟨[u], []⟩ [(x, u)])
    (hsp : ∀ H : Hp, (∀ p ∈ cs, H p.2 = some (.tbl #[])) → SqL K H a (ns.map V.int) → sp [.ref a] H (fun v _ => v = .bl true) fun _ _ _ => False) :
    codeAny (model P w) callerA (.call (.ref fa) ⟨[.ref a], []⟩) (fun r s' => r = .ok (.ret (.bool true)) ∧ OldK s₁.heap s'.heap ∧ s'.os = s₁.os ∧ AllBare s'.gens) s₁ := by
  have rv := vals_ints hi
  have lenV := hi.length
  let tb : List Addr := cs.map (·.2)
  have tbI : ∀ p ∈ cs, p.2 ∈ tb := fun p hp => List.mem_map.mpr ⟨p, hp, rfl⟩
  have tbE : ∀ b ∈ tb, s₁.heap.get? b = some { cls := .none, data := .fields #[] } := by
    intro b h
    obtain ⟨p, hp, rfl⟩ := List.mem_map.mp h
    exact hT p hp
  have aN : a ∉ tb := by
    intro z
    have q := (tbE a z).symm.trans ha
    cases q
  have go : ∀ H : Hp, (∀ p ∈ cs, H p.2 = some (.tbl #[])) → (∀ b, b ∉ tb → H b = none ∨ ∃ o xs, H b = some (.frz o (.lst xs))) → SqL K H a (ns.map V.int) → HOk P w H s₁.heap → (∀ b, H b ≠ none → b = a ∨ b ∈ tb) → (H a ≠ none → K.lookup a = none) →
      codeAny (model P w) callerA (.call (.ref fa) ⟨[.ref a], []⟩) (fun r s' => r = .ok (.ret (.bool true)) ∧ OldK s₁.heap s'.heap ∧ s'.os = s₁.os ∧ AllBare s'.gens) s₁ := by
    intro H hH hO sq hok onlyA notK
    -- an object that is neither a list nor an empty record is not tracked
    have plain : ∀ {b : Addr} {o : Obj}, s₁.heap.get? b = some o → (∀ vs n, o.data ≠ .seq vs n) → o.data ≠ .fields #[] → H b = none := by
      intro b o e h1 h2
      cases q : H b with
      | none => rfl
      | some u =>
        rcases onlyA b (by rw [q]; exact nofun) with z | z
        · subst z
          rw [ha] at e
          cases e
          exact absurd rfl (h1 _ _)
        · rw [tbE b z] at e
          cases e
          exact absurd rfl h2
    have dictN : ∀ {b : Addr} {o : Obj} {es : Array DictEntry} {ep : Nat}, s₁.heap.get? b = some o → o.data = .dict es ep → H b = none := by
      intro b o es ep e d
      exact plain e (fun vs n z => by rw [d] at z; cases z) (fun z => by rw [d] at z; cases z)
    have nsB : ∀ {b : Addr} {m : Str → Option Value}, s₁.heap.Ns b m → (hidT s₁.heap H).Ns b m := by
      rintro b m ⟨o, es, ep, e, d, r⟩
      exact ⟨o, es, ep, hidT_get e (dictN e d), d, r⟩
    have kinB : K.In (hidT s₁.heap H) := by
      intro b o e
      refine hidT_get (KX b o e) ?_
      cases q : H b with
      | none => rfl
      | some u =>
        rcases onlyA b (by rw [q]; exact nofun) with z | z
        · subst z
          rw [notK (by rw [q]; exact nofun)] at e
          cases e
        · obtain ⟨p, hp, rfl⟩ := List.mem_map.mp z
          rw [nT p hp] at e
          cases e
    obtain ⟨mc, l1, l2⟩ := hlim
    have tabB : ∀ p ∈ cs, TabB (hidT s₁.heap H) mg p.1 p.2 := by
      intro p hp
      have tp := hT p hp
      obtain ⟨og, esg, epg, eg, dg, _⟩ := id hns
      refine ⟨?_, ?_, ?_⟩
      · obtain ⟨o, us, file, tf, flags, tg, inF, text, tt, e1, r1, r2, r3, rest⟩ := hC p hp
        refine ⟨o, us, file, tf, flags, tg, inF, text, tt, hidT_get e1 (plain e1 ?_ ?_), r1, r2, r3, rest⟩
        · intro vs n z
          rw [r2] at z
          cases z
        · intro z
          rw [r2] at z
          cases z
          simp at r3
      · obtain ⟨bm, ob, b1, b2, b3, b4, b5, b6⟩ := hbm
        have nG : bm ≠ mainGlobals := by
          intro q
          rw [q, eg] at b3
          cases b3
          rw [dg] at b6
          cases b6
        have nP : bm ≠ p.2 := by
          intro q
          rw [q, tp] at b3
          cases b3
          cases b6
        refine ⟨bm, ob, b1, b2, nG, nP, hidT_get b3 (plain b3 ?_ ?_), b4, b5, b6⟩
        · intro vs n z
          rw [b6] at z
          cases z
        · intro z
          rw [b6] at z
          cases z
      · intro z
        rw [z, tp] at eg
        cases eg
        cases dg
    have e0 : Env0 P w K mg (hidT s₁.heap H) callerA [] s₁ H := by
      refine ⟨rfl, ⟨kinB, nsB hns, ⟨mb, nsB hb, hbb⟩, ⟨mc, nsB l1, l2⟩⟩, fun b o e => of_hidT e, Nat.le_of_eq (hidT_size _ _), trivial, (fun b z => nomatch z), hok, .of_eq hg⟩
    refine codeAny_mono ((F _ kinB (nsB hns) tabB).run callerA [] s₁ H ⟨[.ref a], []⟩ [.ref a] [.ref a] _ _ hr rfl e0 (hbind s₁ (.ref a)) (.cons rfl .nil) (hsp H hH sq)) ?_
    intro res s' z
    cases res with
    | error er => exact False.elim z
    | ok fl =>
      cases fl with
      | next => exact False.elim z
      | brk => exact False.elim z
      | cont => exact False.elim z
      | ret u =>
        obtain ⟨v, H', os, bare, un, hok', rr, q⟩ := z
        have qv : v = .bl true := q
        subst qv
        cases rr
        have stays : ∀ b o, b ∉ tb → s₁.heap.get? b = some o → s'.heap.get? b = some o := by
          intro b o nb e
          cases q : H b with
          | none => exact un.keep b o e q (fun z => nomatch z) (fun z => nomatch z)
          | some u =>
            rcases hO b nb with n | ⟨ob, xs, n⟩
            · rw [q] at n
              cases n
            · obtain ⟨e1, _⟩ := hok b _ n
              obtain ⟨e2, _⟩ := hok' b _ (un.frzs b ob _ n)
              rw [e] at e1
              cases e1
              exact e2
        have grown : ∀ p ∈ cs, ∃ more : Array Value, s'.heap.get? p.2 = some { cls := .none, data := .fields more } := by
          intro p hp
          obtain ⟨more, z⟩ := un.tbls p.2 #[] (hH p hp)
          exact ⟨_, hok' p.2 _ z⟩
        refine ⟨rfl, ⟨fun b o e => ?_, fun b o e => ?_⟩, os, bare⟩
        · by_cases nb : b ∈ tb
          · obtain ⟨p, hp, rfl⟩ := List.mem_map.mp nb
            obtain ⟨more, hm⟩ := grown p hp
            rw [hT p hp] at e
            cases e
            exact .inr (.inl ⟨((hC p hp).tab (hT p hp)).isCodeTable, rfl, #[], more, rfl, by rw [Array.empty_append]; exact hm⟩)
          · exact .inl (stays b o nb e)
        · by_cases nb : b ∈ tb
          · obtain ⟨p, hp, rfl⟩ := List.mem_map.mp nb
            obtain ⟨more, hm⟩ := grown p hp
            exact ⟨_, hm⟩
          · exact ⟨o, stays b o nb e⟩
  cases hk : K.lookup a with
  | some o =>
    have e := KX a o hk
    rw [ha] at e
    cases e
    refine go (fun b => if b ∈ tb then some (.tbl #[]) else none) (fun p hp => if_pos (tbI p hp)) (fun b nb => .inl (if_neg nb)) (.inr ⟨_, vs.toArray, _, hk, rfl, rfl, rfl, by rw [List.size_toArray, lenV]; exact hl, by simpa using rv⟩) (fun b u z => ?_) (fun b z => ?_) (fun z => absurd (if_neg aN) z)
    · by_cases nb : b ∈ tb
      · have z' := (if_pos nb).symm.trans z
        cases z'
        exact tbE b nb
      · have z' := (if_neg nb).symm.trans z
        cases z'
    · by_cases nb : b ∈ tb
      · exact .inr nb
      · exact absurd (if_neg nb) z
  | none =>
    refine go (fun b => if b = a then some (.frz { cls := .type "list", data := .seq vs.toArray } (.lst (ns.map V.int))) else if b ∈ tb then some (.tbl #[]) else none) (fun p hp => ?_) (fun b nb => ?_) (.inl (.inr ⟨_, if_pos rfl⟩)) (fun b u z => ?_) (fun b z => ?_) (fun _ => hk)
    · have np : ¬ p.2 = a := fun z => aN (z ▸ tbI p hp)
      rw [if_neg np, if_pos (tbI p hp)]
    · by_cases e : b = a
      · exact .inr ⟨_, _, if_pos e⟩
      · refine .inl ?_
        rw [if_neg e, if_neg nb]
    · by_cases e : b = a
      · have z' := (if_pos e).symm.trans z
        cases z'
        subst e
        exact ⟨ha, by rw [List.length_map]; exact hl, vs, _, rv, ha⟩
      · have z1 := (if_neg e).symm.trans z
        by_cases nb : b ∈ tb
        · have z' := (if_pos nb).symm.trans z1
          cases z'
          exact tbE b nb
        · have z' := (if_neg nb).symm.trans z1
          cases z'
    · by_cases e : b = a
      · exact .inl e
      · by_cases nb : b ∈ tb
        · exact .inr nb
        · refine absurd ?_ z
          rw [if_neg e, if_neg nb]
/-- what is known of the law's promise at the head's heap h -/
def LawG (l : PySem.W.OpenLaw) (w : World) (K : PySem.W.Frag) (k n : Nat) (x : Str) (mg : Str → Option Value) (fa : Addr) (h : Heap) : Prop :=
  ∃ (fd : FuncData) (cs : List (Addr × Addr)) (sp : Sp), (∀ p ∈ cs, h.get? p.2 = some { cls := .none, data := .fields #[] }) ∧ (∀ p ∈ cs, K.lookup p.2 = none) ∧ (∀ p ∈ cs, PySem.W.CodeHd h p.1 p.2) ∧
    (∀ (s : Shared) (u : Value), BindsTo s fd ⟨[u], []⟩ [(x, u)]) ∧
    (∀ (H : Hp) (a : Addr) (ns : List Int), ns.length ≤ n → (∀ p ∈ cs, H p.2 = some (.tbl #[])) → SqL K H a (ns.map V.int) → sp [.ref a] H (fun v _ => v = .bl true) fun _ _ _ => False) ∧
    ∀ base : Heap, K.In base → base.Ns mainGlobals mg → (∀ p ∈ cs, TabB base mg p.1 p.2) → FnG l.prog w K mg base CX0 k fa fd [x] sp
theorem walk_GT {l : PySem.W.OpenLaw} {n k : Nat} {q : Program} {loose : List Str} {XP : (Str → Option Value) → Heap → Prop} {YP : World → Heap → Prop} {d : DefRec} {K : Params → PySem.W.Frag} {x : Str}
    (hn : l.most = some n) (hn2 : n ≤ sizeLine) (hdf : d.params.defaults = []) (hr : Room k callerA) (hY : ∀ (w : World) (h : Heap), YP w h → (K w.params).In h)
    (F : ∀ (w : World) (mg : Str → Option Value) (fa : Addr) (h : Heap), (K w.params).In h → h.Ns mainGlobals mg → mg d.name = some (.ref fa) →
      (∀ (d : DefRec) (x : Str) (c P : Addr), (recsOf q).find? (fun e => e.name == x) = some d → PySem.W.tabIn (K w.params) x = some (c, P) → PySem.W.CodeHd h c P ∧ h.get? P = some { cls := .none, data := .fields #[] }) → LawG l w (K w.params) k n x mg fa h) :
    PySem.W.WalkO q loose XP YP l.row.toRowW d [] (fun f vs => PySem.call f vs) := by
  refine Att.attach_callB hn hdf ?_
  intro w s₀ s₁ mg mb fa o pm cd doc a vs ns G Y ho hd hcd hmg hobj hints hlen hbits hgen
  have KX := hY w _ Y
  obtain ⟨fd, cs, sp, hT, nT, hC, hb, hsp, hF⟩ := F w mg fa _ KX G.T.g hmg fun d x c P h1 h2 => PySem.W.tab_of G.T KX h1 h2
  exact law_callGT KX G.T.g G.T.b G.T.builtins G.T.nolimit hgen hT nT hC G.T.bmain hobj hints (Nat.le_trans hlen hn2) hr hF hb fun H hH hS => hsp H a ns hlen hH hS
end VK

set_option maxHeartbeats 4000000
namespace VK
open PySem PySem.VK PySem.Spec PyProof.Rows L2
/-! ## a law by its body, the def's own code object told -/
theorem FnG.by_bodyC {P : Program} {w : World} {K : PySem.W.Frag} {mg : Str → Option Value} {base : Heap} {k : Nat} {f : Addr} {fd : FuncData} {N ps : List Str} {sp : Sp} {nm qual : Str} {st : Stmt} (F : Fun K nm qual st f fd) (S : FnScope N ps (defScope st)) (len : ∀ vs H Q E, sp vs H Q E → vs.length = ps.length)
    (hbody : ∀ (A : Around) (outer : List Env) (s : Shared) (H : Hp) (vs : List V) (Q : VK) (E : XK),
      Room k (A.deeper (envOfC qual (defScope st) s.heap.objs.size f fd.code)) → (A.deeper (envOfC qual (defScope st) s.heap.objs.size f fd.code)).guards = some [] → sp vs H Q E →
      ∃ t, PSs (cxOf CX0 P w K mg base N qual (defScope st) f fd.code A outer s H E).nox (defBody st) t ∧ t { nx := fun _ H' => Q .non H', rt := Q } (start N vs) H) :
    FnG P w K mg base CX0 (k + 1) f fd ps sp := by
  obtain ⟨oc, od, kV, doc, pm, an, cdv, ct, osl, rfl, lk, hcd⟩ := F.ex
  refine ⟨len, ?_⟩
  intro A outer s H args us vs Q E room gu e0 hb vals hsp
  have kin : K.In s.heap := e0.mod.kin.keeps fun b o z => (e0.bs b o z).1
  have nolim : s.heap.NoLimit := e0.mod.nolimit.keeps fun b o z => (e0.bs b o z).1
  have kinds : ∀ y ∈ ps.zip us, (defScope st).names.lookup y.1 = some .local ∨ ((defScope st).names.lookup y.1 = some .cell ∧ ((cellsFrom (s.heap.objs.size + 1) (defScope st).names []).lookup y.1).isSome = true) := by
    rintro ⟨n, v⟩ hy
    rcases S.par n (List.of_mem_zip hy).1 with z | z
    · exact Or.inl z
    · exact Or.inr ⟨z, PySem.W.cellsFrom_some _ _ _ (Or.inl z)⟩
  refine codeAny_call_function room.depth (kin _ _ lk) rfl S.co S.gen rfl (PySem.W.codeRec_of kin hcd) (hb _ _ _ _ ?_)
  refine wpAny_newFunctionEnv_cells S.kind kinds fun env henv s1 inn => ?_
  subst henv
  refine ⟨nolim.keeps inn.toInCall.keep, codeAny_func ?_⟩
  obtain ⟨t, ht0, hq⟩ := hbody A outer s H vs Q E (room.deeper _) gu hsp
  have ht := ht0.nox
  have J : Inv (cxOf CX0 P w K mg base N qual (defScope st) f cdv A outer s H E) [] (start N vs) H s1 := inv_start S room.hd e0 (len _ _ _ _ hsp) vals inn
  refine wpAny_mono (ht.run [] s1 (start N vs) H _ J hq) ?_ fun e s' z => z
  intro fl s' z
  cases fl with
  | ret u =>
    obtain ⟨v, σ', H', J', rv, q⟩ := z
    exact ⟨v, H', J'.os, J'.bare, J'.base, J'.hok, rv, q⟩
  | next =>
    obtain ⟨σ', H', J', q⟩ := z
    exact ⟨V.non, H', J'.os, J'.bare, J'.base, J'.hok, rfl, q⟩
  | brk =>
    obtain ⟨_, _, _, q⟩ := z
    exact False.elim q
  | cont =>
    obtain ⟨_, _, _, q⟩ := z
    exact False.elim q
end VK

set_option maxHeartbeats 4000000
namespace DL
open PySem PySem.Spec PyProof.Rows L2
/-! ## lambdas: a table of code objects stands beside the pen -/
section
variable {K : PySem.W.Frag} {av av' : Addr → Prop} {H H' : Hp}
mutual
theorem Dt.keepX (k : ∀ b o, H b = some o → (∀ ps, o ≠ HO.tbl ps) → ¬ av b → H' b = some o ∧ ¬ av' b) : ∀ {v : V} {d : D}, Dt K av H v d → Dt K av' H' v d
  | _, _, .non => .non
  | _, _, .bl b => .bl b
  | _, _, .int i => .int i
  | _, _, .str x => .str x
  | _, _, .hd a => .hd a
  | _, _, .ty a => .ty a
  | _, _, .lst h r => .lst (k _ _ h.1 (fun _ z => by cases z) h.2) (DtAll.keepX k r)
  | _, _, .tup h r => .tup (k _ _ h.1 (fun _ z => by cases z) h.2) (DtAll.keepX k r)
  | _, _, .dct h n r => by
    rcases h with h | ⟨o, h⟩
    · exact .dct (.inl (k _ _ h (fun _ z => by cases z) n).1) (k _ _ h (fun _ z => by cases z) n).2 (DtKV.keepX k r)
    · exact .dct (.inr ⟨o, (k _ _ h (fun _ z => by cases z) n).1⟩) (k _ _ h (fun _ z => by cases z) n).2 (DtKV.keepX k r)
  | _, _, .obj h n r => .obj (k _ _ h (fun _ z => by cases z) n).1 (k _ _ h (fun _ z => by cases z) n).2 (DtFs.keepX k r)
theorem DtAll.keepX (k : ∀ b o, H b = some o → (∀ ps, o ≠ HO.tbl ps) → ¬ av b → H' b = some o ∧ ¬ av' b) : ∀ {v : List V} {d : List D}, DtAll K av H v d → DtAll K av' H' v d
  | _, _, .nil => .nil
  | _, _, .cons h r => .cons (Dt.keepX k h) (DtAll.keepX k r)
theorem DtKV.keepX (k : ∀ b o, H b = some o → (∀ ps, o ≠ HO.tbl ps) → ¬ av b → H' b = some o ∧ ¬ av' b) : ∀ {v : List (Key × V)} {d : List (Key × D)}, DtKV K av H v d → DtKV K av' H' v d
  | _, _, .nil => .nil
  | _, _, .cons h r => .cons (Dt.keepX k h) (DtKV.keepX k r)
theorem DtFs.keepX (k : ∀ b o, H b = some o → (∀ ps, o ≠ HO.tbl ps) → ¬ av b → H' b = some o ∧ ¬ av' b) : ∀ {v : List (Str × V)} {d : List (Str × D)}, DtFs K av H v d → DtFs K av' H' v d
  | _, _, .nil => .nil
  | _, _, .cons h r => .cons (Dt.keepX k h) (DtFs.keepX k r)
end
theorem MoAt.keepX {sf : Addr} {a : Addr} {m : MO} (k : ∀ b o, H b = some o → (∀ ps, o ≠ HO.tbl ps) → ¬ av b → H' b = some o ∧ ¬ av' b) (ka : ∀ o, H a = some o → (∀ ps, o ≠ HO.tbl ps) → H' a = some o) (h : MoAt K sf av H a m) : MoAt K sf av' H' a m := by
  cases m with
  | lst l => obtain ⟨vs, h, r⟩ := h; exact ⟨vs, ka _ h (fun _ z => by cases z), r.keepX k⟩
  | dct l => obtain ⟨vs, h, r⟩ := h; exact ⟨vs, ka _ h (fun _ z => by cases z), r.keepX k⟩
  | obj C l => obtain ⟨e, dx, vs, h, r⟩ := h; exact ⟨e, dx, vs, ka _ h (fun _ z => by cases z), r.keepX k⟩
/-- a thing that is owned is a list, a dict, an object -/
theorem MoAt.notCode {sf : Addr} {a c : Addr} {q : Str} {m : MO} (h : MoAt K sf av H a m) : H a ≠ some (LamX.CodeO c q) := by
  intro z
  unfold LamX.CodeO at z
  cases m with
  | lst l => obtain ⟨vs, h, r⟩ := h; rw [h] at z; cases z
  | dct l => obtain ⟨vs, h, r⟩ := h; rw [h] at z; cases z
  | obj C l => obtain ⟨e, dx, vs, h, r⟩ := h; rw [h] at z; cases z
theorem MoAt.notTab {sf : Addr} {a : Addr} {ps : Array Value} {m : MO} (h : MoAt K sf av H a m) : H a ≠ some (HO.tbl ps) := by
  intro z
  cases m with
  | lst l => obtain ⟨vs, h, r⟩ := h; rw [h] at z; cases z
  | dct l => obtain ⟨vs, h, r⟩ := h; rw [h] at z; cases z
  | obj C l => obtain ⟨e, dx, vs, h, r⟩ := h; rw [h] at z; cases z
end
/-- the table at Pt, its code objects' name q -/
def TabG (Pt : Addr) (q : Str) (av : Addr → Prop) (H : Hp) : Prop := ¬ av Pt ∧ ∃ ps : Array Value, H Pt = some (.tbl ps) ∧ TriplesOk ps.toList ∧ ∀ (pos : Pos) (cv : Value), codeAmong pos ps.toList = some cv → ∃ c, cv = .ref c ∧ H c = some (LamX.CodeO c q) ∧ ¬ av c
theorem TabG.tabs {Pt : Addr} {q : Str} {av : Addr → Prop} {H : Hp} (h : TabG Pt q av H) : LamX.Tabs [(Pt, q)] H := by
  intro p hp
  rcases List.mem_singleton.mp hp with rfl
  obtain ⟨_, ps, h1, h2, h3⟩ := h
  refine ⟨ps, h1, h2, fun pos cv e => ?_⟩
  obtain ⟨c, e1, e2, _⟩ := h3 pos cv e
  exact ⟨c, e1, e2⟩
theorem TabG.keep {Pt : Addr} {q : Str} {av av' : Addr → Prop} {H H' : Hp} (k : ∀ b o, H b = some o → ¬ av b → H' b = some o ∧ ¬ av' b) (h : TabG Pt q av H) : TabG Pt q av' H' := by
  obtain ⟨n, ps, h1, h2, h3⟩ := h
  refine ⟨(k _ _ h1 n).2, ps, (k _ _ h1 n).1, h2, fun pos cv e => ?_⟩
  obtain ⟨c, e1, e2, e3⟩ := h3 pos cv e
  exact ⟨c, e1, k _ _ e2 e3⟩
/-- the pen and the table -/
abbrev penRT (n1 n2 : Str) (Pt : Addr) (q : Str) : Rs where
  α := Int × Int
  ix := Addr × Addr × List Int
  G := fun K i g av H => (penR n1 n2).G K i g av H ∧ TabG Pt q av H
  mu := fun i a => a = i.1 ∨ a = Pt
  stab := fun {K i g av av' H H'} k h => ⟨(penR n1 n2).stab k h.1, h.2.keep k⟩
  trk := fun {K i g av H a} h e => by
    rcases e with e | e
    · rw [e, h.1.1]
      nofun
    · obtain ⟨_, ps, h1, _⟩ := h.2
      rw [e, h1]
      nofun
section
variable {n1 n2 : Str} {Pt : Addr} {q : Str} {K : PySem.W.Frag}
/-- a def that knows the pen alone -/
theorem sp_lift {n : Nat} {F : FF (penR n1 n2)} (vs : List V) (H : Hp) (Q : VK) (E : XK) (h : spD (penRT n1 n2 Pt q) K n F vs H Q E) : spD (penR n1 n2) K n F vs H Q E := by
  obtain ⟨hl, ix, av, g, ds, hav, hG, hd, h⟩ := h
  obtain ⟨⟨g1, g2, g3, g4⟩, t1, ps, t2, t3, t4⟩ := id hG
  have np : ix.1 ≠ Pt := ne_of g1 t2 (by intro z; cases z)
  have nc : ix.2.1 ≠ Pt := ne_of g2 t2 (by intro z; cases z)
  have ee : ∀ a, ((penRT n1 n2 Pt q).mu ix a ∨ av a) ↔ ((penR n1 n2).mu ix a ∨ (av a ∨ a = Pt)) := fun a => by
    constructor
    · rintro ((z | z) | z)
      · exact .inl z
      · exact .inr (.inr z)
      · exact .inr (.inl z)
    · rintro (z | z | z)
      · exact .inl (.inl z)
      · exact .inr z
      · exact .inl (.inr z)
  refine ⟨hl, ix, fun a => av a ∨ a = Pt, g, ds, fun a z => ?_, ⟨g1, g2, fun z => ?_, fun z => ?_⟩, hd.keep fun b o e n => ⟨e, fun z => n ((ee b).mpr z)⟩, ?_⟩
  · rcases z with z | z
    · exact hav a z
    · rw [z, t2]
      nofun
  · rcases z with z | z
    · exact g3 z
    · exact np z
  · rcases z with z | z
    · exact g4 z
    · exact nc z
  · have res : ∀ (g' : Int × Int) (H' : Hp), (∀ b o, H b = some o → ¬ (penR n1 n2).mu ix b → H' b = some o) → (penR n1 n2).G K ix g' (fun a => av a ∨ a = Pt) H' → (∀ b o, H b = some o → ¬ (penRT n1 n2 Pt q).mu ix b → H' b = some o) ∧ (penRT n1 n2 Pt q).G K ix g' av H' := fun g' H' k ⟨r1, r2, r3, r4⟩ => by
      refine ⟨fun b o e n => k b o e fun z => n (.inl z), ⟨r1, r2, fun z => r3 (.inl z), fun z => r4 (.inl z)⟩, t1, ps, k _ _ t2 (fun z => np z.symm), t3, fun pos cv e => ?_⟩
      obtain ⟨c, e1, e2, e3⟩ := t4 pos cv e
      refine ⟨c, e1, k _ _ e2 (fun z => ?_), e3⟩
      have z : c = ix.1 := z
      rw [z, g1] at e2
      unfold LamX.CodeO at e2
      cases e2
    have e0 : (F : (penR n1 n2).ix → (penR n1 n2).α → List D → Rr (penR n1 n2).α D) ix g ds = F ix g ds := rfl
    revert h
    cases hF : F ix g ds with
    | ok d g' => exact fun h v H' k r dv => h v H' (res g' H' k r).1 (res g' H' k r).2 (dv.keep fun b o e n => ⟨e, fun z => n ((ee b).mp z)⟩)
    | err C fs g' =>
      intro h x H' k r dv
      refine h x H' (res g' H' k r).1 (res g' H' k r).2 ?_
      cases x with
      | none => exact dv
      | some x => obtain ⟨xs, e, q⟩ := dv; exact ⟨xs, e, q.keep fun b o e n => ⟨e, fun z => n ((ee b).mp z)⟩⟩
    | bad => exact fun h => h
theorem fn_lift {P : Program} {w : World} {mg : Str → Option Value} {base : Heap} {CX : CXT} {k n : Nat} {f : Addr} {fd : FuncData} {ps : List Str} {F : FF (penR n1 n2)} (h : FnOk P w K mg base CX k f fd ps (spD (penR n1 n2) K n F)) : FnOk P w K mg base CX k f fd ps (spD (penRT n1 n2 Pt q) K n F) :=
  ⟨fun vs H Q E z => h.len vs H Q E (sp_lift vs H Q E z), fun A outer s H args us vs Q E a b c d z => h.run A outer s H args us vs Q E a b c d (sp_lift vs H Q E z)⟩
theorem ld_lift {P : Program} {w : World} {mg : Str → Option Value} {base : Heap} {nm : Str} {k n : Nat} {f : Addr} {fd : FuncData} {ps : List Str} {F : FF (penR n1 n2)} (h : LdX P w K mg base (penR n1 n2) nm k f fd ps n F) : LdX P w K mg base (penRT n1 n2 Pt q) nm k f fd ps n F :=
  ⟨fn_lift h.G, h.b, h.g, h.k⟩
end
/-! ### the state behind a lambda's making -/
section
variable {n1 n2 : Str} {Pt : Addr} {q : Str} {Γ : Gm (penRT n1 n2 Pt q)} {sl : List SV} {tm : List (V × D)} {ow : List (Addr × MO)} {g : Int × Int} {σ : L2.St} {H H1 : Hp}
theorem SRel.lam (S : SRel Γ sl tm ow g σ H) (hn : ∀ b ps, Γ.H0 b = some (.tbl ps) → b = Pt) (h0 : ∀ a, ¬ Γ.av0 a) (eN : LamX.ExtN H H1) (T1 : LamX.Tabs [(Pt, q)] H1) : SRel Γ sl tm ow g σ H1 := by
  have k2 : ∀ b o, H b = some o → (∀ ps, o ≠ HO.tbl ps) → ¬ Γ.av sl ow σ b → H1 b = some o ∧ ¬ Γ.av sl ow σ b := fun b o e t n => ⟨eN b o e t, n⟩
  have slots1 : ∀ (i : Nat) (s : SV), sl[i]? = some s → SlotOk Γ.K Γ.sf (Γ.av sl ow σ) H1 σ[i]? s := fun i s e => by
    have q := S.slots i s e
    cases s with
    | un => trivial
    | dat d => obtain ⟨v, e1, e2⟩ := q; exact ⟨v, e1, e2.keepX k2⟩
    | mu m => obtain ⟨a, e1, e2⟩ := q; exact ⟨a, e1, e2.keepX k2 (fun o z t => eN a o z t)⟩
  have ows1 : ∀ a m, (a, m) ∈ ow → MoAt Γ.K Γ.sf (Γ.av sl ow σ) H1 a m := fun a m e => (S.ows a m e).keepX k2 (fun o q t => eN a o q t)
  obtain ⟨⟨g1, g2, g3, g4⟩, t1, _⟩ := S.res
  refine ⟨S.len, fun b o e n => eN b o (S.frame b o e n) fun ps z => ?_, ⟨⟨eN _ _ g1 (fun _ z => by cases z), eN _ _ g2 (fun _ z => by cases z), g3, g4⟩, t1, ?_⟩, slots1, fun v d e => (S.tms v d e).keepX k2, ows1, S.ofr, S.uq1, S.uq2, S.uq3⟩
  · rw [z] at e
    exact n (.inr (hn b ps e))
  · obtain ⟨ps, p1, p2, p3⟩ := T1 _ List.mem_cons_self
    refine ⟨ps, p1, p2, fun pos cv e => ?_⟩
    obtain ⟨c, e1, e2⟩ := p3 pos cv e
    refine ⟨c, e1, e2, fun z => ?_⟩
    rcases z with z | z
    · exact h0 c z
    · rcases z with ⟨i, m, z1, z2⟩ | ⟨m, z⟩
      · obtain ⟨a, w1, w2⟩ := slots1 i _ z1
        rw [z2] at w1
        cases w1
        exact w2.notCode e2
      · exact (ows1 c m z).notCode e2
end
/-! ### the rule -/
/-- what refused(lambda: ..) gives of the body's outcome: the refused value's text, in a list -/
def fRef {R : Rs} (CN : Addr) (f : FE R) : FE R := fun sl g => match f sl g with
  | .err C [(x, d)] g' => if C = CN ∧ x = "value" then (match reprD [d] with
    | some (.str z) => .ok (.lst [.str z]) g'
    | _ => .bad) else .bad
  | _ => .bad
def TRefD (K : PySem.W.Frag) (CN : Addr) : (XK → Hp → VK → Prop) → Hp → VK → Prop := fun tl H Q =>
  tl (fun cls d H2 => ∃ dd v dt av z, cls = .ref CN ∧ d = some dd ∧ H2 dd = some (.xd [("value", v)]) ∧ Dt K av H2 v dt ∧ reprD [dt] = some (.str z) ∧ ∀ L H3, H2 L = none → Same H2 H3 → H3 L = some (.lst [.str z]) → Q (.ref L) H3) H (fun _ _ => False)
theorem repr_facts {K : PySem.W.Frag} {av : Addr → Prop} {H : Hp} {v : V} {dt : D} {z : Str} (h : Dt K av H v dt) (e : reprD [dt] = some (.str z)) : ∃ p, VK.Dr K H v p ∧ p.showable = true ∧ p.shown.length ≤ sizeLine ∧ p.depth ≤ 60 ∧ p.shown = z := by
  unfold reprD at e
  dsimp only at e
  cases e1 : toPy dt with
  | none => rw [e1] at e; cases e
  | some p =>
    rw [e1] at e
    dsimp only at e
    split at e
    · rename_i c
      cases e
      exact ⟨p, .of (dp_of h e1), c.1, lim_ok c.2.1, c.2.2, rfl⟩
    · cases e
structure LamIx {ι : Type} (X : ι → Cx) (scope : Scope) (k : Nat) where
  j : ι
  A : Around
  o : List Env
  s : Shared
  H : Hp
  f : Addr
  c : Addr
  room : Room k (A.deeper (LamX.lamEnv (X j) scope s.heap.objs.size f c))
abbrev LamIx.cx {ι : Type} {X : ι → Cx} {scope : Scope} {k : Nat} (E : XK) (z : LamIx X scope k) : Cx := LamX.lamCx (X z.j) z.A z.o z.s z.H E scope z.f z.c
section
variable {n1 n2 : Str} {Pt : Addr} {q : Str} {Γ : Gm (penRT n1 n2 Pt q)} {ι : Type} {X : ι → Cx} {E : XK}
theorem ed_lam {body : Expr} {scope : Scope} {fn : Str} {p lpos pos : Pos} {params : Arguments} {k : Nat} {fb : FE (penRT n1 n2 Pt q)} {CN : Addr} (hn : ∀ b ps, Γ.H0 b = some (.tbl ps) → b = Pt) (h0 : ∀ a, ¬ Γ.av0 a)
    (hb : ∀ E' : XK, ED (fun z : LamIx X scope k => z.cx E') E' Γ body fb)
    (pe : ∀ {t : XK → TE} (j : ι), (∀ (A : Around) (outer : List Env) (s : Shared) (H : Hp) (E : XK) (f c' : Addr), Room k (A.deeper (LamX.lamEnv (X j) scope s.heap.objs.size f c')) → PE (LamX.lamCx (X j) A outer s H E scope f c') body (t E)) → PE (X j) (.Call (.Name fn p) [.Lambda params body scope lpos] [] pos) (LamX.tLam [(Pt, q)] (TRefD Γ.K CN) t)) :
    ED X E Γ (.Call (.Name fn p) [.Lambda params body scope lpos] [] pos) (fRef CN fb) := by
  refine ⟨LamX.tLam [(Pt, q)] (TRefD Γ.K CN) (fun E' => (hb E').choose), fun j => pe j (fun A o s H E' f c' hr => (hb E').choose_spec.1 ⟨j, A, o, s, H, f, c', hr⟩), fun sl tm ow g σ H Q S h => ⟨S.res.2.tabs, fun H1 eN T1 => ?_⟩⟩
  have S1 := S.lam hn h0 eN T1
  refine (hb _).choose_spec.2 sl tm ow g σ H1 _ S1 ?_
  unfold fRef at h
  cases e : fb sl g with
  | bad => rw [e] at h; exact h.elim
  | ok d g' => rw [e] at h; exact h.elim
  | err C fs g' =>
    rw [e] at h
    rcases fs with _ | ⟨⟨x, d⟩, _ | ⟨fd, fs⟩⟩
    · exact h.elim
    · dsimp only at h
      split at h
      · rename_i c
        obtain ⟨rfl, rfl⟩ := c
        split at h
        · rename_i z ez
          intro y H2 S2 xa
          cases y with
          | none => cases xa
          | some dd =>
            obtain ⟨xs, e1, e2⟩ := xa
            cases e2 with
            | cons dv r =>
              cases r
              refine ⟨dd, _, d, _, z, rfl, rfl, e1, dv, ez, fun L H3 hL sm e3 => h _ H3 (S2.ext sm) (.lst ⟨e3, fun z => ?_⟩ (.cons (.str _) .nil))⟩
              exact S2.avd z hL
        · exact h.elim
      · exact h.elim
    · exact h.elim
end
/-- own errors: their class, and what their making wants -/
structure KErr (P : Program) (K : PySem.W.Frag) (mg : Str → Option Value) (cn x : Str) (C : Addr) : Prop where
  ec : VK.EC P K mg cn C VK.xValueError (some x)
  su : mg "super" = none
  top : (P.main.scope.names.lookup ("super" : Str)).isSome = false
theorem mk_dp {k : Nat} {A : Around} (hr : Room (k + 1) A) : A.depth + 1 < recursionLimit := by have := hr.dp; omega
end DL

set_option maxHeartbeats 4000000
namespace DL
open PySem PySem.Spec PyProof.Rows L2
/-! ## tuple * int, from 1 on -/
theorem tuple_mul1 (l : Addr) (zs : Array Value) (n : Nat) (dx : Option Addr) (sl : Array (Option Value)) (u : Tok) :
    Meets (Builtin.«tuple.__mul__» ⟨[.ref l, .int 1 u], []⟩) (fun _ R s => s.heap.get? l = some { cls := .type "tuple", dict := dx, data := .seq zs n, slots := sl } ∧ R (.ok (.ret (Value.ref l))) s) :=
  .of_wp fun prog w A R s h => by
    obtain ⟨hp, g, d, tk, os⟩ := s
    obtain ⟨hl, h⟩ := h
    have f1 := AutoSeq1.idx_int
    wp_walk using wpAny_loadPart' hl
    exact ⟨_, rfl, h⟩
def rRepT1 (K : PySem.W.Frag) : R2 := fun x y H Q => ∃ l xs, x = .ref l ∧ y = .int 1 ∧ SqT K H l xs ∧ Q (.ref l) H
theorem op_repT1 {X : Cx} : OpR X (binaryOp .Mult) (rRepT1 X.K) := by
  intro pins s σ H x y v u Q I rx ry h
  obtain ⟨l, xs, rfl, rfl, hT, q⟩ := h
  cases rx
  obtain ⟨t, rfl⟩ := ry
  obtain ⟨zs, r, ⟨⟨cl, dx, da, sl⟩, ho, hc, n, hd⟩, hs⟩ := I.tuple hT
  simp only at hc hd
  subst hc hd
  have isT : s.TypeIs (.ref l) "tuple" := ⟨_, ho, rfl⟩
  have inner : wpAny (model X.prog X.w) X.A (call (.builtin "tuple.__mul__") [.ref l, .int 1 t]) (EP X pins σ Q) X.xe s :=
    call_meets F.slot_tuple_mul isT F.entry_tuple_mul (F.args_tuple_mul_2 _ _)
      (tuple_mul1 l zs.toArray n dx sl t) ⟨ho, show EP X pins σ Q (.ref l) s from ⟨.ref l, H, I, rfl, q⟩⟩
  refine wpAny_binaryOp_repeat_ref (T := "tuple") (U := "int") (by decide) isT (fun s' => typeIs_int s' 1 t) noFill_tuple_mul F.fills_int_mul
    F.slot_int_rmul repeat_tuple F.slot_int_index.lookup ?_
  exact call_meets F.slot_int_rmul (typeIs_int s 1 t) F.entry_int_rmul (F.args_int_rmul_2 _ _)
    (int_rmul_tuple 1 t l zs.toArray n dx sl) ⟨ho, rfl, isT, inner⟩
theorem op_or {X : Cx} {f : Value → Value → Sem Value} {r1 r2 : R2} (h1 : OpR X f r1) (h2 : OpR X f r2) : OpR X f (fun x y H Q => r1 x y H Q ∨ r2 x y H Q) := by
  intro pins s σ H x y v u Q I rx ry h
  rcases h with h | h
  · exact h1 pins s σ H x y v u Q I rx ry h
  · exact h2 pins s σ H x y v u Q I rx ry h
def repT : D → D → Option D
  | .tup a, .int k => if k = 1 then some (.tup a) else if a ≠ [] ∧ 2 ≤ k ∧ k ≤ 1000 ∧ a.length ≤ 1000 then some (.tup (List.replicate k.toNat a).flatten) else none
  | _, _ => none
section
variable {R : Rs} {Γ : Gm R} {ι : Type} {X : ι → Cx} {E : XK}
theorem s_repT : OpS Γ (fun x y H Q => rRepT1 Γ.K x y H Q ∨ rRepT Γ.K x y H Q) repT := by
  intro sl tm ow g σ H x y d e z Q S dx dy eo k
  cases dx <;> cases dy <;> first | (cases eo; done) | skip
  rename_i h1 r1 i
  simp only [repT] at eo
  split at eo
  · rename_i c
    subst c
    cases eo
    exact .inl ⟨_, _, rfl, rfl, h1.seq, k _ _ S (fun _ _ e => e) (.tup h1 r1)⟩
  · split at eo
    · rename_i c
      cases eo
      refine .inr ⟨_, _, _, rfl, rfl, h1.seq, fun z => ?_, c.2.1, c.2.2.1, by rw [r1.length]; exact c.2.2.2, fun p hp => ?_⟩
      · have l1 := r1.length
        rw [z] at l1
        exact c.1 (List.eq_nil_of_length_eq_zero l1.symm)
      · have S2 := S.newT (r1.rep i.toNat) hp
        exact k _ _ S2.pop (upd_keep hp) S2.top
    · cases eo
/-! ## C.m(e, ..), m with *rest -/
def fCmP (C : Addr) (F : R.α → List D → Rr R.α D) (fa : FA R) : FE R := fun sl g => (fa sl g).bind fun xs g => match xs with
  | x :: es => if es.length ≤ 100000 then F g [.hd C, x, .tup es] else .bad
  | _ => .bad
theorem ed_cmP {C : Addr} {F : FF R} {o e : Expr} {es : List Expr} {m : Str} {apos pos : Pos} {fa : FA R} (ha : EA X E Γ (e :: es) fa) (ho : ∀ j, PE (X j) o (tC (.ref C)))
    (pe : ∀ {t ta} j, PE (X j) o t → PA (X j) (e :: es) ta → PE (X j) (.Call (.Attribute o m apos) (e :: es) [] pos) (ClX.tCMeth C (spStar (spD R Γ.K 3 F) 2) E t ta)) : ED X E Γ (.Call (.Attribute o m apos) (e :: es) [] pos) (fCmP C (F Γ.ix) fa) := by
  obtain ⟨ta, pa, sa⟩ := ha
  refine ⟨_, fun j => pe j (ho j) (pa j), fun sl tm ow g σ H Q S h => ?_⟩
  unfold fCmP at h
  refine ⟨rfl, ?_⟩
  refine sa sl tm ow g σ H _ S ?_
  cases ea : fa sl g with
  | bad => rw [ea] at h; exact h
  | err C fs g1 => rw [ea] at h; exact h
  | ok ds g1 =>
    rw [ea] at h
    dsimp only [bind_ok] at h
    intro vs H1 S1 d1
    cases d1 with
    | nil => exact h.elim
    | cons d1 r =>
      dsimp only at h
      by_cases hl : (‹List D› : List D).length ≤ 100000
      · rw [if_pos hl] at h
        refine ⟨[.ref C, _], _, rfl, rfl, by rw [r.length]; exact lim_ok hl, fun p hp => ?_⟩
        have S2 := (S1.push d1).newT r hp
        exact spD_call (S2.sub fun q m => List.mem_cons_of_mem _ (List.mem_cons_of_mem _ m)) (.cons (.hd C) (.cons S2.top2 (.cons S2.top .nil))) rfl h
      · rw [if_neg hl] at h
        exact h.elim
end
/-! ## C.m(x=e), a classmethod by one keyword -/
def tCmK (C : Addr) (sp : Sp) (gV : List V → List V → List V) (E : XK) (ta : TE) (tk : TA) : TE := fun σ H Q => ta σ H fun x H1 => x = .ref C ∧ tk σ H1 fun zs H2 => sp (gV [.ref C] zs) H2 Q E
section
variable {X : Cx} {CXa : CXT} {k : Nat} {C p f : Addr} {mc : Value} {fd : FuncData} {ps ks : List Str} {sp : Sp} {E : XK} {m : Str} {pos apos : Pos} {o : Expr} {kws : List Keyword} {ta : TE} {tk : TA} {gf : List Value → List Value → List Value} {gV : List V → List V → List V}
theorem pe_cmK {pl : Sem Bool} (he : PE X o ta) (r : ClX.CRead X.K C mc) (c : ClX.CMet X.K C mc m p f) (F : FnOk X.prog X.w X.K X.mg X.base CXa k f fd ps sp) (hr : Room k X.A) (hb : KBinds X.K fd ps ks gf gV) (hx : Passes CXa X E) (hkw : PK X kws tk)
    (hall : (backToKw pos (keywordEach kws X.env)).all (·.1.isSome) = true := by rfl) (hks : (backToKw pos (keywordEach kws X.env)).filterMap (·.1) = ks := by rfl)
    (hpl : ((backTo pos (starEach [] X.env)).any (·.1) || (backToKw pos (keywordEach kws X.env)).any (·.1.isNone)) = false := by rfl)
    (ht : eval (.Call (.Attribute o m apos) [] kws pos) X.env = (do
      let ov ← eval o X.env
      standAt apos.atName
      let (f, first) ← holding [ov] (getMethod ov m pl)
      callWith pos f first (backTo pos (starEach [] X.env)) (backToKw pos (keywordEach kws X.env))) := by rfl) :
    PE X (.Call (.Attribute o m apos) [] kws pos) (tCmK C sp gV E ta tk) := by
  refine ⟨fun pins s σ H Q I h => ?_⟩
  refine PySem.W.methodCall_KW (pl := pl) (thn (he.run pins s σ H _ I h) fun u s1 ⟨x, H1, I1, rx, ex, q⟩ => ?_) ht
  subst ex
  obtain rfl : u = Value.ref C := rx
  refine ClX.getmethcm_ok I1 r c fun s2 I2 => ?_
  refine PySem.W.callWith_of (P := PySem.W.MethP X.K s1.heap.objs.size f (.ref C)) hpl (PySem.W.keeps_M c.fi) (evalArgs_kw2_nil hall ?_)
  refine thn (hkw.run pos _ s2 σ H1 _ I2 q) fun ws s3 ⟨zs, H2, I3, rz, q2⟩ => ⟨⟨ClX.pin_at I3, I3.kIn⟩, ?_⟩
  rw [hks]
  have hv : Vals [V.ref C] [Value.ref C] := .cons rfl .nil
  have r2 := hb.rel hv rz
  have hl : (gf [.ref C] ws).length = ps.length := by rw [← r2.length]; exact F.len _ _ _ _ q2
  have z : wpAny (model X.prog X.w) X.A (call (.ref s1.heap.objs.size) ([] ++ []) (ks.zip ws)) (EP X ((s1.heap.objs.size, PySem.W.methodObj (.ref f) (.ref C)) :: pins) σ Q) X.xe s3 := by
    refine wpAny_call (PySem.W.method_call (ClX.pin_at I3) (codeAny_mono (F.run X.A X.stack s3 H2 ⟨[.ref C], ks.zip ws⟩ (gf [.ref C] ws) (gV [.ref C] zs) Q E hr I3.env0 (hb.to s3 [.ref C] ws I3.kIn hl) r2 q2) fun rr s' hq => ?_))
    cases rr with
    | error e => exact hx _ σ H2 s3 e s' I3 hq
    | ok fl =>
      cases fl with
      | ret u => exact I3.after hq
      | next => exact False.elim hq
      | brk => exact False.elim hq
      | cont => exact False.elim hq
  exact thn z fun _ _ y => ClX.unpinE y
end
section
variable {R : Rs} {Γ : Gm R} {ι : Type} {X : ι → Cx} {E : XK}
theorem ed_cmK {C : Addr} {n : Nat} {F : FF R} {m : Str} {o e : Expr} {apos pos kpos : Pos} {nm : Option Str} {fe : FE R} {gV : List V → List V → List V} (he : ED X E Γ e fe) (hg : ∀ a z, gV [a] [z] = [a, z]) (ho : ∀ j, PE (X j) o (tC (.ref C)))
    (pe : ∀ {to te} j, PE (X j) o to → PE (X j) e te → PE (X j) (.Call (.Attribute o m apos) [] [⟨nm, e, kpos⟩] pos) (tCmK C (spD R Γ.K n F) gV E to (tCons te tNil))) : ED X E Γ (.Call (.Attribute o m apos) [] [⟨nm, e, kpos⟩] pos) (fCm C n (F Γ.ix) (fCons fe fNil)) := by
  obtain ⟨te, pe', se⟩ := he
  refine ⟨_, fun j => pe j (ho j) (pe' j), fun sl tm ow g σ H Q S h => ?_⟩
  unfold fCm fCons fNil at h
  refine ⟨rfl, ?_⟩
  refine se sl tm ow g σ H _ S ?_
  cases e2 : fe sl g with
  | bad => rw [e2] at h; exact h
  | err C fs g2 => rw [e2] at h; exact h
  | ok d2 g2 =>
    rw [e2] at h
    dsimp only [bind_ok] at h
    intro v2 H2 S2 d3
    by_cases c : [d2].length + 1 = n
    · rw [if_pos c] at h
      show (spD R Γ.K n F) (gV [.ref C] [v2]) H2 Q E
      rw [hg]
      exact spD_call S2 (.cons (.hd C) (.cons d3 .nil)) c h
    · rw [if_neg c] at h
      exact h.elim
end
end DL

set_option maxHeartbeats 4000000
namespace DL
open PySem PySem.Spec PyProof.Rows L2
def topS (i : Nat) : Stmt := PySem.Challenge.pw_echofold_k02_likeness_silence_pairs.main.body.getD i (.Pass ⟨0, 0, 0, 0⟩)
structure Bx (mg : Str → Option Value) where
  n_ValueError : mg "ValueError" = none
  n_sorted : mg "sorted" = none
  n_sum : mg "sum" = none
  n_isinstance : mg "isinstance" = none
  n_all : mg "all" = none
  n_len : mg "len" = none
  n_tuple : mg "tuple" = none
  n_list : mg "list" = none
  n_int : mg "int" = none
  n_bool : mg "bool" = none
  n_range : mg "range" = none
  n_repr : mg "repr" = none
  n_abs : mg "abs" = none
  n_min : mg "min" = none
  n_max : mg "max" = none
  n_enumerate : mg "enumerate" = none
  n_zip : mg "zip" = none
structure KTable (K : PySem.W.Frag) (mg : Str → Option Value) (C : Addr) where
  cl : Cls K C
  g : mg "Table" = some (.ref C)
  n_rows : NoAttr K C "_rows"
  mc : Value
  rd : ClX.CRead K C mc
  u1 : Value
  v_MOST_LETTERS : ClX.CVal K C mc "MOST_LETTERS" (.int 5) u1
  u2 : Value
  v_MOST_TIMES : ClX.CVal K C mc "MOST_TIMES" (.int 1000000000000000000000000000000) u2
  ob : ObC K C
  fi : Addr
  mk_ : Mk K C fi
  pl : Addr
  f_rows : Addr
  p_rows : PropOf K C "rows" pl f_rows
  p1 : Addr
  f_likeness : Addr
  c_likeness : ClX.CMet K C mc "likeness" p1 f_likeness
  p2 : Addr
  f_silence : Addr
  c_silence : ClX.CMet K C mc "silence" p2 f_silence
  p3 : Addr
  f_pairs : Addr
  c_pairs : ClX.CMet K C mc "pairs" p3 f_pairs
theorem passXn {P : Program} {w : World} {K : PySem.W.Frag} {mg : Str → Option Value} {base : Heap} {N : List Str} {qual : Str} {sc : Scope} {f : Addr} {cd : Value} {A : Around} {outer : List Env} {s : Shared} {H : Hp} {E : XK} : Passes (L2.CX P w) (cxOf (L2.CX P w) P w K mg base N qual sc f cd A outer s H E).nox E0 := passN
section
variable {P : Program} {w : World} {K : PySem.W.Frag} {mg : Str → Option Value} {base : Heap}
def F_is_whole {R : Rs} : FF R := runF 1 fun ix => (sRet (fAnd (fCallL (isiL kt0) (fCons (fVar 0) (fCons (fC (.ty "int")) fNil))) (fNot (fCallL (isiL kt0) (fCons (fVar 0) (fCons (fC (.ty "bool")) fNil))))))
abbrev st_is_whole : Stmt := topS 5
theorem sc_is_whole : FnScope ["value"] ["value"] (defScope st_is_whole) := ⟨rfl, rfl, rfl, by decide +kernel, rfl, by decide +kernel, by decide +kernel⟩
theorem ok_is_whole {R : Rs} {f : Addr} {fd : FuncData} (F : Fun K "is_whole" "is_whole" st_is_whole f fd) (T : Bx mg)  : FnOk P w K mg base (L2.CX P w) 1 f fd ["value"] (spD R K 1 (F_is_whole (R := R))) :=
  fd_mk F sc_is_whole rfl fun cdv A outer s H E ix av h1 h2 hr =>
    (ess_one (es_ret (ed_and (ed_callL (ea_cons (dv 0) (ea_cons (ed_c (fun _ => pe_bltn (v := .ty "int") (by rfl) T.n_int (by decide +kernel) rfl) fun _ _ => .ty "int") ea_nil)) (s_isi kt0_ok) (fun _ a => pe_callB call_isi (by rfl) T.n_isinstance (by decide +kernel) a)) (ed_one (ed_not (ed_callL (ea_cons (dv 0) (ea_cons (ed_c (fun _ => pe_bltn (v := .ty "bool") (by rfl) T.n_bool (by decide +kernel) rfl) fun _ _ => .ty "bool") ea_nil)) (s_isi kt0_ok) (fun _ a => pe_callB call_isi (by rfl) T.n_isinstance (by decide +kernel) a)))))))
def F_is_between {R : Rs} : FF R := runF 3 fun ix => (sRet (fAnd (fCall 1 (F_is_whole ix) [] (fCons (fVar 0) fNil)) (fChain leI leI (fVar 1) (fVar 0) (fVar 2))))
abbrev st_is_between : Stmt := topS 6
theorem sc_is_between : FnScope ["value", "low", "high"] ["value", "low", "high"] (defScope st_is_between) := ⟨rfl, rfl, rfl, by decide +kernel, rfl, by decide +kernel, by decide +kernel⟩
theorem ok_is_between {R : Rs} {f : Addr} {fd : FuncData} (F : Fun K "is_between" "is_between" st_is_between f fd) (T : Bx mg) {fi_is_whole : Addr} {fd_is_whole : FuncData} (G_is_whole : LdX P w K mg base R "is_whole" 1 fi_is_whole fd_is_whole ["value"] 1 (F_is_whole (R := R))) : FnOk P w K mg base (L2.CX P w) 2 f fd ["value", "low", "high"] (spD R K 3 (F_is_between (R := R))) :=
  fd_mk F sc_is_between rfl fun cdv A outer s H E ix av h1 h2 hr =>
    (ess_one (es_ret (ed_and (ed_call (ea_cons (dv 0) ea_nil) (fun _ a => pe_call G_is_whole.G (hr.mono (by decide)) rfl G_is_whole.g G_is_whole.k G_is_whole.b .nil passX a)) (ed_one (ed_chain (fun _ => op_le) (fun _ => op_le) s_le s_le (dv 1) (dv 0) (dv 2) (fun _ a b c => pe_chain op_le op_le a b c))))))
def F_is_price {R : Rs} : FF R := runF 1 fun ix => (sRet (fOr (fOp isN (fVar 0) (fC .non)) (fAnd (fCall 1 (F_is_whole ix) [] (fCons (fVar 0) fNil)) (fOp geI (fVar 0) (fC (.int 0))))))
abbrev st_is_price : Stmt := topS 7
theorem sc_is_price : FnScope ["value"] ["value"] (defScope st_is_price) := ⟨rfl, rfl, rfl, by decide +kernel, rfl, by decide +kernel, by decide +kernel⟩
theorem ok_is_price {R : Rs} {f : Addr} {fd : FuncData} (F : Fun K "is_price" "is_price" st_is_price f fd) (T : Bx mg) {fi_is_whole : Addr} {fd_is_whole : FuncData} (G_is_whole : LdX P w K mg base R "is_whole" 1 fi_is_whole fd_is_whole ["value"] 1 (F_is_whole (R := R))) : FnOk P w K mg base (L2.CX P w) 2 f fd ["value"] (spD R K 1 (F_is_price (R := R))) :=
  fd_mk F sc_is_price rfl fun cdv A outer s H E ix av h1 h2 hr =>
    (ess_one (es_ret (ed_or (ed_cmp (fun _ => op_isN) s_isN (dv 0) ed_non (nomk _)) (ed_one (ed_and (ed_call (ea_cons (dv 0) ea_nil) (fun _ a => pe_call G_is_whole.G (hr.mono (by decide)) rfl G_is_whole.g G_is_whole.k G_is_whole.b .nil passX a)) (ed_one (ed_cmp (fun _ => op_ge) s_ge (dv 0) ed_int (nomk _))))))))
def F_are_prices {R : Rs} : FF R := runF 3 fun ix => (sSeq (sIf (tOrF (tNotF (tVal (fCallL isiT0 (fCons (fVar 0) (fCons (fTup (fCons (fC (.ty "list")) (fCons (fC (.ty "tuple")) fNil))) fNil))))) (tVal (fOp neD (fCallL lenD (fCons (fVar 0) fNil)) (fVar 1)))) (sRet (fC (.bl false))) sNx) (sRet (fCallL allD (fCons (fLc (iL (fVar 0)) [2] (gN 2) tYesF (fCall 1 (F_is_price ix) [] (fCons (fVar 2) fNil))) fNil))))
abbrev st_are_prices : Stmt := topS 25
theorem sc_are_prices : FnScope ["value", "many", "price"] ["value", "many"] (defScope st_are_prices) := ⟨rfl, rfl, rfl, by decide +kernel, rfl, by decide +kernel, by decide +kernel⟩
theorem ok_are_prices {R : Rs} {f : Addr} {fd : FuncData} (F : Fun K "are_prices" "are_prices" st_are_prices f fd) (T : Bx mg) {fi_is_price : Addr} {fd_is_price : FuncData} (G_is_price : LdX P w K mg base R "is_price" 2 fi_is_price fd_is_price ["value"] 1 (F_is_price (R := R))) : FnOk P w K mg base (L2.CX P w) 3 f fd ["value", "many"] (spD R K 2 (F_are_prices (R := R))) :=
  fd_mk F sc_are_prices rfl fun cdv A outer s H E ix av h1 h2 hr =>
    (ess_cons (es_if (et_w (ew_or (et_not (et_val (ed_callL (ea_cons (dv 0) (ea_cons (ed_tup (ea_cons (ed_c (fun _ => pe_bltn (v := .ty "list") (by rfl) T.n_list (by decide +kernel) rfl) fun _ _ => .ty "list") (ea_cons (ed_c (fun _ => pe_bltn (v := .ty "tuple") (by rfl) T.n_tuple (by decide +kernel) rfl) fun _ _ => .ty "tuple") ea_nil))) ea_nil)) s_isiT0 (fun _ a => pe_callB call_isiT (by rfl) T.n_isinstance (by decide +kernel) a)))) (ew_or1 (et_cmp (fun _ => op_ne) s_ne (ed_callL (ea_cons (dv 0) ea_nil) s_len (fun _ a => pe_callB call_len_seq (by rfl) T.n_len (by decide +kernel) a)) (dv 1) (nomk _))))) (ess_one (es_ret ed_bl)) ess_nil)
      (ess_one (es_ret (ed_callL (ea_cons (ed_lc (own := [("price", 2)]) (fun _ => rfl) (fun _ => sc_are_prices.nd) (ei_list (fun _ h => pi_list h) (dv 0)) (fun _ => blkOk_by (N := ["value", "many", "price"]) (sc := (defScope st_are_prices)) (by decide +kernel)) (eg_name (i := 2) (fun _ => sc_are_prices.nd) (fun _ => rfl) (fun _ => Or.inl rfl)) lc_yes (ed_call (ea_cons (dv 2) ea_nil) (fun _ a => pe_call G_is_price.G (hr.mono (by decide)) rfl G_is_price.g G_is_price.k G_is_price.b .nil passN a))) ea_nil) s_all (fun _ a => pe_callB (cr_all rfl) (by rfl) T.n_all (by decide +kernel) a)))))
def F_are_rows {R : Rs} (C_Table : Addr) : FF R := runF 2 fun ix => (sSeq (sIf (tOrF (tNotF (tVal (fCallL isiT0 (fCons (fVar 0) (fCons (fTup (fCons (fC (.ty "list")) (fCons (fC (.ty "tuple")) fNil))) fNil))))) (tNotF (tVal (fChain leI leI (fC (.int 1)) (fCallL lenD (fCons (fVar 0) fNil)) (fC (.int 5)))))) (sRet (fC (.bl false))) sNx) (sRet (fCallL allD (fCons (fLc (iL (fVar 0)) [1] (gN 1) tYesF (fCall 2 (F_are_prices ix) [] (fCons (fVar 1) (fCons (fCallL lenD (fCons (fVar 0) fNil)) fNil)))) fNil))))
abbrev st_are_rows : Stmt := topS 24
theorem sc_are_rows : FnScope ["value", "row"] ["value"] (defScope st_are_rows) := ⟨rfl, rfl, rfl, by decide +kernel, rfl, by decide +kernel, by decide +kernel⟩
theorem ok_are_rows {R : Rs} {C_Table : Addr} {f : Addr} {fd : FuncData} (F : Fun K "are_rows" "are_rows" st_are_rows f fd) (T : Bx mg) (K_Table : KTable K mg C_Table) {fi_are_prices : Addr} {fd_are_prices : FuncData} (G_are_prices : LdX P w K mg base R "are_prices" 3 fi_are_prices fd_are_prices ["value", "many"] 2 (F_are_prices (R := R))) : FnOk P w K mg base (L2.CX P w) 4 f fd ["value"] (spD R K 1 (F_are_rows (R := R) C_Table)) :=
  fd_mk F sc_are_rows rfl fun cdv A outer s H E ix av h1 h2 hr =>
    (ess_cons (es_if (et_w (ew_or (et_not (et_val (ed_callL (ea_cons (dv 0) (ea_cons (ed_tup (ea_cons (ed_c (fun _ => pe_bltn (v := .ty "list") (by rfl) T.n_list (by decide +kernel) rfl) fun _ _ => .ty "list") (ea_cons (ed_c (fun _ => pe_bltn (v := .ty "tuple") (by rfl) T.n_tuple (by decide +kernel) rfl) fun _ _ => .ty "tuple") ea_nil))) ea_nil)) s_isiT0 (fun _ a => pe_callB call_isiT (by rfl) T.n_isinstance (by decide +kernel) a)))) (ew_or1 (et_not (et_chain (fun _ => op_le) (fun _ => op_le) s_le s_le ed_int (ed_callL (ea_cons (dv 0) ea_nil) s_len (fun _ a => pe_callB call_len_seq (by rfl) T.n_len (by decide +kernel) a)) (ed_cval K_Table.rd K_Table.v_MOST_LETTERS (fun _ _ => .int _) (fun _ => ClX.pe_cval (pe_glob (v := .ref C_Table) rfl K_Table.g rfl))) (fun _ a b c => pt_chain op_le op_le a b c)))))) (ess_one (es_ret ed_bl)) ess_nil)
      (ess_one (es_ret (ed_callL (ea_cons (ed_lc (own := [("row", 1)]) (fun _ => rfl) (fun _ => sc_are_rows.nd) (ei_list (fun _ h => pi_list h) (dv 0)) (fun _ => blkOk_by (N := ["value", "row"]) (sc := (defScope st_are_rows)) (by decide +kernel)) (eg_name (i := 1) (fun _ => sc_are_rows.nd) (fun _ => rfl) (fun _ => Or.inl rfl)) lc_yes (ed_call (ea_cons (dv 1) (ea_cons (ed_callL (ea_cons (dv 0) ea_nil) s_len (fun _ a => pe_callB call_len_seq (by rfl) T.n_len (by decide +kernel) a)) ea_nil)) (fun _ a => pe_call G_are_prices.G (hr.mono (by decide)) rfl G_are_prices.g G_are_prices.k G_are_prices.b .nil passN a))) ea_nil) s_all (fun _ a => pe_callB (cr_all rfl) (by rfl) T.n_all (by decide +kernel) a)))))
def F_is_letter {R : Rs} : FF R := runF 2 fun ix => (sRet (fCall 3 (F_is_between ix) [] (fCons (fVar 0) (fCons (fC (.int 0)) (fCons (fOp subI (fVar 1) (fC (.int 1))) fNil)))))
abbrev st_is_letter : Stmt := topS 22
theorem sc_is_letter : FnScope ["value", "letters"] ["value", "letters"] (defScope st_is_letter) := ⟨rfl, rfl, rfl, by decide +kernel, rfl, by decide +kernel, by decide +kernel⟩
theorem ok_is_letter {R : Rs} {f : Addr} {fd : FuncData} (F : Fun K "is_letter" "is_letter" st_is_letter f fd) (T : Bx mg) {fi_is_between : Addr} {fd_is_between : FuncData} (G_is_between : LdX P w K mg base R "is_between" 2 fi_is_between fd_is_between ["value", "low", "high"] 3 (F_is_between (R := R))) : FnOk P w K mg base (L2.CX P w) 3 f fd ["value", "letters"] (spD R K 2 (F_is_letter (R := R))) :=
  fd_mk F sc_is_letter rfl fun cdv A outer s H E ix av h1 h2 hr =>
    (ess_one (es_ret (ed_call (ea_cons (dv 0) (ea_cons ed_int (ea_cons (ed_op (fun _ => op_sub) s_sub (dv 1) ed_int) ea_nil))) (fun _ a => pe_call G_is_between.G (hr.mono (by decide)) rfl G_is_between.g G_is_between.k G_is_between.b .nil passX a))))
def F_is_pair {R : Rs} : FF R := runF 2 fun ix => (sSeq (sIf (tOrF (tNotF (tVal (fCallL (isiL kt0) (fCons (fVar 0) (fCons (fC (.ty "tuple")) fNil))))) (tVal (fOp neD (fCallL lenD (fCons (fVar 0) fNil)) (fC (.int 2))))) (sRet (fC (.bl false))) sNx) (sRet (fAnd (fCall 2 (F_is_letter ix) [] (fCons (fOp ixT (fVar 0) (fC (.int 0))) (fCons (fVar 1) fNil))) (fCall 2 (F_is_letter ix) [] (fCons (fOp ixT (fVar 0) (fC (.int 1))) (fCons (fVar 1) fNil))))))
abbrev st_is_pair : Stmt := topS 23
theorem sc_is_pair : FnScope ["value", "letters"] ["value", "letters"] (defScope st_is_pair) := ⟨rfl, rfl, rfl, by decide +kernel, rfl, by decide +kernel, by decide +kernel⟩
theorem ok_is_pair {R : Rs} {f : Addr} {fd : FuncData} (F : Fun K "is_pair" "is_pair" st_is_pair f fd) (T : Bx mg) {fi_is_letter : Addr} {fd_is_letter : FuncData} (G_is_letter : LdX P w K mg base R "is_letter" 3 fi_is_letter fd_is_letter ["value", "letters"] 2 (F_is_letter (R := R))) : FnOk P w K mg base (L2.CX P w) 4 f fd ["value", "letters"] (spD R K 2 (F_is_pair (R := R))) :=
  fd_mk F sc_is_pair rfl fun cdv A outer s H E ix av h1 h2 hr =>
    (ess_cons (es_if (et_w (ew_or (et_not (et_val (ed_callL (ea_cons (dv 0) (ea_cons (ed_c (fun _ => pe_bltn (v := .ty "tuple") (by rfl) T.n_tuple (by decide +kernel) rfl) fun _ _ => .ty "tuple") ea_nil)) (s_isi kt0_ok) (fun _ a => pe_callB call_isi (by rfl) T.n_isinstance (by decide +kernel) a)))) (ew_or1 (et_cmp (fun _ => op_ne) s_ne (ed_callL (ea_cons (dv 0) ea_nil) s_len (fun _ a => pe_callB call_len_seq (by rfl) T.n_len (by decide +kernel) a)) ed_int (nomk _))))) (ess_one (es_ret ed_bl)) ess_nil)
      (ess_one (es_ret (ed_and (ed_call (ea_cons (ed_ix (fun _ => ix_tup) s_ixT (dv 0) ed_int (fun _ _ => rfl)) (ea_cons (dv 1) ea_nil)) (fun _ a => pe_call G_is_letter.G (hr.mono (by decide)) rfl G_is_letter.g G_is_letter.k G_is_letter.b .nil passX a)) (ed_one (ed_call (ea_cons (ed_ix (fun _ => ix_tup) s_ixT (dv 0) ed_int (fun _ _ => rfl)) (ea_cons (dv 1) ea_nil)) (fun _ a => pe_call G_is_letter.G (hr.mono (by decide)) rfl G_is_letter.g G_is_letter.k G_is_letter.b .nil passX a)))))))
def F_Table_init {R : Rs} (C_Table : Addr) : FI R := runI C_Table 2 fun ix => (sSeq (sIf (tNotF (tVal (fCall 1 ((F_are_rows C_Table) ix) [] (fCons (fVar 1) fNil)))) sNever sNx) (sFldS 0 C_Table "_rows" (fCallL tupleD (fCons (fLc (iL (fVar 1)) [2] (gN 2) tYesF (fCallL tupleD (fCons (fVar 2) fNil))) fNil))))
abbrev st_Table_init : Stmt := inClass (topS 19) 2
theorem sc_Table_init : FnScope ["self", "rows", "row"] ["self", "rows"] (defScope st_Table_init) := ⟨rfl, rfl, rfl, by decide +kernel, rfl, by decide +kernel, by decide +kernel⟩
theorem ok_Table_init {R : Rs} {C_Table : Addr} {f : Addr} {fd : FuncData} (F : Fun K "__init__" "Table.__init__" st_Table_init f fd) (T : Bx mg) (K_Table : KTable K mg C_Table) {fi_are_rows : Addr} {fd_are_rows : FuncData} (G_are_rows : LdX P w K mg base R "are_rows" 4 fi_are_rows fd_are_rows ["value"] 1 (F_are_rows (R := R) C_Table)) : FnOk P w K mg base (L2.CX P w) 5 f fd ["self", "rows"] (spI R K C_Table 1 (F_Table_init (R := R) C_Table)) :=
  fi_mk F sc_Table_init rfl rfl fun cdv A outer s H E t ix av h1 h2 hr =>
    (ess_cons (es_if (et_not (et_val (ed_call (ea_cons (dv 1) ea_nil) (fun _ a => pe_call G_are_rows.G (hr.mono (by decide)) rfl G_are_rows.g G_are_rows.k G_are_rows.b .nil passX a)))) (ess_one es_never) ess_nil)
      (ess_one (es_fld (i := 0) (fun _ => pv 0) (ed_callL (ea_cons (ed_lc (own := [("row", 2)]) (fun _ => rfl) (fun _ => sc_Table_init.nd) (ei_list (fun _ h => pi_list h) (dv 1)) (fun _ => blkOk_by (N := ["self", "rows", "row"]) (sc := (defScope st_Table_init)) (by decide +kernel)) (eg_name (i := 2) (fun _ => sc_Table_init.nd) (fun _ => rfl) (fun _ => Or.inl rfl)) lc_yes (ed_callL (ea_cons (dv 2) ea_nil) s_tuple (fun _ a => pe_callTy call_tuple_of (by rfl) T.n_tuple (by decide +kernel) a))) ea_nil) s_tuple (fun _ a => pe_callTy call_tuple_of (by rfl) T.n_tuple (by decide +kernel) a)) K_Table.cl K_Table.n_rows (fun _ a b => ps_fld b a rfl))))
def F_Table_rows {R : Rs} (C_Table : Addr) : FF R := runF 1 fun ix => (sRet (fFld C_Table "_rows" (fVar 0)))
abbrev st_Table_rows : Stmt := inClass (topS 19) 3
theorem sc_Table_rows : FnScope ["self"] ["self"] (defScope st_Table_rows) := ⟨rfl, rfl, rfl, by decide +kernel, rfl, by decide +kernel, by decide +kernel⟩
theorem ok_Table_rows {R : Rs} {C_Table : Addr} {f : Addr} {fd : FuncData} (F : Fun K "rows" "Table.rows" st_Table_rows f fd) (T : Bx mg) (K_Table : KTable K mg C_Table) : FnOk P w K mg base (L2.CX P w) 1 f fd ["self"] (spD R K 1 (F_Table_rows (R := R) C_Table)) :=
  fd_mk F sc_Table_rows rfl fun cdv A outer s H E ix av h1 h2 hr =>
    (ess_one (es_ret (ed_fld (dv 0) K_Table.cl K_Table.n_rows (fun _ h => pe_fld h rfl))))
def F_check_letters {R : Rs} (C_InvalidNumber : Addr) (C_Table : Addr) : FF R := runF 1 fun ix => (sIf (tNotF (tVal (fCall 3 (F_is_between ix) [] (fCons (fVar 0) (fCons (fC (.int 1)) (fCons (fC (.int 5)) fNil)))))) (sRaise C_InvalidNumber "value" (fVar 0)) sNx)
abbrev st_check_letters : Stmt := topS 20
theorem sc_check_letters : FnScope ["letters"] ["letters"] (defScope st_check_letters) := ⟨rfl, rfl, rfl, by decide +kernel, rfl, by decide +kernel, by decide +kernel⟩
theorem ok_check_letters {R : Rs} {C_InvalidNumber : Addr} {C_Table : Addr} {f : Addr} {fd : FuncData} (F : Fun K "check_letters" "check_letters" st_check_letters f fd) (T : Bx mg) (K_Table : KTable K mg C_Table) (K_InvalidNumber : KErr P K mg "InvalidNumber" "value" C_InvalidNumber) {fi_is_between : Addr} {fd_is_between : FuncData} (G_is_between : LdX P w K mg base R "is_between" 2 fi_is_between fd_is_between ["value", "low", "high"] 3 (F_is_between (R := R))) : FnOk P w K mg base (L2.CX P w) 3 f fd ["letters"] (spD R K 1 (F_check_letters (R := R) C_InvalidNumber C_Table)) :=
  fd_mk F sc_check_letters rfl fun cdv A outer s H E ix av h1 h2 hr =>
    (ess_one (es_if (et_not (et_val (ed_call (ea_cons (dv 0) (ea_cons ed_int (ea_cons (ed_cval K_Table.rd K_Table.v_MOST_LETTERS (fun _ _ => .int _) (fun _ => ClX.pe_cval (pe_glob (v := .ref C_Table) rfl K_Table.g rfl))) ea_nil))) (fun _ a => pe_call G_is_between.G (hr.mono (by decide)) rfl G_is_between.g G_is_between.k G_is_between.b .nil passX a)))) (ess_one (es_raise (fun _ => rfl) (fun _ => takes_of rfl rfl rfl rfl) (dv 0) (fun _ h => VK.EC.pmk1 K_InvalidNumber.ec ⟨K_InvalidNumber.su, K_InvalidNumber.top, mk_dp hr⟩ rfl h) (fun _ _ _ _ => rfl))) ess_nil))
def F_Table_likeness {R : Rs} (C_InvalidNumber : Addr) (C_Table : Addr) : FF R := runF 4 fun ix => (sSeq (sExpr (fCall 1 ((F_check_letters C_InvalidNumber C_Table) ix) [] (fCons (fVar 1) fNil))) (sRet (fMakeV 0 C_Table 1 ((F_Table_init C_Table) ix) [] (fCons (fLc (iR1 (fCons (fVar 1) fNil)) [3] (gN 3) tYesF (fLc (iR1 (fCons (fVar 1) fNil)) [2] (gN 2) tYesF (fIf (tVal (fOp eqD (fVar 3) (fVar 2))) (fC (.int 0)) (fC .non)))) fNil))))
abbrev st_Table_likeness : Stmt := inClass (topS 19) 6
abbrev osc_Table_likeness : Scope := match (defBody st_Table_likeness)[1]? with | some (Stmt.Return (some (Expr.Call _ [Expr.ListComp _ _ sc _] _ _)) _) => sc | _ => defScope st_Table_likeness
theorem sc_Table_likeness : FnScope ["cls", "letters", "b", "a"] ["cls", "letters"] (defScope st_Table_likeness) := ⟨rfl, rfl, rfl, by decide +kernel, rfl, by decide +kernel, by decide +kernel⟩
theorem ok_Table_likeness {R : Rs} {C_InvalidNumber : Addr} {C_Table : Addr} {f : Addr} {fd : FuncData} (F : Fun K "likeness" "Table.likeness" st_Table_likeness f fd) (T : Bx mg) (K_Table : KTable K mg C_Table) {fi_check_letters : Addr} {fd_check_letters : FuncData} (G_check_letters : LdX P w K mg base R "check_letters" 3 fi_check_letters fd_check_letters ["letters"] 1 (F_check_letters (R := R) C_InvalidNumber C_Table)) {fd_Table_init : FuncData} (G_Table_init : FnOk P w K mg base (L2.CX P w) 5 K_Table.fi fd_Table_init ["self", "rows"] (spI R K C_Table 1 (F_Table_init (R := R) C_Table))) (B_Table_init : Binds K fd_Table_init ["self", "rows"] []) : FnOk P w K mg base (L2.CX P w) 7 f fd ["cls", "letters"] (spD R K 2 (F_Table_likeness (R := R) C_InvalidNumber C_Table)) :=
  fd_mk F sc_Table_likeness rfl fun cdv A outer s H E ix av h1 h2 hr =>
    (ess_cons (es_expr (ed_call (ea_cons (dv 1) ea_nil) (fun _ a => pe_call G_check_letters.G (hr.mono (by decide)) rfl G_check_letters.g G_check_letters.k G_check_letters.b .nil passX a)))
      (ess_one (es_ret (ed_makeV (i := 0) (ea_cons (ed_lc (own := [("a", 3)]) (fun _ => rfl) (fun _ => sc_Table_likeness.nd) (ei_range1 (fun _ a => pi_range1 rfl T.n_range a) (ea_cons (dv 1) ea_nil)) (fun _ => blkOk_by (N := ["cls", "letters", "b", "a"]) (sc := (defScope st_Table_likeness)) (by decide +kernel)) (eg_name (i := 3) (fun _ => sc_Table_likeness.nd) (fun _ => rfl) (fun _ => Or.inr rfl)) lc_yes (ed_lc (own := [("b", 2)]) (fun _ => rfl) (fun _ => sc_Table_likeness.nd) (ei_range1 (fun _ a => pi_range1 rfl T.n_range a) (ea_cons (dv 1) ea_nil)) (fun _ => blkOk_by (N := ["cls", "letters", "b", "a"]) (sc := (relS osc_Table_likeness (defScope st_Table_likeness))) (by decide +kernel)) (eg_name (i := 2) (fun _ => sc_Table_likeness.nd) (fun _ => rfl) (fun _ => Or.inl rfl)) lc_yes (ed_if (et_cmp (fun _ => op_eq) s_eq (dv 3) (dv 2) (nomk _)) ed_int ed_non))) ea_nil) (fun _ a => pe_makeV (pv 0) K_Table.mk_ G_Table_init (hr.mono (by decide)) B_Table_init .nil passX a)))))
def F_Table_silence {R : Rs} (C_InvalidNumber : Addr) (C_Table : Addr) : FF R := runF 2 fun ix => (sSeq (sExpr (fCall 1 ((F_check_letters C_InvalidNumber C_Table) ix) [] (fCons (fVar 1) fNil))) (sRet (fMakeV 0 C_Table 1 ((F_Table_init C_Table) ix) [] (fCons (fOp repL (fLst (fCons (fOp repL (fLst (fCons (fC (.int 0)) fNil)) (fVar 1)) fNil)) (fVar 1)) fNil))))
abbrev st_Table_silence : Stmt := inClass (topS 19) 7
theorem sc_Table_silence : FnScope ["cls", "letters"] ["cls", "letters"] (defScope st_Table_silence) := ⟨rfl, rfl, rfl, by decide +kernel, rfl, by decide +kernel, by decide +kernel⟩
theorem ok_Table_silence {R : Rs} {C_InvalidNumber : Addr} {C_Table : Addr} {f : Addr} {fd : FuncData} (F : Fun K "silence" "Table.silence" st_Table_silence f fd) (T : Bx mg) (K_Table : KTable K mg C_Table) {fi_check_letters : Addr} {fd_check_letters : FuncData} (G_check_letters : LdX P w K mg base R "check_letters" 3 fi_check_letters fd_check_letters ["letters"] 1 (F_check_letters (R := R) C_InvalidNumber C_Table)) {fd_Table_init : FuncData} (G_Table_init : FnOk P w K mg base (L2.CX P w) 5 K_Table.fi fd_Table_init ["self", "rows"] (spI R K C_Table 1 (F_Table_init (R := R) C_Table))) (B_Table_init : Binds K fd_Table_init ["self", "rows"] []) : FnOk P w K mg base (L2.CX P w) 7 f fd ["cls", "letters"] (spD R K 2 (F_Table_silence (R := R) C_InvalidNumber C_Table)) :=
  fd_mk F sc_Table_silence rfl fun cdv A outer s H E ix av h1 h2 hr =>
    (ess_cons (es_expr (ed_call (ea_cons (dv 1) ea_nil) (fun _ a => pe_call G_check_letters.G (hr.mono (by decide)) rfl G_check_letters.g G_check_letters.k G_check_letters.b .nil passX a)))
      (ess_one (es_ret (ed_makeV (i := 0) (ea_cons (ed_op (fun _ => op_rep) s_repL (ed_lst (ea_cons (ed_op (fun _ => op_rep) s_repL (ed_lst (ea_cons ed_int ea_nil)) (dv 1)) ea_nil)) (dv 1)) ea_nil) (fun _ a => pe_makeV (pv 0) K_Table.mk_ G_Table_init (hr.mono (by decide)) B_Table_init .nil passX a)))))
def F_Table_pairs {R : Rs} (C_InvalidNumber : Addr) (C_Table : Addr) : FF R := runF 6 fun ix => (sSeq (sExpr (fCall 1 ((F_check_letters C_InvalidNumber C_Table) ix) [] (fCons (fVar 1) fNil))) (sSeq (sFor (iT (fVar 2)) (gN 3) (sIf (tNotF (tVal (fCall 2 (F_is_pair ix) [] (fCons (fVar 3) (fCons (fVar 1) fNil))))) (sRaise C_InvalidNumber "value" (fVar 3)) sNx)) (sRet (fMakeV 0 C_Table 1 ((F_Table_init C_Table) ix) [] (fCons (fLc (iR1 (fCons (fVar 1) fNil)) [5] (gN 5) tYesF (fLc (iR1 (fCons (fVar 1) fNil)) [4] (gN 4) tYesF (fIf (tVal (fOp inPT (fTup (fCons (fVar 5) (fCons (fVar 4) fNil))) (fVar 2))) (fC (.int 0)) (fC .non)))) fNil)))))
abbrev st_Table_pairs : Stmt := inClass (topS 19) 8
abbrev osc_Table_pairs : Scope := match (defBody st_Table_pairs)[2]? with | some (Stmt.Return (some (Expr.Call _ [Expr.ListComp _ _ sc _] _ _)) _) => sc | _ => defScope st_Table_pairs
theorem sc_Table_pairs : FnScope ["cls", "letters", "pairs", "pair", "b", "a"] ["cls", "letters", "pairs"] (defScope st_Table_pairs) := ⟨rfl, rfl, rfl, by decide +kernel, rfl, by decide +kernel, by decide +kernel⟩
theorem ok_Table_pairs {R : Rs} {C_InvalidNumber : Addr} {C_Table : Addr} {f : Addr} {fd : FuncData} (F : Fun K "pairs" "Table.pairs" st_Table_pairs f fd) (T : Bx mg) (K_InvalidNumber : KErr P K mg "InvalidNumber" "value" C_InvalidNumber) (K_Table : KTable K mg C_Table) {fi_check_letters : Addr} {fd_check_letters : FuncData} (G_check_letters : LdX P w K mg base R "check_letters" 3 fi_check_letters fd_check_letters ["letters"] 1 (F_check_letters (R := R) C_InvalidNumber C_Table)) {fi_is_pair : Addr} {fd_is_pair : FuncData} (G_is_pair : LdX P w K mg base R "is_pair" 4 fi_is_pair fd_is_pair ["value", "letters"] 2 (F_is_pair (R := R))) {fd_Table_init : FuncData} (G_Table_init : FnOk P w K mg base (L2.CX P w) 5 K_Table.fi fd_Table_init ["self", "rows"] (spI R K C_Table 1 (F_Table_init (R := R) C_Table))) (B_Table_init : Binds K fd_Table_init ["self", "rows"] []) : FnR P w K mg base (L2.CX P w) 7 f (spStar (spD R K 3 (F_Table_pairs (R := R) C_InvalidNumber C_Table)) 2) :=
  fds_mk (ps := ["cls", "letters"]) (pv := "pairs") F sc_Table_pairs rfl (fun _ _ _ _ _ _ us rest hl => match us, hl with | [_, _], _ => by cases rest <;> rfl) fun cdv A outer s H E ix av h1 h2 hr =>
    (ess_cons (es_expr (ed_call (ea_cons (dv 1) ea_nil) (fun _ a => pe_call G_check_letters.G (hr.mono (by decide)) rfl G_check_letters.g G_check_letters.k G_check_letters.b .nil passX a)))
      (ess_cons (es_for (fun _ => passes_of rfl) (fun _ => rfl) (ei_tup (fun _ h => pi_tup h) (dv 2)) (eg_name (i := 3) (fun _ => sc_Table_pairs.nd) (fun _ => rfl) (fun _ => Or.inl rfl)) (ess_one (es_if (et_not (et_val (ed_call (ea_cons (dv 3) (ea_cons (dv 1) ea_nil)) (fun _ a => pe_call G_is_pair.G (hr.mono (by decide)) rfl G_is_pair.g G_is_pair.k G_is_pair.b .nil passX a)))) (ess_one (es_raise (fun _ => rfl) (fun _ => takes_of rfl rfl rfl rfl) (dv 3) (fun _ h => VK.EC.pmk1 K_InvalidNumber.ec ⟨K_InvalidNumber.su, K_InvalidNumber.top, mk_dp hr⟩ rfl h) (fun _ _ _ _ => rfl))) ess_nil)))
      (ess_one (es_ret (ed_makeV (i := 0) (ea_cons (ed_lc (own := [("a", 5)]) (fun _ => rfl) (fun _ => sc_Table_pairs.nd) (ei_range1 (fun _ a => pi_range1 rfl T.n_range a) (ea_cons (dv 1) ea_nil)) (fun _ => blkOk_by (N := ["cls", "letters", "pairs", "pair", "b", "a"]) (sc := (defScope st_Table_pairs)) (by decide +kernel)) (eg_name (i := 5) (fun _ => sc_Table_pairs.nd) (fun _ => rfl) (fun _ => Or.inr rfl)) lc_yes (ed_lc (own := [("b", 4)]) (fun _ => rfl) (fun _ => sc_Table_pairs.nd) (ei_range1 (fun _ a => pi_range1 rfl T.n_range a) (ea_cons (dv 1) ea_nil)) (fun _ => blkOk_by (N := ["cls", "letters", "pairs", "pair", "b", "a"]) (sc := (relS osc_Table_pairs (defScope st_Table_pairs))) (by decide +kernel)) (eg_name (i := 4) (fun _ => sc_Table_pairs.nd) (fun _ => rfl) (fun _ => Or.inl rfl)) lc_yes (ed_if (et_cmp (fun _ => (op_inDT (un65 hr))) s_inPT (ed_tup (ea_cons (dv 5) (ea_cons (dv 4) ea_nil))) (dv 2) (by rfl)) ed_int ed_non))) ea_nil) (fun _ a => pe_makeV (pv 0) K_Table.mk_ G_Table_init (hr.mono (by decide)) B_Table_init .nil passX a))))))
end
end DL

set_option maxHeartbeats 4000000
namespace DL
open PySem PySem.Spec PyProof.Rows L2
section
variable {P : Program} {w : World} {K : PySem.W.Frag} {mg : Str → Option Value} {base : Heap}
def F_drawL : FF (penR "turn" "rest") := runF 8 fun ix => (sSeq (sIf (tVal (fOp gtI (fPen 0 ix.1 (fun g => .int g.2)) (fC (.int 0)))) (sSeq (sSet 2 (fOp modI (fCallL intD (fCons (fPen 0 ix.1 (fun g => .int g.2)) fNil)) (fVar 1))) (sSeq (sPen 0 ix.1 (fun g z => (g.1, z)) (fOp divI (fPen 0 ix.1 (fun g => .int g.2)) (fVar 1))) (sRet (fVar 2)))) sNx) (sSeq (sSet 3 (fPen 0 ix.1 (fun g => .int g.1))) (sSeq (sPen 0 ix.1 (fun g z => (z, g.2)) (fOp addI (fVar 3) (fC (.int 1)))) (sSeq (sSet 4 (fOp addI (fOp mulI (fC (.int 53)) (fVar 3)) (fC (.int 29)))) (sSeq (sIf (tVal (fOp neP (fPen 0 ix.1 (fun _ => .lst (ix.2.2.map D.int))) (fLst fNil))) (sSet 4 (fOp ixL (fPen 0 ix.1 (fun _ => .lst (ix.2.2.map D.int))) (fOp modI (fCallL intD (fCons (fVar 3) fNil)) (fCallL lenD (fCons (fPen 0 ix.1 (fun _ => .lst (ix.2.2.map D.int))) fNil))))) sNx) (sSeq (sIf (tAndF (tVal (fOp ltI (fVar 3) (fCallL lenD (fCons (fPen 0 ix.1 (fun _ => .lst (ix.2.2.map D.int))) fNil)))) (tVal (fOp geI (fCallL absD (fCons (fVar 4) fNil)) (fOp powI (fC (.int 10)) (fC (.int 18)))))) (sSeq (sPen 0 ix.1 (fun g z => (g.1, z)) (fOp divI (fOp subI (fCallL absD (fCons (fVar 4) fNil)) (fOp powI (fC (.int 10)) (fC (.int 18)))) (fVar 1))) (sRet (fOp modI (fOp subI (fCallL absD (fCons (fVar 4) fNil)) (fOp powI (fC (.int 10)) (fC (.int 18)))) (fVar 1)))) sNx) (sSeq (sSet 5 (fLst (fCons (fC (.int 2147483629)) (fCons (fC (.int 2147483647)) (fCons (fC (.int 2147483563)) (fCons (fC (.int 2147483587)) (fCons (fC (.int 2147483579)) fNil))))))) (sSeq (sSet 6 (fOp ixL (fVar 5) (fOp modI (fCallL intD (fCons (fVar 3) fNil)) (fC (.int 5))))) (sSeq (sSet 7 (fOp addI (fOp addI (fOp addI (fOp mulI (fOp modI (fCallL intD (fCons (fVar 4) fNil)) (fC (.int 4294967279))) (fC (.int 69621))) (fOp mulI (fOp mulI (fC (.int 50021)) (fVar 3)) (fVar 3))) (fOp mulI (fC (.int 48271)) (fVar 3))) (fC (.int 19)))) (sSeq (sSet 7 (fOp modI (fCallL intD (fCons (fVar 7) fNil)) (fVar 6))) (sSeq (sSet 7 (fOp modI (fCallL intD (fCons (fOp addI (fOp addI (fOp addI (fOp mulI (fVar 7) (fVar 7)) (fOp mulI (fC (.int 40692)) (fVar 7))) (fOp mulI (fC (.int 11)) (fVar 3))) (fC (.int 3))) fNil)) (fC (.int 4294967231)))) (sRet (fOp modI (fCallL intD (fCons (fOp divI (fOp modI (fCallL intD (fCons (fOp mulI (fVar 7) (fOp addI (fVar 7) (fC (.int 16777259)))) fNil)) (fC (.int 4294967197))) (fC (.int 32))) fNil)) (fVar 1))))))))))))))
abbrev st_drawL : Stmt := topS 32
theorem sc_drawL : FnScope ["_law_pen_here", "_law_size", "_law_digit", "_law_turn", "_law_cell", "_law_primes", "_law_prime", "_law_mixed"] ["_law_pen_here", "_law_size"] (defScope st_drawL) := ⟨rfl, rfl, rfl, by decide +kernel, rfl, by decide +kernel, by decide +kernel⟩
theorem ok_drawL {f : Addr} {fd : FuncData} (F : Fun K "_law_draw" "_law_draw" st_drawL f fd) (T : Bx mg)  : FnOk P w K mg base (L2.CX P w) 1 f fd ["_law_pen_here", "_law_size"] (spD (penR "turn" "rest") K 2 (F_drawL)) :=
  fd_mk F sc_drawL rfl fun cdv A outer s H E ix av h1 h2 hr =>
    (ess_cons (es_if (et_cmp (fun _ => op_gt) s_gt (ed_pen (i := 0) (k := "rest") (fun _ => pe_dget (hu_of hr) (pv 0) pe_str (fun _ _ => rfl)) fun c t r => ⟨_, rfl, .inr (.int _)⟩) ed_int (nomk _)) (ess_cons (es_set (i := 2) (fun _ => sc_drawL.nd) (fun _ => rfl) (fun _ => Or.inl rfl) (ed_op (fun _ => op_mod) s_mod (ed_callL (ea_cons (ed_pen (i := 0) (k := "rest") (fun _ => pe_dget (hu_of hr) (pv 0) pe_str (fun _ _ => rfl)) fun c t r => ⟨_, rfl, .inr (.int _)⟩) ea_nil) s_int (fun _ a => pe_callTy call_int1 (by rfl) T.n_int (by decide +kernel) a)) (dv 1)))
      (ess_cons (es_pen (i := 0) (k := "rest") (u := fun g z => (g.1, z)) (ed_op (fun _ => op_fdivW) s_div (ed_pen (i := 0) (k := "rest") (fun _ => pe_dget (hu_of hr) (pv 0) pe_str (fun _ _ => rfl)) fun c t r => ⟨_, rfl, .inr (.int _)⟩) (dv 1)) (fun _ a => ps_dput (hu_of hr) (pv 0) pe_str a rfl) fun _ _ _ _ => rfl)
      (ess_one (es_ret (dv 2))))) ess_nil)
      (ess_cons (es_set (i := 3) (fun _ => sc_drawL.nd) (fun _ => rfl) (fun _ => Or.inl rfl) (ed_pen (i := 0) (k := "turn") (fun _ => pe_dget (hu_of hr) (pv 0) pe_str (fun _ _ => rfl)) fun c t r => ⟨_, rfl, .inr (.int _)⟩))
      (ess_cons (es_pen (i := 0) (k := "turn") (u := fun g z => (z, g.2)) (ed_op (fun _ => op_add) s_add (dv 3) ed_int) (fun _ a => ps_dput (hu_of hr) (pv 0) pe_str a rfl) fun _ _ _ _ => rfl)
      (ess_cons (es_set (i := 4) (fun _ => sc_drawL.nd) (fun _ => rfl) (fun _ => Or.inl rfl) (ed_op (fun _ => op_add) s_add (ed_op (fun _ => op_mulW) s_mul ed_int (dv 3)) ed_int))
      (ess_cons (es_if (et_cmp (fun _ => (op_neD hr.units)) s_neP (ed_pen (i := 0) (k := "cells") (fun _ => pe_dget (hu_of hr) (pv 0) pe_str (fun _ _ => rfl)) fun c t r => ⟨_, rfl, .inl ⟨rfl, fun _ => rfl⟩⟩) (ed_lst ea_nil) (nomk _)) (ess_one (es_set (i := 4) (fun _ => sc_drawL.nd) (fun _ => rfl) (fun _ => Or.inl rfl) (ed_ix (fun _ => ix_list) s_ixL (ed_pen (i := 0) (k := "cells") (fun _ => pe_dget (hu_of hr) (pv 0) pe_str (fun _ _ => rfl)) fun c t r => ⟨_, rfl, .inl ⟨rfl, fun _ => rfl⟩⟩) (ed_op (fun _ => op_mod) s_mod (ed_callL (ea_cons (dv 3) ea_nil) s_int (fun _ a => pe_callTy call_int1 (by rfl) T.n_int (by decide +kernel) a)) (ed_callL (ea_cons (ed_pen (i := 0) (k := "cells") (fun _ => pe_dget (hu_of hr) (pv 0) pe_str (fun _ _ => rfl)) fun c t r => ⟨_, rfl, .inl ⟨rfl, fun _ => rfl⟩⟩) ea_nil) s_len (fun _ a => pe_callB call_len_seq (by rfl) T.n_len (by decide +kernel) a))) (fun _ _ => rfl)))) ess_nil)
      (ess_cons (es_if (et_w (ew_and (et_cmp (fun _ => op_lt) s_lt (dv 3) (ed_callL (ea_cons (ed_pen (i := 0) (k := "cells") (fun _ => pe_dget (hu_of hr) (pv 0) pe_str (fun _ _ => rfl)) fun c t r => ⟨_, rfl, .inl ⟨rfl, fun _ => rfl⟩⟩) ea_nil) s_len (fun _ a => pe_callB call_len_seq (by rfl) T.n_len (by decide +kernel) a)) (nomk _)) (ew_and1 (et_cmp (fun _ => op_ge) s_ge (ed_callL (ea_cons (dv 4) ea_nil) s_abs (fun _ a => pe_callB call_abs (by rfl) T.n_abs (by decide +kernel) a)) (ed_op (fun _ => op_pow) s_pow ed_int ed_int) (nomk _))))) (ess_cons (es_pen (i := 0) (k := "rest") (u := fun g z => (g.1, z)) (ed_op (fun _ => op_fdivW) s_div (ed_op (fun _ => op_sub) s_sub (ed_callL (ea_cons (dv 4) ea_nil) s_abs (fun _ a => pe_callB call_abs (by rfl) T.n_abs (by decide +kernel) a)) (ed_op (fun _ => op_pow) s_pow ed_int ed_int)) (dv 1)) (fun _ a => ps_dput (hu_of hr) (pv 0) pe_str a rfl) fun _ _ _ _ => rfl)
      (ess_one (es_ret (ed_op (fun _ => op_mod) s_mod (ed_op (fun _ => op_sub) s_sub (ed_callL (ea_cons (dv 4) ea_nil) s_abs (fun _ a => pe_callB call_abs (by rfl) T.n_abs (by decide +kernel) a)) (ed_op (fun _ => op_pow) s_pow ed_int ed_int)) (dv 1))))) ess_nil)
      (ess_cons (es_set (i := 5) (fun _ => sc_drawL.nd) (fun _ => rfl) (fun _ => Or.inl rfl) (ed_lst (ea_cons ed_int (ea_cons ed_int (ea_cons ed_int (ea_cons ed_int (ea_cons ed_int ea_nil)))))))
      (ess_cons (es_set (i := 6) (fun _ => sc_drawL.nd) (fun _ => rfl) (fun _ => Or.inl rfl) (ed_ix (fun _ => ix_list) s_ixL (dv 5) (ed_op (fun _ => op_mod) s_mod (ed_callL (ea_cons (dv 3) ea_nil) s_int (fun _ a => pe_callTy call_int1 (by rfl) T.n_int (by decide +kernel) a)) ed_int) (fun _ _ => rfl)))
      (ess_cons (es_set (i := 7) (fun _ => sc_drawL.nd) (fun _ => rfl) (fun _ => Or.inl rfl) (ed_op (fun _ => op_add) s_add (ed_op (fun _ => op_add) s_add (ed_op (fun _ => op_add) s_add (ed_op (fun _ => op_mulW) s_mul (ed_op (fun _ => op_mod) s_mod (ed_callL (ea_cons (dv 4) ea_nil) s_int (fun _ a => pe_callTy call_int1 (by rfl) T.n_int (by decide +kernel) a)) ed_int) ed_int) (ed_op (fun _ => op_mulW) s_mul (ed_op (fun _ => op_mulW) s_mul ed_int (dv 3)) (dv 3))) (ed_op (fun _ => op_mulW) s_mul ed_int (dv 3))) ed_int))
      (ess_cons (es_set (i := 7) (fun _ => sc_drawL.nd) (fun _ => rfl) (fun _ => Or.inl rfl) (ed_op (fun _ => op_mod) s_mod (ed_callL (ea_cons (dv 7) ea_nil) s_int (fun _ a => pe_callTy call_int1 (by rfl) T.n_int (by decide +kernel) a)) (dv 6)))
      (ess_cons (es_set (i := 7) (fun _ => sc_drawL.nd) (fun _ => rfl) (fun _ => Or.inl rfl) (ed_op (fun _ => op_mod) s_mod (ed_callL (ea_cons (ed_op (fun _ => op_add) s_add (ed_op (fun _ => op_add) s_add (ed_op (fun _ => op_add) s_add (ed_op (fun _ => op_mulW) s_mul (dv 7) (dv 7)) (ed_op (fun _ => op_mulW) s_mul ed_int (dv 7))) (ed_op (fun _ => op_mulW) s_mul ed_int (dv 3))) ed_int) ea_nil) s_int (fun _ a => pe_callTy call_int1 (by rfl) T.n_int (by decide +kernel) a)) ed_int))
      (ess_one (es_ret (ed_op (fun _ => op_mod) s_mod (ed_callL (ea_cons (ed_op (fun _ => op_fdivW) s_div (ed_op (fun _ => op_mod) s_mod (ed_callL (ea_cons (ed_op (fun _ => op_mulW) s_mul (dv 7) (ed_op (fun _ => op_add) s_add (dv 7) ed_int)) ea_nil) s_int (fun _ a => pe_callTy call_int1 (by rfl) T.n_int (by decide +kernel) a)) ed_int) ed_int) ea_nil) s_int (fun _ a => pe_callTy call_int1 (by rfl) T.n_int (by decide +kernel) a)) (dv 1)))))))))))))))
def F_pickL : FF (penR "turn" "rest") := runF 2 fun ix => (sRet (fOp ixL (fVar 1) (fCall 2 (F_drawL ix) [] (fCons (fVar 0) (fCons (fCallL lenD (fCons (fVar 1) fNil)) fNil)))))
abbrev st_pickL : Stmt := topS 33
theorem sc_pickL : FnScope ["_law_pen_here", "_law_options"] ["_law_pen_here", "_law_options"] (defScope st_pickL) := ⟨rfl, rfl, rfl, by decide +kernel, rfl, by decide +kernel, by decide +kernel⟩
theorem ok_pickL {f : Addr} {fd : FuncData} (F : Fun K "_law_pick" "_law_pick" st_pickL f fd) (T : Bx mg) {fi_drawL : Addr} {fd_drawL : FuncData} (G_drawL : LdX P w K mg base (penR "turn" "rest") "_law_draw" 1 fi_drawL fd_drawL ["_law_pen_here", "_law_size"] 2 (F_drawL)) : FnOk P w K mg base (L2.CX P w) 2 f fd ["_law_pen_here", "_law_options"] (spD (penR "turn" "rest") K 2 (F_pickL)) :=
  fd_mk F sc_pickL rfl fun cdv A outer s H E ix av h1 h2 hr =>
    (ess_one (es_ret (ed_ix (fun _ => ix_list) s_ixL (dv 1) (ed_call (ea_cons (dv 0) (ea_cons (ed_callL (ea_cons (dv 1) ea_nil) s_len (fun _ a => pe_callB call_len_seq (by rfl) T.n_len (by decide +kernel) a)) ea_nil)) (fun _ a => pe_call G_drawL.G (hr.mono (by decide)) rfl G_drawL.g G_drawL.k G_drawL.b .nil passX a)) (fun _ _ => rfl))))
def F_plainL {R : Rs} : FF R := runF 2 fun ix => (sRet (fCallL tupleD (fCons (fLc (iL (fVar 0)) [1] (gN 1) tYesF (fCallL tupleD (fCons (fVar 1) fNil))) fNil)))
abbrev st_plainL : Stmt := topS 34
theorem sc_plainL : FnScope ["_law_rows", "_law_row"] ["_law_rows"] (defScope st_plainL) := ⟨rfl, rfl, rfl, by decide +kernel, rfl, by decide +kernel, by decide +kernel⟩
theorem ok_plainL {R : Rs} {f : Addr} {fd : FuncData} (F : Fun K "_law_plain" "_law_plain" st_plainL f fd) (T : Bx mg)  : FnOk P w K mg base (L2.CX P w) 1 f fd ["_law_rows"] (spD R K 1 (F_plainL (R := R))) :=
  fd_mk F sc_plainL rfl fun cdv A outer s H E ix av h1 h2 hr =>
    (ess_one (es_ret (ed_callL (ea_cons (ed_lc (own := [("_law_row", 1)]) (fun _ => rfl) (fun _ => sc_plainL.nd) (ei_list (fun _ h => pi_list h) (dv 0)) (fun _ => blkOk_by (N := ["_law_rows", "_law_row"]) (sc := (defScope st_plainL)) (by decide +kernel)) (eg_name (i := 1) (fun _ => sc_plainL.nd) (fun _ => rfl) (fun _ => Or.inl rfl)) lc_yes (ed_callL (ea_cons (dv 1) ea_nil) s_tuple (fun _ a => pe_callTy call_tuple_of (by rfl) T.n_tuple (by decide +kernel) a))) ea_nil) s_tuple (fun _ a => pe_callTy call_tuple_of (by rfl) T.n_tuple (by decide +kernel) a))))
def F_likenessL {R : Rs} : FF R := runF 3 fun ix => (sRet (fLc (iR1 (fCons (fVar 0) fNil)) [2] (gN 2) tYesF (fLc (iR1 (fCons (fVar 0) fNil)) [1] (gN 1) tYesF (fOp ixL (fLst (fCons (fC .non) (fCons (fC (.int 0)) fNil))) (fCallL intD (fCons (fOp eqD (fVar 2) (fVar 1)) fNil))))))
abbrev st_likenessL : Stmt := topS 35
abbrev osc_likenessL : Scope := match (defBody st_likenessL)[0]? with | some (Stmt.Return (some (Expr.ListComp _ _ sc _)) _) => sc | _ => defScope st_likenessL
theorem sc_likenessL : FnScope ["_law_size", "_law_b", "_law_a"] ["_law_size"] (defScope st_likenessL) := ⟨rfl, rfl, rfl, by decide +kernel, rfl, by decide +kernel, by decide +kernel⟩
theorem ok_likenessL {R : Rs} {f : Addr} {fd : FuncData} (F : Fun K "_law_likeness" "_law_likeness" st_likenessL f fd) (T : Bx mg)  : FnOk P w K mg base (L2.CX P w) 1 f fd ["_law_size"] (spD R K 1 (F_likenessL (R := R))) :=
  fd_mk F sc_likenessL rfl fun cdv A outer s H E ix av h1 h2 hr =>
    (ess_one (es_ret (ed_lc (own := [("_law_a", 2)]) (fun _ => rfl) (fun _ => sc_likenessL.nd) (ei_range1 (fun _ a => pi_range1 rfl T.n_range a) (ea_cons (dv 0) ea_nil)) (fun _ => blkOk_by (N := ["_law_size", "_law_b", "_law_a"]) (sc := (defScope st_likenessL)) (by decide +kernel)) (eg_name (i := 2) (fun _ => sc_likenessL.nd) (fun _ => rfl) (fun _ => Or.inr rfl)) lc_yes (ed_lc (own := [("_law_b", 1)]) (fun _ => rfl) (fun _ => sc_likenessL.nd) (ei_range1 (fun _ a => pi_range1 rfl T.n_range a) (ea_cons (dv 0) ea_nil)) (fun _ => blkOk_by (N := ["_law_size", "_law_b", "_law_a"]) (sc := (relS osc_likenessL (defScope st_likenessL))) (by decide +kernel)) (eg_name (i := 1) (fun _ => sc_likenessL.nd) (fun _ => rfl) (fun _ => Or.inl rfl)) lc_yes (ed_ix (fun _ => ix_list) s_ixL (ed_lst (ea_cons ed_non (ea_cons ed_int ea_nil))) (ed_callL (ea_cons (ed_cmp (fun _ => op_eq) s_eq (dv 2) (dv 1) (nomk _)) ea_nil) s_int (fun _ a => pe_callTy call_int1 (by rfl) T.n_int (by decide +kernel) a)) (fun _ _ => rfl))))))
def F_pairsL : FF (penR "turn" "rest") := runF 3 fun ix => (sRet (fLc (iR1 (fCons (fCall 2 (F_drawL ix) [] (fCons (fVar 0) (fCons (fC (.int 5)) fNil))) fNil)) [2] (gN 2) tYesF (fTup (fCons (fCall 2 (F_drawL ix) [] (fCons (fVar 0) (fCons (fVar 1) fNil))) (fCons (fCall 2 (F_drawL ix) [] (fCons (fVar 0) (fCons (fVar 1) fNil))) fNil)))))
abbrev st_pairsL : Stmt := topS 37
theorem sc_pairsL : FnScope ["_law_pen_here", "_law_many", "_law_k"] ["_law_pen_here", "_law_many"] (defScope st_pairsL) := ⟨rfl, rfl, rfl, by decide +kernel, rfl, by decide +kernel, by decide +kernel⟩
theorem ok_pairsL {f : Addr} {fd : FuncData} (F : Fun K "_law_pairs" "_law_pairs" st_pairsL f fd) (T : Bx mg) {fi_drawL : Addr} {fd_drawL : FuncData} (G_drawL : LdX P w K mg base (penR "turn" "rest") "_law_draw" 1 fi_drawL fd_drawL ["_law_pen_here", "_law_size"] 2 (F_drawL)) : FnOk P w K mg base (L2.CX P w) 2 f fd ["_law_pen_here", "_law_many"] (spD (penR "turn" "rest") K 2 (F_pairsL)) :=
  fd_mk F sc_pairsL rfl fun cdv A outer s H E ix av h1 h2 hr =>
    (ess_one (es_ret (ed_lc (own := [("_law_k", 2)]) (fun _ => rfl) (fun _ => sc_pairsL.nd) (ei_range1 (fun _ a => pi_range1 rfl T.n_range a) (ea_cons (ed_call (ea_cons (dv 0) (ea_cons ed_int ea_nil)) (fun _ a => pe_call G_drawL.G (hr.mono (by decide)) rfl G_drawL.g G_drawL.k G_drawL.b .nil passX a)) ea_nil)) (fun _ => blkOk_by (N := ["_law_pen_here", "_law_many", "_law_k"]) (sc := (defScope st_pairsL)) (by decide +kernel)) (eg_name (i := 2) (fun _ => sc_pairsL.nd) (fun _ => rfl) (fun _ => Or.inl rfl)) lc_yes (ed_tup (ea_cons (ed_call (ea_cons (dv 0) (ea_cons (dv 1) ea_nil)) (fun _ a => pe_call G_drawL.G (hr.mono (by decide)) rfl G_drawL.g G_drawL.k G_drawL.b .nil passN a)) (ea_cons (ed_call (ea_cons (dv 0) (ea_cons (dv 1) ea_nil)) (fun _ a => pe_call G_drawL.G (hr.mono (by decide)) rfl G_drawL.g G_drawL.k G_drawL.b .nil passN a)) ea_nil))))))
def F_madeL {R : Rs} (C_InvalidNumber : Addr) (C_Table : Addr) : FF R := runF 4 fun ix => (sSeq (sPar 2 3 (fCons (fOp catL (fVar 1) (fOp repL (fLst (fCons (fTup (fCons (fC (.int 0)) (fCons (fC (.int 0)) fNil))) fNil)) (fOp subI (fC (.int 4)) (fCallL lenD (fCons (fVar 1) fNil))))) (fCons (fVar 1) fNil))) (sSeq (sIf (tVal (fOp eqD (fCallL lenD (fCons (fVar 1) fNil)) (fC (.int 0)))) (sRet (fCmP C_Table ((F_Table_pairs C_InvalidNumber C_Table) ix) (fCons (fVar 0) fNil))) sNx) (sSeq (sIf (tVal (fOp eqD (fCallL lenD (fCons (fVar 1) fNil)) (fC (.int 1)))) (sRet (fCmP C_Table ((F_Table_pairs C_InvalidNumber C_Table) ix) (fCons (fVar 0) (fCons (fOp ixL (fVar 1) (fC (.int 0))) fNil)))) sNx) (sSeq (sIf (tVal (fOp eqD (fCallL lenD (fCons (fVar 1) fNil)) (fC (.int 2)))) (sRet (fCmP C_Table ((F_Table_pairs C_InvalidNumber C_Table) ix) (fCons (fVar 0) (fCons (fOp ixL (fVar 1) (fC (.int 0))) (fCons (fOp ixL (fVar 1) (fC (.int 1))) fNil))))) sNx) (sSeq (sIf (tVal (fOp eqD (fCallL lenD (fCons (fVar 1) fNil)) (fC (.int 3)))) (sRet (fCmP C_Table ((F_Table_pairs C_InvalidNumber C_Table) ix) (fCons (fVar 0) (fCons (fOp ixL (fVar 1) (fC (.int 0))) (fCons (fOp ixL (fVar 1) (fC (.int 1))) (fCons (fOp ixL (fVar 1) (fC (.int 2))) fNil)))))) sNx) (sRet (fCmP C_Table ((F_Table_pairs C_InvalidNumber C_Table) ix) (fCons (fVar 0) (fCons (fOp ixL (fVar 2) (fC (.int 0))) (fCons (fOp ixL (fVar 2) (fC (.int 1))) (fCons (fOp ixL (fVar 3) (fC (.int 2))) (fCons (fOp ixL (fVar 3) (fC (.int 3))) fNil))))))))))))
abbrev st_madeL : Stmt := topS 38
theorem sc_madeL : FnScope ["_law_many", "_law_some", "_law_one", "_law_other"] ["_law_many", "_law_some"] (defScope st_madeL) := ⟨rfl, rfl, rfl, by decide +kernel, rfl, by decide +kernel, by decide +kernel⟩
theorem ok_madeL {R : Rs} {C_InvalidNumber : Addr} {C_Table : Addr} {f : Addr} {fd : FuncData} (F : Fun K "_law_made" "_law_made" st_madeL f fd) (T : Bx mg) (K_Table : KTable K mg C_Table) (G_Table_pairs : FnR P w K mg base (L2.CX P w) 7 K_Table.f_pairs (spStar (spD R K 3 (F_Table_pairs (R := R) C_InvalidNumber C_Table)) 2)) : FnOk P w K mg base (L2.CX P w) 8 f fd ["_law_many", "_law_some"] (spD R K 2 (F_madeL (R := R) C_InvalidNumber C_Table)) :=
  fd_mk F sc_madeL rfl fun cdv A outer s H E ix av h1 h2 hr =>
    (ess_cons (es_par (i := 2) (j := 3) (ea_cons (ed_op (fun _ => op_cat) s_catL (dv 1) (ed_op (fun _ => op_rep) s_repL (ed_lst (ea_cons (ed_tup (ea_cons ed_int (ea_cons ed_int ea_nil))) ea_nil)) (ed_op (fun _ => op_sub) s_sub ed_int (ed_callL (ea_cons (dv 1) ea_nil) s_len (fun _ a => pe_callB call_len_seq (by rfl) T.n_len (by decide +kernel) a))))) (ea_cons (dv 1) ea_nil)) (fun _ a => ps_par (i := 2) (j := 3) (by rfl) sc_madeL.nd rfl rfl (by decide) rfl rfl a (by rfl)))
      (ess_cons (es_if (et_cmp (fun _ => op_eq) s_eq (ed_callL (ea_cons (dv 1) ea_nil) s_len (fun _ a => pe_callB call_len_seq (by rfl) T.n_len (by decide +kernel) a)) ed_int (nomk _)) (ess_one (es_ret (ed_cmP (ea_cons (dv 0) ea_nil) (fun _ => pe_glob (v := .ref C_Table) rfl K_Table.g rfl) (fun _ a b => ClX.pe_cmeth a K_Table.rd K_Table.c_pairs G_Table_pairs (hr.mono (by decide)) passX b)))) ess_nil)
      (ess_cons (es_if (et_cmp (fun _ => op_eq) s_eq (ed_callL (ea_cons (dv 1) ea_nil) s_len (fun _ a => pe_callB call_len_seq (by rfl) T.n_len (by decide +kernel) a)) ed_int (nomk _)) (ess_one (es_ret (ed_cmP (ea_cons (dv 0) (ea_cons (ed_ix (fun _ => ix_list) s_ixL (dv 1) ed_int (fun _ _ => rfl)) ea_nil)) (fun _ => pe_glob (v := .ref C_Table) rfl K_Table.g rfl) (fun _ a b => ClX.pe_cmeth a K_Table.rd K_Table.c_pairs G_Table_pairs (hr.mono (by decide)) passX b)))) ess_nil)
      (ess_cons (es_if (et_cmp (fun _ => op_eq) s_eq (ed_callL (ea_cons (dv 1) ea_nil) s_len (fun _ a => pe_callB call_len_seq (by rfl) T.n_len (by decide +kernel) a)) ed_int (nomk _)) (ess_one (es_ret (ed_cmP (ea_cons (dv 0) (ea_cons (ed_ix (fun _ => ix_list) s_ixL (dv 1) ed_int (fun _ _ => rfl)) (ea_cons (ed_ix (fun _ => ix_list) s_ixL (dv 1) ed_int (fun _ _ => rfl)) ea_nil))) (fun _ => pe_glob (v := .ref C_Table) rfl K_Table.g rfl) (fun _ a b => ClX.pe_cmeth a K_Table.rd K_Table.c_pairs G_Table_pairs (hr.mono (by decide)) passX b)))) ess_nil)
      (ess_cons (es_if (et_cmp (fun _ => op_eq) s_eq (ed_callL (ea_cons (dv 1) ea_nil) s_len (fun _ a => pe_callB call_len_seq (by rfl) T.n_len (by decide +kernel) a)) ed_int (nomk _)) (ess_one (es_ret (ed_cmP (ea_cons (dv 0) (ea_cons (ed_ix (fun _ => ix_list) s_ixL (dv 1) ed_int (fun _ _ => rfl)) (ea_cons (ed_ix (fun _ => ix_list) s_ixL (dv 1) ed_int (fun _ _ => rfl)) (ea_cons (ed_ix (fun _ => ix_list) s_ixL (dv 1) ed_int (fun _ _ => rfl)) ea_nil)))) (fun _ => pe_glob (v := .ref C_Table) rfl K_Table.g rfl) (fun _ a b => ClX.pe_cmeth a K_Table.rd K_Table.c_pairs G_Table_pairs (hr.mono (by decide)) passX b)))) ess_nil)
      (ess_one (es_ret (ed_cmP (ea_cons (dv 0) (ea_cons (ed_ix (fun _ => ix_list) s_ixL (dv 2) ed_int (fun _ _ => rfl)) (ea_cons (ed_ix (fun _ => ix_list) s_ixL (dv 2) ed_int (fun _ _ => rfl)) (ea_cons (ed_ix (fun _ => ix_list) s_ixL (dv 3) ed_int (fun _ _ => rfl)) (ea_cons (ed_ix (fun _ => ix_list) s_ixL (dv 3) ed_int (fun _ _ => rfl)) ea_nil))))) (fun _ => pe_glob (v := .ref C_Table) rfl K_Table.g rfl) (fun _ a b => ClX.pe_cmeth a K_Table.rd K_Table.c_pairs G_Table_pairs (hr.mono (by decide)) passX b)))))))))
end
end DL

set_option maxHeartbeats 4000000
namespace DL
open PySem PySem.Spec PyProof.Rows L2
theorem lcD_pure {R : Rs} {gf : FG} {fe : FE R} {sl : List SV} {g : R.α} (sl1 : D → List SV) (h : D → D) : ∀ (ds : List D), (∀ d ∈ ds, gf d sl = some (sl1 d)) → (∀ d ∈ ds, fe (sl1 d) g = .ok (h d) g) → lcD gf tYesF fe ds sl g = .ok (ds.map h) g
  | [], _, _ => rfl
  | d :: ds, hg, he => by
    unfold lcD
    rw [hg d List.mem_cons_self]
    dsimp only [tYesF, Rr.noerr, Rr.bind]
    rw [if_pos rfl, he d List.mem_cons_self]
    dsimp only
    rw [lcD_pure sl1 h ds (fun d m => hg d (List.mem_cons_of_mem _ m)) fun d m => he d (List.mem_cons_of_mem _ m)]
    rfl
theorem blL_map {α : Type} (f : α → Bool) : ∀ ds : List α, blL (ds.map fun d => D.bl (f d)) = some (ds.map f)
  | [] => rfl
  | d :: ds => by
    rw [List.map_cons, blL, blL_map f ds]
    rfl
theorem sne1 : (("_letters" : Str) = "_length") = False := by decide +kernel
theorem sne2 : (("_letters" : Str) = "_echoes") = False := by decide +kernel
theorem sne3 : (("_length" : Str) = "_echoes") = False := by decide +kernel
section
variable {R : Rs} {ix : R.ix} {g : R.α} {C_Table C_InvalidNumber : Addr}
theorem m_whole (i : Int) : F_is_whole ix g [.int i] = .ok (.bl true) g := by simp [F_is_whole, runF, runI, startS, startI, Ro.fin, Ro.fini, Ro.seq, sRet, sRetN, sRetMu, sSeq, sNx, sIf, sSet, sExpr, sNever, sNewL, sNewLs, sApp, sExt, sFldS, sPar, sAsgT, sFrz, MO.d, putFD, Rr.bind, Rr.toS, Rr.noerr, nerr, fVar, fC, fOp, fUn, fNil, fCons, fLst, fTup, fCallL, fNot, fAnd, fOr, fIf, fChain, fCall, fMeth, fFld, fProp, fMake, fMakeS, fDGet, fDisp, fPs, mergeKD, putKD, valD, tVal, tNotF, tAndF, tOrF, tYesF, iL, iT, iLT, iR1, iR2, iEn, enumD, sFor, gN, gT, gsNil, gsCons, lift1, lift2, liftL, addI, subI, ltI, leI, gtI, geI, mulI, modI, divI, powI, negI, dI, dIc, isN, notN, D.isNon, eqD, neD, eqS, catL, catT, repL, ixL, ixT, lenD, intD, absD, min2D, max2D, listD, tupleD, allD, blL, isiL, isiT0, kt0, kt1, tyNm, subT, eqE]
theorem m_wholeN : F_is_whole ix g [.non] = .ok (.bl false) g := by simp [F_is_whole, runF, runI, startS, startI, Ro.fin, Ro.fini, Ro.seq, sRet, sRetN, sRetMu, sSeq, sNx, sIf, sSet, sExpr, sNever, sNewL, sNewLs, sApp, sExt, sFldS, sPar, sAsgT, sFrz, MO.d, putFD, Rr.bind, Rr.toS, Rr.noerr, nerr, fVar, fC, fOp, fUn, fNil, fCons, fLst, fTup, fCallL, fNot, fAnd, fOr, fIf, fChain, fCall, fMeth, fFld, fProp, fMake, fMakeS, fDGet, fDisp, fPs, mergeKD, putKD, valD, tVal, tNotF, tAndF, tOrF, tYesF, iL, iT, iLT, iR1, iR2, iEn, enumD, sFor, gN, gT, gsNil, gsCons, lift1, lift2, liftL, addI, subI, ltI, leI, gtI, geI, mulI, modI, divI, powI, negI, dI, dIc, isN, notN, D.isNon, eqD, neD, eqS, catL, catT, repL, ixL, ixT, lenD, intD, absD, min2D, max2D, listD, tupleD, allD, blL, isiL, isiT0, kt0, kt1, tyNm, subT, eqE]
theorem m_between (x lo hi : Int) : F_is_between ix g [.int x, .int lo, .int hi] = .ok (.bl (decide (lo ≤ x) && decide (x ≤ hi))) g := by
  by_cases h : lo ≤ x <;> simp [F_is_between, m_whole, runF, runI, startS, startI, Ro.fin, Ro.fini, Ro.seq, sRet, sRetN, sRetMu, sSeq, sNx, sIf, sSet, sExpr, sNever, sNewL, sNewLs, sApp, sExt, sFldS, sPar, sAsgT, sFrz, MO.d, putFD, Rr.bind, Rr.toS, Rr.noerr, nerr, fVar, fC, fOp, fUn, fNil, fCons, fLst, fTup, fCallL, fNot, fAnd, fOr, fIf, fChain, fCall, fMeth, fFld, fProp, fMake, fMakeS, fDGet, fDisp, fPs, mergeKD, putKD, valD, tVal, tNotF, tAndF, tOrF, tYesF, iL, iT, iLT, iR1, iR2, iEn, enumD, sFor, gN, gT, gsNil, gsCons, lift1, lift2, liftL, addI, subI, ltI, leI, gtI, geI, mulI, modI, divI, powI, negI, dI, dIc, isN, notN, D.isNon, eqD, neD, eqS, catL, catT, repL, ixL, ixT, lenD, intD, absD, min2D, max2D, listD, tupleD, allD, blL, isiL, isiT0, kt0, kt1, tyNm, subT, eqE, h]
theorem m_price (x : Int) : F_is_price ix g [.int x] = .ok (.bl (decide (0 ≤ x))) g := by simp [F_is_price, m_whole, runF, runI, startS, startI, Ro.fin, Ro.fini, Ro.seq, sRet, sRetN, sRetMu, sSeq, sNx, sIf, sSet, sExpr, sNever, sNewL, sNewLs, sApp, sExt, sFldS, sPar, sAsgT, sFrz, MO.d, putFD, Rr.bind, Rr.toS, Rr.noerr, nerr, fVar, fC, fOp, fUn, fNil, fCons, fLst, fTup, fCallL, fNot, fAnd, fOr, fIf, fChain, fCall, fMeth, fFld, fProp, fMake, fMakeS, fDGet, fDisp, fPs, mergeKD, putKD, valD, tVal, tNotF, tAndF, tOrF, tYesF, iL, iT, iLT, iR1, iR2, iEn, enumD, sFor, gN, gT, gsNil, gsCons, lift1, lift2, liftL, addI, subI, ltI, leI, gtI, geI, mulI, modI, divI, powI, negI, dI, dIc, isN, notN, D.isNon, eqD, neD, eqS, catL, catT, repL, ixL, ixT, lenD, intD, absD, min2D, max2D, listD, tupleD, allD, blL, isiL, isiT0, kt0, kt1, tyNm, subT, eqE]
theorem m_priceN : F_is_price ix g [.non] = .ok (.bl true) g := by simp [F_is_price, runF, runI, startS, startI, Ro.fin, Ro.fini, Ro.seq, sRet, sRetN, sRetMu, sSeq, sNx, sIf, sSet, sExpr, sNever, sNewL, sNewLs, sApp, sExt, sFldS, sPar, sAsgT, sFrz, MO.d, putFD, Rr.bind, Rr.toS, Rr.noerr, nerr, fVar, fC, fOp, fUn, fNil, fCons, fLst, fTup, fCallL, fNot, fAnd, fOr, fIf, fChain, fCall, fMeth, fFld, fProp, fMake, fMakeS, fDGet, fDisp, fPs, mergeKD, putKD, valD, tVal, tNotF, tAndF, tOrF, tYesF, iL, iT, iLT, iR1, iR2, iEn, enumD, sFor, gN, gT, gsNil, gsCons, lift1, lift2, liftL, addI, subI, ltI, leI, gtI, geI, mulI, modI, divI, powI, negI, dI, dIc, isN, notN, D.isNon, eqD, neD, eqS, catL, catT, repL, ixL, ixT, lenD, intD, absD, min2D, max2D, listD, tupleD, allD, blL, isiL, isiT0, kt0, kt1, tyNm, subT, eqE]
def prD : D → Bool
  | .non => true
  | .int i => decide (0 ≤ i)
  | _ => false
theorem m_priceD {d : D} (h : prD d = true) : F_is_price ix g [d] = .ok (.bl true) g := by
  cases d <;> first | (cases h; done) | skip
  · exact m_priceN
  · rename_i i
    rw [m_price, show decide (0 ≤ i) = true from h]
theorem m_prices {ps : List D} (hl : ps.length ≤ 1000) (h : ∀ p ∈ ps, prD p = true) : F_are_prices ix g [.lst ps, .int ps.length] = .ok (.bl true) g := by
  have e : lcD (gN 2) tYesF (fCall 1 (F_is_price ix) [] (fCons (fVar 2) fNil)) ps [SV.dat (.lst ps), .dat (.int ps.length), .un] g = .ok (ps.map fun _ => .bl true) g :=
    lcD_pure (fun d => [SV.dat (.lst ps), .dat (.int ps.length), .dat d]) (fun _ => .bl true) ps (fun d _ => rfl) fun d m => by simp [fCall, fCons, fVar, fNil, Rr.bind, m_priceD (h d m)]
  have l1 : ps.length ≤ 100000 := by omega
  simp [F_are_prices, fLc, allUn, e, l1, blL_map (fun _ => true), runF, runI, startS, startI, Ro.fin, Ro.fini, Ro.seq, sRet, sRetN, sRetMu, sSeq, sNx, sIf, sSet, sExpr, sNever, sNewL, sNewLs, sApp, sExt, sFldS, sPar, sAsgT, sFrz, MO.d, putFD, Rr.bind, Rr.toS, Rr.noerr, nerr, fVar, fC, fOp, fUn, fNil, fCons, fLst, fTup, fCallL, fNot, fAnd, fOr, fIf, fChain, fCall, fMeth, fFld, fProp, fMake, fMakeS, fDGet, fDisp, fPs, mergeKD, putKD, valD, tVal, tNotF, tAndF, tOrF, tYesF, iL, iT, iLT, iR1, iR2, iEn, enumD, sFor, gN, gT, gsNil, gsCons, lift1, lift2, liftL, addI, subI, ltI, leI, gtI, geI, mulI, modI, divI, powI, negI, dI, dIc, isN, notN, D.isNon, eqD, neD, eqS, catL, catT, repL, ixL, ixT, lenD, intD, absD, min2D, max2D, listD, tupleD, allD, blL, isiL, isiT0, kt0, kt1, tyNm, subT, eqE]
structure OkR (rows : List (List D)) : Prop where
  lo : 1 ≤ rows.length
  hi : rows.length ≤ 5
  row : ∀ r ∈ rows, r.length = rows.length ∧ ∀ p ∈ r, prD p = true
def lstR (rows : List (List D)) : D := .lst (rows.map D.lst)
def tupR (rows : List (List D)) : D := .tup (rows.map D.tup)
theorem m_rows {rows : List (List D)} (h : OkR rows) : F_are_rows C_Table ix g [lstR rows] = .ok (.bl true) g := by
  have e : lcD (gN 1) tYesF (fCall 2 (F_are_prices ix) [] (fCons (fVar 1) (fCons (fCallL lenD (fCons (fVar 0) fNil)) fNil))) (rows.map D.lst) [SV.dat (.lst (rows.map D.lst)), SV.un] g = .ok (rows.map fun _ => .bl true) g := by
    rw [show (rows.map fun _ => D.bl true) = (rows.map D.lst).map fun _ => .bl true by rw [List.map_map]; rfl]
    refine lcD_pure (fun d => [SV.dat (.lst (rows.map D.lst)), .dat d]) (fun _ => .bl true) _ (fun d _ => rfl) fun d m => ?_
    obtain ⟨r, hr, rfl⟩ := List.mem_map.mp m
    obtain ⟨q1, q2⟩ := h.row r hr
    have := m_prices (ix := ix) (g := g) (ps := r) (by have := h.hi; omega) q2
    rw [q1] at this
    simp [fCall, fCons, fVar, fNil, Rr.bind, fCallL, liftL, lenD, this]
  have l0 := h.lo
  have l1 := h.hi
  have l2 : rows.length ≤ 100000 := by omega
  have c1 : (1 : Int) ≤ rows.length := by omega
  have c2 : (rows.length : Int) ≤ 5 := by omega
  simp [F_are_rows, lstR, fLc, allUn, e, l2, c1, c2, blL_map (fun _ => true), runF, runI, startS, startI, Ro.fin, Ro.fini, Ro.seq, sRet, sRetN, sRetMu, sSeq, sNx, sIf, sSet, sExpr, sNever, sNewL, sNewLs, sApp, sExt, sFldS, sPar, sAsgT, sFrz, MO.d, putFD, Rr.bind, Rr.toS, Rr.noerr, nerr, fVar, fC, fOp, fUn, fNil, fCons, fLst, fTup, fCallL, fNot, fAnd, fOr, fIf, fChain, fCall, fMeth, fFld, fProp, fMake, fMakeS, fDGet, fDisp, fPs, mergeKD, putKD, valD, tVal, tNotF, tAndF, tOrF, tYesF, iL, iT, iLT, iR1, iR2, iEn, enumD, sFor, gN, gT, gsNil, gsCons, lift1, lift2, liftL, addI, subI, ltI, leI, gtI, geI, mulI, modI, divI, powI, negI, dI, dIc, isN, notN, D.isNon, eqD, neD, eqS, catL, catT, repL, ixL, ixT, lenD, intD, absD, min2D, max2D, listD, tupleD, allD, blL, isiL, isiT0, kt0, kt1, tyNm, subT, eqE]
theorem m_tinit {rows : List (List D)} (h : OkR rows) : F_Table_init C_Table ix g [lstR rows] = .ok [("_rows", tupR rows)] g := by
  have e : lcD (gN 2) tYesF (fCallL tupleD (fCons (fVar 2) fNil)) (rows.map D.lst) [SV.mu (.obj C_Table []), .dat (.lst (rows.map D.lst)), .un] g = .ok (rows.map D.tup) g := by
    have := lcD_pure (gf := gN 2) (fe := (fCallL tupleD (fCons (fVar 2) fNil))) (sl := [SV.mu (.obj C_Table []), .dat (.lst (rows.map D.lst)), .un]) (g := g) (fun d => [SV.mu (.obj C_Table []), .dat (.lst (rows.map D.lst)), .dat d]) (fun d => match d with | .lst r => .tup r | d => d) (rows.map D.lst) (fun d _ => rfl) fun d m => by
      obtain ⟨r, hr, rfl⟩ := List.mem_map.mp m
      rfl
    rw [this, List.map_map]
    rfl
  have l1 := h.hi
  have l2 : rows.length ≤ 100000 := by omega
  have hr := m_rows (C_Table := C_Table) (ix := ix) (g := g) h
  unfold lstR at hr ⊢
  simp [F_Table_init, tupR, fLc, allUn, e, l2, hr, runF, runI, startS, startI, Ro.fin, Ro.fini, Ro.seq, sRet, sRetN, sRetMu, sSeq, sNx, sIf, sSet, sExpr, sNever, sNewL, sNewLs, sApp, sExt, sFldS, sPar, sAsgT, sFrz, MO.d, putFD, Rr.bind, Rr.toS, Rr.noerr, nerr, fVar, fC, fOp, fUn, fNil, fCons, fLst, fTup, fCallL, fNot, fAnd, fOr, fIf, fChain, fCall, fMeth, fFld, fProp, fMake, fMakeS, fDGet, fDisp, fPs, mergeKD, putKD, valD, tVal, tNotF, tAndF, tOrF, tYesF, iL, iT, iLT, iR1, iR2, iEn, enumD, sFor, gN, gT, gsNil, gsCons, lift1, lift2, liftL, addI, subI, ltI, leI, gtI, geI, mulI, modI, divI, powI, negI, dI, dIc, isN, notN, D.isNon, eqD, neD, eqS, catL, catT, repL, ixL, ixT, lenD, intD, absD, min2D, max2D, listD, tupleD, allD, blL, isiL, isiT0, kt0, kt1, tyNm, subT, eqE]
def tabD (C : Addr) (rows : List (List D)) : D := .obj C [("_rows", tupR rows)]
theorem m_trows {rows : List (List D)} : F_Table_rows C_Table ix g [tabD C_Table rows] = .ok (tupR rows) g := by
  simp [F_Table_rows, tabD, tupR, runF, runI, startS, startI, Ro.fin, Ro.fini, Ro.seq, sRet, sRetN, sRetMu, sSeq, sNx, sIf, sSet, sExpr, sNever, sNewL, sNewLs, sApp, sExt, sFldS, sPar, sAsgT, sFrz, MO.d, putFD, Rr.bind, Rr.toS, Rr.noerr, nerr, fVar, fC, fOp, fUn, fNil, fCons, fLst, fTup, fCallL, fNot, fAnd, fOr, fIf, fChain, fCall, fMeth, fFld, fProp, fMake, fMakeS, fDGet, fDisp, fPs, mergeKD, putKD, valD, tVal, tNotF, tAndF, tOrF, tYesF, iL, iT, iLT, iR1, iR2, iEn, enumD, sFor, gN, gT, gsNil, gsCons, lift1, lift2, liftL, addI, subI, ltI, leI, gtI, geI, mulI, modI, divI, powI, negI, dI, dIc, isN, notN, D.isNon, eqD, neD, eqS, catL, catT, repL, ixL, ixT, lenD, intD, absD, min2D, max2D, listD, tupleD, allD, blL, isiL, isiT0, kt0, kt1, tyNm, subT, eqE]
theorem m_chl {k : Int} (h1 : 1 ≤ k) (h2 : k ≤ 5) : F_check_letters C_InvalidNumber C_Table ix g [.int k] = .ok .non g := by
  simp [F_check_letters, m_between, runF, runI, startS, startI, Ro.fin, Ro.fini, Ro.seq, sRet, sRetN, sRetMu, sSeq, sNx, sIf, sSet, sExpr, sNever, sNewL, sNewLs, sApp, sExt, sFldS, sPar, sAsgT, sFrz, MO.d, putFD, Rr.bind, Rr.toS, Rr.noerr, nerr, fVar, fC, fOp, fUn, fNil, fCons, fLst, fTup, fCallL, fNot, fAnd, fOr, fIf, fChain, fCall, fMeth, fFld, fProp, fMake, fMakeS, fDGet, fDisp, fPs, mergeKD, putKD, valD, tVal, tNotF, tAndF, tOrF, tYesF, iL, iT, iLT, iR1, iR2, iEn, enumD, sFor, gN, gT, gsNil, gsCons, lift1, lift2, liftL, addI, subI, ltI, leI, gtI, geI, mulI, modI, divI, powI, negI, dI, dIc, isN, notN, D.isNon, eqD, neD, eqS, catL, catT, repL, ixL, ixT, lenD, intD, absD, min2D, max2D, listD, tupleD, allD, blL, isiL, isiT0, kt0, kt1, tyNm, subT, eqE, h1, h2]
end
end DL

namespace DL
/-- a price: none is no price -/
abbrev Pr := Option Nat
def mi : Pr → Pr → Pr
  | none, b => b
  | some x, none => some x
  | some x, some y => some (min x y)
def ad : Pr → Pr → Pr
  | some x, some y => some (x + y)
  | _, _ => none
theorem mi_none (a : Pr) : mi a none = a := by cases a <;> rfl
theorem mi_comm (a b : Pr) : mi a b = mi b a := by cases a <;> cases b <;> simp [mi] <;> omega
theorem mi_assoc (a b c : Pr) : mi (mi a b) c = mi a (mi b c) := by cases a <;> cases b <;> cases c <;> simp [mi] <;> omega
theorem mi_self (a : Pr) : mi a a = a := by cases a <;> simp [mi]
theorem ad_comm (a b : Pr) : ad a b = ad b a := by cases a <;> cases b <;> simp [ad] <;> omega
theorem ad_assoc (a b c : Pr) : ad (ad a b) c = ad a (ad b c) := by cases a <;> cases b <;> cases c <;> simp [ad] <;> omega
theorem ad_zero (a : Pr) : ad a (some 0) = a := by cases a <;> simp [ad]
theorem ad_none (a : Pr) : ad a none = none := by cases a <;> rfl
theorem ad_mi (a b c : Pr) : ad a (mi b c) = mi (ad a b) (ad a c) := by cases a <;> cases b <;> cases c <;> simp [ad, mi] <;> omega
def mnL (ps : List Pr) : Pr := ps.foldl mi none
theorem mnL_snoc (ps : List Pr) (x : Pr) : mnL (ps ++ [x]) = mi (mnL ps) x := by simp [mnL]
def mn (k : Nat) (h : Nat → Pr) : Pr := mnL ((List.range k).map h)
theorem mn_zero (h : Nat → Pr) : mn 0 h = none := rfl
theorem mn_succ (k : Nat) (h : Nat → Pr) : mn (k + 1) h = mi (mn k h) (h k) := by simp [mn, List.range_succ, mnL_snoc]
theorem mn_mi (k : Nat) (f g : Nat → Pr) : mn k (fun c => mi (f c) (g c)) = mi (mn k f) (mn k g) := by
  induction k with
  | zero => rfl
  | succ k ih =>
    simp only [mn_succ, ih]
    rw [mi_assoc, ← mi_assoc (mn k g), mi_comm (mn k g) (f k), mi_assoc, ← mi_assoc]
theorem ad_mn (k : Nat) (a : Pr) (h : Nat → Pr) : ad a (mn k h) = mn k fun c => ad a (h c) := by
  induction k with
  | zero => exact ad_none a
  | succ k ih => simp only [mn_succ, ad_mi, ih]
theorem mn_none (k : Nat) : mn k (fun _ => none) = none := by
  induction k with
  | zero => rfl
  | succ k ih => rw [mn_succ, ih]; rfl
theorem mn_swap (k l : Nat) (h : Nat → Nat → Pr) : mn k (fun c => mn l fun d => h c d) = mn l fun d => mn k fun c => h c d := by
  induction k with
  | zero => simp only [mn_zero, mn_none]
  | succ k ih => simp only [mn_succ, mn_mi, ih]
theorem mn_congr {k : Nat} {f g : Nat → Pr} (h : ∀ c, c < k → f c = g c) : mn k f = mn k g := by
  unfold mn
  congr 1
  exact List.map_congr_left fun c m => h c (List.mem_range.mp m)
abbrev Tb := Nat → Nat → Pr
def mulF (k : Nat) (f g : Tb) : Tb := fun i j => mn k fun c => ad (f i c) (g c j)
def addF (f g : Tb) : Tb := fun i j => ad (f i j) (g i j)
def orF (f g : Tb) : Tb := fun i j => mi (f i j) (g i j)
def negF (f : Tb) : Tb := fun i j => f j i
def likF : Tb := fun i j => if i = j then some 0 else none
def silF : Tb := fun _ _ => some 0
theorem mul_assocF (k : Nat) (f g h : Tb) : mulF k (mulF k f g) h = mulF k f (mulF k g h) := by
  funext i j
  simp only [mulF, ad_mn]
  rw [show (fun c => ad (mn k fun d => ad (f i d) (g d c)) (h c j)) = fun c => mn k fun d => ad (f i d) (ad (g d c) (h c j)) from funext fun c => by rw [ad_comm, ad_mn]; exact mn_congr fun d _ => by rw [ad_comm, ad_assoc]]
  exact mn_swap k k _
theorem mul_orF (k : Nat) (f g h : Tb) : mulF k f (orF g h) = orF (mulF k f g) (mulF k f h) := by
  funext i j
  simp only [mulF, orF, ad_mi, mn_mi]
theorem or_mulF (k : Nat) (f g h : Tb) : mulF k (orF f g) h = orF (mulF k f h) (mulF k g h) := by
  funext i j
  simp only [mulF, orF, ← mn_mi]
  exact mn_congr fun c _ => by rw [ad_comm, ad_mi, ad_comm _ (f i c), ad_comm _ (g i c)]
theorem neg_mulF (k : Nat) (f g : Tb) : negF (mulF k f g) = mulF k (negF g) (negF f) := by
  funext i j
  simp only [mulF, negF]
  exact mn_congr fun c _ => ad_comm _ _
theorem add_commF (f g : Tb) : addF f g = addF g f := funext fun i => funext fun j => ad_comm _ _
theorem or_commF (f g : Tb) : orF f g = orF g f := funext fun i => funext fun j => mi_comm _ _
theorem or_selfF (f : Tb) : orF f f = f := funext fun i => funext fun j => mi_self _
theorem neg_negF (f : Tb) : negF (negF f) = f := rfl
theorem add_silF (f : Tb) : addF f silF = f := funext fun i => funext fun j => ad_zero _
theorem mn_pick (i : Nat) (h : Nat → Pr) : ∀ k, mn k (fun c => if i = c then h c else none) = if i < k then h i else none
  | 0 => rfl
  | k + 1 => by
    rw [mn_succ, mn_pick i h k]
    by_cases e : i = k
    · subst e
      rw [if_neg (by omega), if_pos rfl, if_pos (by omega)]; rfl
    · rw [if_neg e, mi_none]
      by_cases l : i < k
      · rw [if_pos l, if_pos (by omega)]
      · rw [if_neg l, if_neg (by omega)]
theorem lik_mulF {k i : Nat} (f : Tb) (h : i < k) (j : Nat) : mulF k likF f i j = f i j := by
  have : (fun c => ad (likF i c) (f c j)) = fun c => if i = c then f c j else none := by
    funext c
    unfold likF
    by_cases e : i = c
    · rw [if_pos e, if_pos e, ad_comm, ad_zero]
    · rw [if_neg e, if_neg e]; rfl
  unfold mulF
  rw [this, mn_pick, if_pos h]
theorem mul_likF {k j : Nat} (f : Tb) (h : j < k) (i : Nat) : mulF k f likF i j = f i j := by
  have : (fun c => ad (f i c) (likF c j)) = fun c => if j = c then f i c else none := by
    funext c
    unfold likF
    by_cases e : c = j
    · rw [if_pos e, if_pos e.symm, ad_zero]
    · rw [if_neg e, if_neg fun q => e q.symm, ad_none]
  unfold mulF
  rw [this, mn_pick, if_pos h]
end DL

set_option maxHeartbeats 4000000
namespace DL
open PySem PySem.Spec PyProof.Rows L2
def toP : Pr → D
  | none => .non
  | some n => .int n
theorem prD_toP (p : Pr) : prD (toP p) = true := by cases p <;> simp [toP, prD]
theorem of_prD {d : D} (h : prD d = true) : ∃ p, d = toP p := by
  cases d <;> first | (cases h; done) | skip
  · exact ⟨none, rfl⟩
  · rename_i i
    have : 0 ≤ i := of_decide_eq_true h
    exact ⟨some i.toNat, by simp only [toP]; congr 1; omega⟩
def row (k : Nat) (f : Nat → Pr) : List D := (List.range k).map fun c => toP (f c)
def tb (k : Nat) (f : Tb) : List (List D) := (List.range k).map fun i => row k (f i)
theorem row_len {k : Nat} {f : Nat → Pr} : (row k f).length = k := by simp [row]
theorem tb_len {k : Nat} {f : Tb} : (tb k f).length = k := by simp [tb]
theorem tb_congr {k : Nat} {f g : Tb} (h : ∀ i, i < k → ∀ j, j < k → f i j = g i j) : tb k f = tb k g :=
  List.map_congr_left fun i mi => List.map_congr_left fun j mj => by rw [h i (List.mem_range.mp mi) j (List.mem_range.mp mj)]
theorem ok_tb {k : Nat} {f : Tb} (h1 : 1 ≤ k) (h2 : k ≤ 5) : OkR (tb k f) := ⟨by rw [tb_len]; omega, by rw [tb_len]; omega, fun r m => by
  obtain ⟨i, _, rfl⟩ := List.mem_map.mp m
  refine ⟨by rw [row_len, tb_len], fun p m => ?_⟩
  obtain ⟨j, _, rfl⟩ := List.mem_map.mp m
  exact prD_toP _⟩
theorem lcD_map {α : Type} {R : Rs} {gf : FG} {fe : FE R} {sl : List SV} {g : R.α} (mk : α → D) (out : α → D) (sl1 : α → List SV) : ∀ l : List α, (∀ c ∈ l, gf (mk c) sl = some (sl1 c)) → (∀ c ∈ l, fe (sl1 c) g = .ok (out c) g) → lcD gf tYesF fe (l.map mk) sl g = .ok (l.map out) g
  | [], _, _ => rfl
  | c :: l, h1, h2 => r_lcCons (h1 c List.mem_cons_self) (h2 c List.mem_cons_self) (lcD_map mk out sl1 l (fun d m => h1 d (List.mem_cons_of_mem _ m)) fun d m => h2 d (List.mem_cons_of_mem _ m))
theorem row_at {k j : Nat} {f : Nat → Pr} (h : j < k) : ((row k f)[j]?).getD .non = toP (f j) := by
  simp [row, h]
end DL

set_option maxHeartbeats 4000000
namespace DL
open PySem PySem.Spec PyProof.Rows L2
theorem tupR_tb {k : Nat} {f : Tb} : tupR (tb k f) = .tup ((List.range k).map fun i => .tup (row k (f i))) := by simp [tupR, tb]
theorem lstR_tb {k : Nat} {f : Tb} : lstR (tb k f) = .lst ((List.range k).map fun i => .lst (row k (f i))) := by simp [lstR, tb]
theorem row_eq {k : Nat} {f : Nat → Pr} : row k f = ((List.range k).map f).map toP := by simp [row]
abbrev tD (C : Addr) (k : Nat) (f : Tb) : D := tabD C (tb k f)
section
variable {R : Rs} {ix : R.ix} {g g1 g2 : R.α} {C_Table : Addr} {k : Nat} {sl : List SV} {f h : Tb}
theorem r_fld {C : Addr} {fa : FE R} {rows : List (List D)} (e : fa sl g = .ok (tabD C rows) g1) : fFld C "_rows" fa sl g = .ok (tupR rows) g1 := by
  unfold fFld
  rw [e, bind_ok]
  simp [tabD]
theorem r_prop {C : Addr} {F : R.α → List D → Rr R.α D} {fa : FE R} {rows : List (List D)} {z : D} (e : fa sl g = .ok (tabD C rows) g1) (hF : F g1 [tabD C rows] = .ok z g2) : fProp C F fa sl g = .ok z g2 := by
  unfold fProp
  rw [e, bind_ok]
  unfold tabD at hF ⊢
  dsimp only
  rw [if_pos rfl, hF]
  rfl
theorem r_make {C : Addr} {F : R.α → List D → Rr R.α (List (Str × D))} {fa : FA R} {x : D} {rows : List (List D)} (e : fa sl g = .ok [x] g1) (hF : F g1 [x] = .ok [("_rows", tupR rows)] g2) : fMake C 1 F [] fa sl g = .ok (tabD C rows) g2 := by
  unfold fMake
  rw [e, bind_ok, if_pos (show ([x] ++ ([] : List D)).length = 1 from rfl)]
  show (F g1 [x]).bind _ = _
  rw [hF]
  rfl
theorem m_init (h1 : 1 ≤ k) (h2 : k ≤ 5) : F_Table_init C_Table ix g [.lst ((List.range k).map fun i => .lst (row k (f i)))] = .ok [("_rows", tupR (tb k f))] g := by
  rw [← lstR_tb]
  exact m_tinit (ok_tb h1 h2)
end
end DL

set_option maxHeartbeats 4000000
namespace DL
open PySem PySem.Spec PyProof.Rows L2
def PyL (d : D) (m : Nat) : Prop := ∃ p, toPy d = some p ∧ p.canLay0 = true ∧ p.depth ≤ m
theorem py_int {i : Int} {m : Nat} : PyL (.int i) m := ⟨.int i, by simp only [toPy], rfl, Nat.zero_le _⟩
theorem py_non {m : Nat} : PyL .non m := ⟨.none, by simp only [toPy], rfl, Nat.zero_le _⟩
theorem py_all {m : Nat} : ∀ {xs : List D}, (∀ x ∈ xs, PyL x m) → ∃ ps, toPyL xs = some ps ∧ PyData.canLayAll0 ps = true ∧ PyData.depthAll ps ≤ m ∧ ps.length = xs.length
  | [], _ => ⟨[], by simp only [toPyL], rfl, Nat.zero_le _, rfl⟩
  | x :: xs, h => by
    obtain ⟨p, e1, c1, d1⟩ := h x List.mem_cons_self
    obtain ⟨ps, e2, c2, d2, l2⟩ := py_all fun y m => h y (List.mem_cons_of_mem _ m)
    refine ⟨p :: ps, ?_, ?_, ?_, ?_⟩
    · simp only [toPyL, e1, e2]
    · simp only [PyData.canLayAll0, c1, c2, Bool.and_self]
    · simp only [PyData.depthAll]
      omega
    · simp [l2]
theorem py_lst {m : Nat} {xs : List D} (h : ∀ x ∈ xs, PyL x m) : PyL (.lst xs) (m + 1) := by
  obtain ⟨ps, e, c, d, _⟩ := py_all h
  refine ⟨.list ps, by simp only [toPy, e]; rfl, by simp only [PyData.canLay0, c], by simp only [PyData.depth]; omega⟩
theorem py_tup {m : Nat} {xs : List D} (h : ∀ x ∈ xs, PyL x m) : PyL (.tup xs) (m + 1) := by
  obtain ⟨ps, e, c, d, _⟩ := py_all h
  refine ⟨.tuple ps, by simp only [toPy, e]; rfl, by simp only [PyData.canLay0, c], by simp only [PyData.depth]; omega⟩
theorem py_toP {p : Pr} {m : Nat} : PyL (toP p) m := by
  cases p
  · exact py_non
  · exact py_int
theorem py_tb {k : Nat} {f : Tb} : PyL (tupR (tb k f)) 2 := by
  rw [tupR_tb]
  refine py_tup fun x m => ?_
  obtain ⟨i, _, rfl⟩ := List.mem_map.mp m
  refine py_tup fun x m => ?_
  obtain ⟨j, _, rfl⟩ := List.mem_map.mp m
  exact py_toP
theorem eqP_self {d : D} {m : Nat} (h : PyL d m) (hm : m ≤ 64) : eqP d d = some (.bl true) := by
  obtain ⟨p, e, c, d1⟩ := h
  unfold eqP
  rw [e]
  dsimp only
  have : SeqAt.shaped p = true := by
    unfold SeqAt.shaped
    rw [c, decide_eq_true (show p.depth ≤ 64 by omega)]
    rfl
  rw [if_pos ⟨this, this⟩, PySem.SeqAt.eqv_refl p c]
theorem neP_self {d : D} {m : Nat} (h : PyL d m) (hm : m ≤ 64) : neP d d = some (.bl false) := by
  obtain ⟨p, e, c, d1⟩ := h
  unfold neP
  rw [e]
  dsimp only
  have : SeqAt.shaped p = true := by
    unfold SeqAt.shaped
    rw [c, decide_eq_true (show p.depth ≤ 64 by omega)]
    rfl
  rw [if_pos ⟨this, this⟩, PySem.SeqAt.eqv_refl p c]
  rfl
section
variable {R : Rs} {ix : R.ix} {g g1 g2 : R.α} {C_Table C_InvalidNumber : Addr} {k : Nat} {sl : List SV} {f h : Tb}
theorem r_cm {C : Addr} {F : R.α → List D → Rr R.α D} {r : FA R} {x z : D} (hr : r sl g = .ok [x] g1) (hF : F g1 [.hd C, x] = .ok z g2) : fCm C 2 F r sl g = .ok z g2 := by
  unfold fCm
  rw [hr, bind_ok, if_pos (show [x].length + 1 = 2 from rfl), hF]
theorem r_makeV {i n : Nat} {C : Addr} {F : R.α → List D → Rr R.α (List (Str × D))} {dds : List D} {fa : FA R} {z : D} (h : sl[i]? = some (.dat (.hd C))) (e : fMake C n F dds fa sl g = .ok z g1) : fMakeV i C n F dds fa sl g = .ok z g1 := by
  unfold fMakeV
  rw [h]
  dsimp only
  rw [if_pos rfl, e]
theorem rng_eq {n : Nat} : rngD 0 n = (List.range n).map fun (i : Nat) => D.int (i : Int) := by simp [rngD]
theorem m_lik (h1 : 1 ≤ k) (h2 : k ≤ 5) : F_Table_likeness C_InvalidNumber C_Table ix g [.hd C_Table, .int k] = .ok (tD C_Table k likF) g := by
  unfold F_Table_likeness
  refine r_run (r_seq (r_expr (r_call (r_cons r_var r_nil) (m_chl (by omega) (by omega)))) (r_ret ?_))
  refine r_makeV rfl (r_make (r_cons (r_lc (ys := (List.range k).map fun i => .lst (row k (likF i))) (by rw [r_range (n := k) (r_cons r_var r_nil) (by omega), rng_eq]) (lcD_map _ _ (fun (i : Nat) => [.dat (.hd C_Table), .dat (.int k), .un, .dat (.int i)]) _ (fun i _ => rfl) fun i _ => ?_) (by simp; omega)) r_nil) (m_init h1 h2))
  refine r_lc (ys := row k (likF i)) (by rw [r_range (n := k) (r_cons r_var r_nil) (by omega), rng_eq]) (lcD_map _ (fun j => toP (likF i j)) (fun (j : Nat) => [.dat (.hd C_Table), .dat (.int k), .dat (.int j), .dat (.int i)]) _ (fun j _ => rfl) fun j _ => ?_) (by rw [row_len]; omega)
  by_cases c : i = j
  · subst c
    simp [likF, toP, runF, runI, startS, startI, Ro.fin, Ro.fini, Ro.seq, sRet, sRetN, sRetMu, sSeq, sNx, sIf, sSet, sExpr, sNever, sNewL, sNewLs, sApp, sExt, sFldS, sPar, sAsgT, sFrz, MO.d, putFD, Rr.bind, Rr.toS, Rr.noerr, nerr, fVar, fC, fOp, fUn, fNil, fCons, fLst, fTup, fCallL, fNot, fAnd, fOr, fIf, fChain, fCall, fMeth, fFld, fProp, fMake, fMakeS, fDGet, fDisp, fPs, mergeKD, putKD, valD, tVal, tNotF, tAndF, tOrF, tYesF, iL, iT, iLT, iR1, iR2, iEn, enumD, sFor, gN, gT, gsNil, gsCons, lift1, lift2, liftL, addI, subI, ltI, leI, gtI, geI, mulI, modI, divI, powI, negI, dI, dIc, isN, notN, D.isNon, eqD, neD, eqS, catL, catT, repL, ixL, ixT, lenD, intD, absD, min2D, max2D, listD, tupleD, allD, blL, isiL, isiT0, kt0, kt1, tyNm, subT, eqE]
  · have c' : ¬ ((i : Int) = (j : Int)) := by omega
    simp [likF, toP, c, c', runF, runI, startS, startI, Ro.fin, Ro.fini, Ro.seq, sRet, sRetN, sRetMu, sSeq, sNx, sIf, sSet, sExpr, sNever, sNewL, sNewLs, sApp, sExt, sFldS, sPar, sAsgT, sFrz, MO.d, putFD, Rr.bind, Rr.toS, Rr.noerr, nerr, fVar, fC, fOp, fUn, fNil, fCons, fLst, fTup, fCallL, fNot, fAnd, fOr, fIf, fChain, fCall, fMeth, fFld, fProp, fMake, fMakeS, fDGet, fDisp, fPs, mergeKD, putKD, valD, tVal, tNotF, tAndF, tOrF, tYesF, iL, iT, iLT, iR1, iR2, iEn, enumD, sFor, gN, gT, gsNil, gsCons, lift1, lift2, liftL, addI, subI, ltI, leI, gtI, geI, mulI, modI, divI, powI, negI, dI, dIc, isN, notN, D.isNon, eqD, neD, eqS, catL, catT, repL, ixL, ixT, lenD, intD, absD, min2D, max2D, listD, tupleD, allD, blL, isiL, isiT0, kt0, kt1, tyNm, subT, eqE]
theorem m_sil (h1 : 1 ≤ k) (h2 : k ≤ 5) : F_Table_silence C_InvalidNumber C_Table ix g [.hd C_Table, .int k] = .ok (tD C_Table k silF) g := by
  unfold F_Table_silence
  refine r_run (r_seq (r_expr (r_call (r_cons r_var r_nil) (m_chl (by omega) (by omega)))) (r_ret ?_))
  have e : ∀ x : D, repL (.lst [x]) (.int k) = some (.lst ((List.range k).map fun _ => x)) := fun x => by
    have : (List.replicate (k : Int).toNat [x]).flatten = (List.range k).map fun _ => x := by
      rw [Int.toNat_natCast]
      clear h1 h2
      induction k with
      | zero => rfl
      | succ k ih => rw [List.replicate_succ', List.flatten_append, ih, List.range_succ, List.map_append]; rfl
    unfold repL
    dsimp only
    rw [this, if_pos ⟨by omega, by omega, by simp; omega⟩]
  refine r_makeV rfl (r_make (x := .lst ((List.range k).map fun i => .lst (row k (silF i)))) (r_cons ?_ r_nil) (m_init h1 h2))
  refine r_op (r_lst (r_cons (r_op (r_lst (r_cons r_c r_nil)) r_var (e _)) r_nil)) r_var ?_
  exact e _
end
end DL

set_option maxHeartbeats 400000
namespace DL
open PySem PySem.Spec PyProof.Rows L2
theorem neP_nil {m : Nat} {xs : List D} (h : ∀ x ∈ xs, PyL x m) (hm : m ≤ 63) : neP (.lst xs) (.lst []) = some (.bl (!xs.isEmpty)) := by
  obtain ⟨ps, e, c, d, l⟩ := py_all h
  unfold neP
  have e1 : toPy (.lst xs) = some (.list ps) := by simp only [toPy, e]; rfl
  have e2 : toPy (.lst []) = some (.list []) := by simp only [toPy, toPyL]; rfl
  rw [e1, e2]
  dsimp only
  have s1 : SeqAt.shaped (.list ps) = true := by
    have : PyData.depthAll ps + 1 ≤ 64 := by omega
    simp only [SeqAt.shaped, PyData.canLay0, c, PyData.depth, Bool.true_and]
    exact decide_eq_true this
  have s2 : SeqAt.shaped (.list []) = true := by decide
  rw [if_pos ⟨s1, s2⟩]
  cases ps with
  | nil =>
    cases xs with
    | nil => simp [PyData.eqv, PyData.eqvAll]
    | cons => simp at l
  | cons =>
    cases xs with
    | nil => simp at l
    | cons => simp [PyData.eqv, PyData.eqvAll]
section
variable {n1 n2 : Str}
theorem r_pen {p : Addr} {f : Int × Int → D} {sl : List SV} {g : (penR n1 n2).α} (h : sl[0]? = some (.dat (.hd p))) : (fPen 0 p f : FE (penR n1 n2)) sl g = .ok (f g) g := by
  unfold fPen
  rw [h]
  dsimp only
  rw [if_pos rfl]
theorem r_sPen {p : Addr} {u : Int × Int → Int → Int × Int} {f : FE (penR n1 n2)} {z : Int} {sl : List SV} {g g1 : (penR n1 n2).α} (h : sl[0]? = some (.dat (.hd p))) (hf : f sl g = .ok (.int z) g1) : sPen 0 p u f sl g = .nx sl (u g1 z) := by
  unfold sPen
  rw [h]
  dsimp only
  rw [hf]
  exact if_pos rfl
end
theorem lg {a b : Int} {n : Nat} (h1 : -b ≤ a) (h2 : a ≤ b) (hb : b < 2 ^ n := by decide) : a.natAbs.log2 ≤ n := by
  by_cases e : a.natAbs = 0
  · rw [e]; exact Nat.zero_le _
  · have : a.natAbs < 2 ^ n := by
      have h3 : (a.natAbs : Int) < ((2 ^ n : Nat) : Int) := by push_cast; omega
      exact_mod_cast h3
    exact Nat.le_of_lt ((Nat.log2_lt e).mpr this)
theorem mulOk {a b : Int} {n m : Nat} (ha : a.natAbs.log2 ≤ n) (hb : b.natAbs.log2 ≤ m) (h : n + m < 1000000 := by decide) : mulI (.int a) (.int b) = some (.int (a * b)) := by
  unfold mulI dIc
  dsimp only
  rw [if_pos (decide_eq_true (by omega))]
theorem addOk {a b : Int} : addI (.int a) (.int b) = some (.int (a + b)) := rfl
theorem subOk {a b : Int} : subI (.int a) (.int b) = some (.int (a - b)) := rfl
theorem modOk {a b : Int} (h : 0 < b := by decide) : modI (.int a) (.int b) = some (.int (a % b)) := by
  unfold modI dIc
  dsimp only
  rw [if_pos (decide_eq_true h)]
theorem divOk {a b : Int} {n : Nat} (h : 0 < b := by decide) (hl : b.natAbs.log2 ≤ n := by decide) (hn : n < 9000 := by decide) : divI (.int a) (.int b) = some (.int (a / b)) := by
  unfold divI dIc
  dsimp only
  rw [if_pos (decide_eq_true ⟨h, by omega⟩)]
theorem gtOk {a b : Int} : gtI (.int a) (.int b) = some (.bl (decide (b < a))) := rfl
theorem ltOk {a b : Int} : ltI (.int a) (.int b) = some (.bl (decide (a < b))) := rfl
theorem geOk {a b : Int} : geI (.int a) (.int b) = some (.bl (decide (b ≤ a))) := rfl
theorem gtT {a b : Int} (h : b < a) : gtI (.int a) (.int b) = some (.bl true) := by rw [gtOk, decide_eq_true h]
theorem gtF {a b : Int} (h : ¬ b < a) : gtI (.int a) (.int b) = some (.bl false) := by rw [gtOk, decide_eq_false h]
theorem ltT {a b : Int} (h : a < b) : ltI (.int a) (.int b) = some (.bl true) := by rw [ltOk, decide_eq_true h]
theorem ltF {a b : Int} (h : ¬ a < b) : ltI (.int a) (.int b) = some (.bl false) := by rw [ltOk, decide_eq_false h]
theorem geT {a b : Int} (h : b ≤ a) : geI (.int a) (.int b) = some (.bl true) := by rw [geOk, decide_eq_true h]
theorem geF {a b : Int} (h : ¬ b ≤ a) : geI (.int a) (.int b) = some (.bl false) := by rw [geOk, decide_eq_false h]
theorem eqI {a b : Int} : eqD (.int a) (.int b) = some (.bl (decide (a = b))) := rfl
theorem atIn {xs : List D} {i : Int} (h0 : 0 ≤ i) (h : i < xs.length) : ∃ j, ∃ hj : j < xs.length, i = (j : Int) ∧ L2.atI xs i = some (xs[j]) := by
  obtain ⟨j, rfl⟩ : ∃ j : Nat, i = (j : Int) := ⟨i.toNat, by omega⟩
  have hj : j < xs.length := by omega
  exact ⟨j, hj, rfl, atI_nat (List.getElem?_eq_getElem hj)⟩
theorem abs_case (w : Int) : ∃ q : Int, absD [.int w] = some (.int q) ∧ 0 ≤ q := by
  refine ⟨_, rfl, ?_⟩
  split <;> omega
theorem pow18 : powI (.int 10) (.int 18) = some (.int 1000000000000000000) := rfl
def primes : List D := [.int 2147483629, .int 2147483647, .int 2147483563, .int 2147483587, .int 2147483579]
theorem prime_at (t : Int) : ∃ p : Int, ixL (.lst primes) (.int (t % 5)) = some (.int p) ∧ 0 < p ∧ p ≤ 4294967295 := by
  obtain ⟨j, hj, _, e⟩ := atIn (xs := primes) (i := t % 5) (Int.emod_nonneg _ (by decide)) (Int.emod_lt_of_pos _ (by decide))
  have : ∀ x ∈ primes, ∃ p : Int, x = .int p ∧ 0 < p ∧ p ≤ 4294967295 := fun x m => by
    simp only [primes, List.mem_cons, List.not_mem_nil, or_false] at m
    rcases m with rfl | rfl | rfl | rfl | rfl <;> exact ⟨_, rfl, by decide, by decide⟩
  obtain ⟨p, q, p0, p1⟩ := this _ (List.getElem_mem hj)
  exact ⟨p, e.trans (by rw [q]), p0, p1⟩
theorem m_draw {ix : (penR "turn" "rest").ix} {t r z : Int} (ht : 0 ≤ t) (ht2 : t ≤ 1000000000) (hr : 0 ≤ r) (hz : 0 < z) (hz2 : z ≤ 1000000000000000000000000000000) : ∃ i t' r', F_drawL ix ((t, r) : Int × Int) [.hd ix.1, .int z] = .ok (.int i) ((t', r') : Int × Int) ∧ 0 ≤ i ∧ i < z ∧ t ≤ t' ∧ t' ≤ t + 1 ∧ 0 ≤ r' := by
  unfold F_drawL
  have zl : z.natAbs.log2 ≤ 101 := lg (b := 1000000000000000000000000000000) (by omega) hz2
  by_cases hr0 : 0 < r
  · refine ⟨r % z, t, r / z, r_run (r_seq_rt (r_sif_t (r_val (r_op (r_pen rfl) r_c (gtT hr0))) (r_seq (r_set (r_op (r_callL (r_cons (r_pen rfl) r_nil) rfl) r_var (modOk hz))) (r_seq (r_sPen rfl (r_op (r_pen rfl) r_var (divOk hz zl (by decide)))) (r_ret r_var))))), Int.emod_nonneg _ (by omega), Int.emod_lt_of_pos _ hz, by omega, by omega, Int.ediv_nonneg hr (by omega)⟩
  have tl : t.natAbs.log2 ≤ 30 := lg (b := 1000000000) (by omega) ht2
  have cut : ∀ {o : Ro (penR "turn" "rest")} {k : FS (penR "turn" "rest")} {f : FS (penR "turn" "rest")}, (∃ wv : Int, f [.dat (.hd ix.1), .dat (.int z), .un, .dat (.int t), .dat (.int (53 * t + 29)), .un, .un, .un] ((t + 1, r) : Int × Int) = .nx [.dat (.hd ix.1), .dat (.int z), .un, .dat (.int t), .dat (.int wv), .un, .un, .un] ((t + 1, r) : Int × Int) ∧ k [.dat (.hd ix.1), .dat (.int z), .un, .dat (.int t), .dat (.int wv), .un, .un, .un] ((t + 1, r) : Int × Int) = o) → sSeq f k [.dat (.hd ix.1), .dat (.int z), .un, .dat (.int t), .dat (.int (53 * t + 29)), .un, .un, .un] ((t + 1, r) : Int × Int) = o := fun ⟨_, h1, h2⟩ => r_seq h1 h2
  have cell : ∃ wv : Int, (sIf (tVal (fOp neP (fPen 0 ix.1 (fun _ => .lst (ix.2.2.map D.int))) (fLst fNil))) (sSet 4 (fOp ixL (fPen 0 ix.1 (fun _ => .lst (ix.2.2.map D.int))) (fOp modI (fCallL intD (fCons (fVar 3) fNil)) (fCallL lenD (fCons (fPen 0 ix.1 (fun _ => .lst (ix.2.2.map D.int))) fNil))))) sNx : FS (penR "turn" "rest")) [.dat (.hd ix.1), .dat (.int z), .un, .dat (.int t), .dat (.int (53 * t + 29)), .un, .un, .un] ((t + 1, r) : Int × Int) = .nx [.dat (.hd ix.1), .dat (.int z), .un, .dat (.int t), .dat (.int wv), .un, .un, .un] ((t + 1, r) : Int × Int) := by
    have np := neP_nil (m := 0) (xs := ix.2.2.map D.int) (fun x m => by
      obtain ⟨i, _, rfl⟩ := List.mem_map.mp m
      exact py_int) (by decide)
    by_cases hn : ix.2.2 = []
    · exact ⟨_, r_sif_f (r_val (r_op (r_pen rfl) (r_lst r_nil) (by rw [np, hn]; rfl))) r_nx⟩
    · have hl : 0 < ((ix.2.2.map D.int).length : Int) := by
        have : ix.2.2.length ≠ 0 := fun z => hn (List.length_eq_zero_iff.mp z)
        rw [List.length_map]
        omega
      obtain ⟨j, hj, _, e⟩ := atIn (xs := ix.2.2.map D.int) (i := t % ((ix.2.2.map D.int).length : Int)) (Int.emod_nonneg _ (by omega)) (Int.emod_lt_of_pos _ hl)
      rw [List.getElem_map] at e
      refine ⟨_, r_sif_t (r_val (r_op (r_pen rfl) (r_lst r_nil) ?_)) (r_set (r_op (r_pen rfl) (r_op (r_callL (r_cons r_var r_nil) rfl) (r_callL (r_cons (r_pen rfl) r_nil) rfl) (modOk hl)) e))⟩
      rw [np]
      cases h : ix.2.2 with
      | nil => exact absurd h hn
      | cons => rfl
  obtain ⟨wv, cell⟩ := cell
  obtain ⟨q, aq, q0⟩ := abs_case wv
  by_cases hc : t < ((ix.2.2.map D.int).length : Int) ∧ 1000000000000000000 ≤ q
  · refine ⟨(q - 1000000000000000000) % z, t + 1, (q - 1000000000000000000) / z, r_run (r_seq (r_sif_f (r_val (r_op (r_pen rfl) r_c (gtF hr0))) r_nx) (r_seq (r_set (r_pen rfl)) (r_seq (r_sPen rfl (r_op r_var r_c addOk)) (r_seq (r_set (r_op (r_op r_c r_var (mulOk (n := 6) (by decide) tl)) r_c addOk)) (cut ⟨wv, cell, ?_⟩))))), Int.emod_nonneg _ (by omega), Int.emod_lt_of_pos _ hz, by omega, by omega, Int.ediv_nonneg (by omega) (by omega)⟩
    exact r_seq_rt (r_sif_t (r_andF_t (r_val (r_op r_var (r_callL (r_cons (r_pen rfl) r_nil) rfl) (ltT hc.1))) (r_val (r_op (r_callL (r_cons r_var r_nil) aq) (r_op r_c r_c pow18) (geT hc.2)))) (r_seq (r_sPen rfl (r_op (r_op (r_callL (r_cons r_var r_nil) aq) (r_op r_c r_c pow18) subOk) r_var (divOk hz zl (by decide)))) (r_ret (r_op (r_op (r_callL (r_cons r_var r_nil) aq) (r_op r_c r_c pow18) subOk) r_var (modOk hz)))))
  · have md : ∀ {a m : Int}, 0 < m → m ≤ 4294967295 → (a % m).natAbs.log2 ≤ 32 := fun {a m} h1 h2 => lg (b := 4294967295) (by have := Int.emod_nonneg a (show m ≠ 0 by omega); omega) (by have := Int.emod_lt_of_pos a h1; omega)
    have mi2 : ∀ {a m : Int} (c : Int), 0 < m → m ≤ 4294967295 → 0 ≤ c → c ≤ 20000000 → (a % m + c).natAbs.log2 ≤ 33 := fun {a m} c h1 h2 h3 h4 => lg (b := 4400000000) (by have := Int.emod_nonneg a (show m ≠ 0 by omega); omega) (by have := Int.emod_lt_of_pos a h1; omega)
    have c1 : (sIf (tAndF (tVal (fOp ltI (fVar 3) (fCallL lenD (fCons (fPen 0 ix.1 (fun _ => .lst (ix.2.2.map D.int))) fNil)))) (tVal (fOp geI (fCallL absD (fCons (fVar 4) fNil)) (fOp powI (fC (.int 10)) (fC (.int 18)))))) (sSeq (sPen 0 ix.1 (fun g z => (g.1, z)) (fOp divI (fOp subI (fCallL absD (fCons (fVar 4) fNil)) (fOp powI (fC (.int 10)) (fC (.int 18)))) (fVar 1))) (sRet (fOp modI (fOp subI (fCallL absD (fCons (fVar 4) fNil)) (fOp powI (fC (.int 10)) (fC (.int 18)))) (fVar 1)))) sNx : FS (penR "turn" "rest")) [.dat (.hd ix.1), .dat (.int z), .un, .dat (.int t), .dat (.int wv), .un, .un, .un] ((t + 1, r) : Int × Int) = .nx [.dat (.hd ix.1), .dat (.int z), .un, .dat (.int t), .dat (.int wv), .un, .un, .un] ((t + 1, r) : Int × Int) := by
      by_cases h1 : t < ((ix.2.2.map D.int).length : Int)
      · have h2 : ¬ 1000000000000000000 ≤ q := fun z => hc ⟨h1, z⟩
        exact r_sif_f (r_andF_t (r_val (r_op r_var (r_callL (r_cons (r_pen rfl) r_nil) rfl) (ltT h1))) (r_val (r_op (r_callL (r_cons r_var r_nil) aq) (r_op r_c r_c pow18) (geF h2)))) r_nx
      · exact r_sif_f (r_andF_f (r_val (r_op r_var (r_callL (r_cons (r_pen rfl) r_nil) rfl) (ltF h1)))) r_nx
    obtain ⟨p, pe, p0, p1⟩ := prime_at t
    refine ⟨_, t + 1, r, r_run (r_seq (r_sif_f (r_val (r_op (r_pen rfl) r_c (gtF hr0))) r_nx) (r_seq (r_set (r_pen rfl)) (r_seq (r_sPen rfl (r_op r_var r_c addOk)) (r_seq (r_set (r_op (r_op r_c r_var (mulOk (n := 6) (by decide) tl)) r_c addOk)) (cut ⟨wv, cell, r_seq (sl1 := [.dat (.hd ix.1), .dat (.int z), .un, .dat (.int t), .dat (.int wv), .un, .un, .un]) (g1 := ((t + 1, r) : Int × Int)) c1 (r_seq (r_set (x := .lst primes) (r_lst (r_cons r_c (r_cons r_c (r_cons r_c (r_cons r_c (r_cons r_c r_nil))))) (by simp [primes]))) (r_seq (r_set (r_op r_var (r_op (r_callL (r_cons r_var r_nil) rfl) r_c modOk) pe)) (r_seq (r_set (r_op (r_op (r_op (r_op (r_op (r_callL (r_cons r_var r_nil) rfl) r_c modOk) r_c (mulOk (md (by decide) (by decide)) (m := 17) (by decide))) (r_op (r_op r_c r_var (mulOk (n := 16) (by decide) tl)) r_var (mulOk (n := 46) (lg (b := 50021000000000) (by omega) (by omega)) tl)) addOk) (r_op r_c r_var (mulOk (n := 16) (by decide) tl)) addOk) r_c addOk)) (r_seq (r_set (r_op (r_callL (r_cons r_var r_nil) rfl) r_var (modOk p0))) (r_seq (r_set (r_op (r_callL (r_cons (r_op (r_op (r_op (r_op r_var r_var (mulOk (md p0 p1) (md p0 p1))) (r_op r_c r_var (mulOk (n := 16) (by decide) (md p0 p1))) addOk) (r_op r_c r_var (mulOk (n := 4) (by decide) tl)) addOk) r_c addOk) r_nil) rfl) r_c modOk)) (r_ret (r_op (r_callL (r_cons (r_op (r_op (r_callL (r_cons (r_op r_var (r_op r_var r_c addOk) (mulOk (md (by decide) (by decide)) (mi2 _ (by decide) (by decide) (by decide) (by decide)))) r_nil) rfl) r_c modOk) r_c (divOk (by decide) (n := 6) (by decide) (by decide))) r_nil) rfl) r_var (modOk hz))))))))⟩))))), Int.emod_nonneg _ (by omega), Int.emod_lt_of_pos _ hz, by omega, by omega, hr⟩
end DL

set_option maxHeartbeats 1000000
namespace DL
open PySem PySem.Spec PyProof.Rows L2
abbrev RP : Rs := penR "turn" "rest"
structure Okg (N : Int) (g : RP.α) : Prop where
  a : 0 ≤ (show Int × Int from g).1
  b : (show Int × Int from g).1 ≤ N
  c : 0 ≤ (show Int × Int from g).2
theorem Okg.mono {N M : Int} {g : RP.α} (h : Okg N g) (l : N ≤ M := by omega) : Okg M g := ⟨h.a, by have := h.b; omega, h.c⟩
theorem paired_all {P : D → Prop} {xs ys : List D} (h : Paired (fun _ y => P y) xs ys) : ys.length = xs.length ∧ ∀ y ∈ ys, P y := by
  induction h with
  | nil => exact ⟨rfl, fun _ m => nomatch m⟩
  | cons p _ ih => exact ⟨by rw [List.length_cons, List.length_cons, ih.1], fun y m => by
      rcases List.mem_cons.mp m with rfl | m
      · exact p
      · exact ih.2 y m⟩
theorem r_whT {R : Rs} {sl sl1 : List SV} {g g1 : R.α} {t : FT R} {fb : FS R} {n : Nat} {o : Ro R} (ht : t sl g = .ok true g) (hb : fb sl g = .nx sl1 g1) (k : whD t fb n sl1 g1 = o) : whD t fb (n + 1) sl g = o := by
  unfold whD
  rw [ht, toS_ok, if_pos rfl, hb]
  exact k
theorem r_whF {R : Rs} {sl : List SV} {g : R.α} {t : FT R} {fb : FS R} {n : Nat} (ht : t sl g = .ok false g) : whD t fb (n + 1) sl g = .nx sl g := by
  unfold whD
  rw [ht, toS_ok, if_neg Bool.false_ne_true]
section
variable {ix : RP.ix} {sl : List SV} {a : FE RP} {g g0 : RP.α} {N : Int}
abbrev dra (ix : RP.ix) (a : FE RP) : FE RP := fCall 2 (F_drawL ix) [] (fCons (fVar 0) (fCons a fNil))
theorem f_draw {z : Int} (h : Okg N g) (hN : N ≤ 1000000000) (hz : 0 < z) (hz2 : z ≤ 1000000000000000000000000000000) : ∃ i g1, F_drawL ix g [.hd ix.1, .int z] = .ok (.int i) g1 ∧ 0 ≤ i ∧ i < z ∧ Okg (N + 1) g1 := by
  obtain ⟨i, t', r', e, h1, h2, h3, h4, h5⟩ := m_draw (ix := ix) (t := (show Int × Int from g).1) (r := (show Int × Int from g).2) (z := z) h.a (by have := h.b; omega) h.c hz hz2
  have := h.b
  have := h.a
  exact ⟨i, ((t', r') : Int × Int), e, h1, h2, ⟨by show 0 ≤ t'; omega, by show t' ≤ N + 1; omega, h5⟩⟩
theorem x_draw {z : Int} (e0 : (fVar 0 : FE RP) sl g = .ok (.hd ix.1) g) (ha : a sl g = .ok (.int z) g0) (h : Okg N g0) (hN : N ≤ 1000000000) (hz : 0 < z) (hz2 : z ≤ 1000000000000000000000000000000) : ∃ i g1, dra ix a sl g = .ok (.int i) g1 ∧ 0 ≤ i ∧ i < z ∧ Okg (N + 1) g1 := by
  obtain ⟨i, g1, e, q⟩ := f_draw (ix := ix) h hN hz hz2
  exact ⟨i, g1, r_call (r_cons e0 (r_cons ha r_nil)) e, q⟩
def Bn (N : Nat) (p : Pr) : Prop := ∀ n, p = some n → n < N
end
end DL

set_option maxHeartbeats 400000
namespace DL
open PySem PySem.Spec PyProof.Rows L2
theorem textFrom_up {b : Nat} : ∀ (ts : List Str) (k : Nat) (acc : Str), (∀ t ∈ ts, t.length ≤ b) → (textFrom k acc ts).length ≤ acc.length + (b + 2) * ts.length
  | [], k, acc, _ => Nat.le_refl _
  | t :: r, k, acc, h => by
    have ih := textFrom_up r (k + 1) (acc ++ (if k > 0 then ", " else "" : String) ++ t) fun x m => h x (List.mem_cons_of_mem _ m)
    have e : (acc ++ (if k > 0 then ", " else "" : String) ++ t).length = acc.length + (if k > 0 then 2 else 0) + t.length := by
      rw [strLen_append, strLen_append]
      split <;> rfl
    have ht := h t List.mem_cons_self
    rw [e] at ih
    show (textFrom (k + 1) _ r).length ≤ _
    rw [List.length_cons, Nat.mul_add]
    have i2 : (if k > 0 then 2 else 0) ≤ 2 := by split <;> omega
    omega
theorem piled_up {b : Nat} : ∀ ts : List Str, (∀ t ∈ ts, t.length ≤ b) → piled ts ≤ (b + 2) * ts.length
  | [], _ => Nat.le_refl _
  | t :: r, h => by
    have ih := piled_up r fun x m => h x (List.mem_cons_of_mem _ m)
    have ht := h t List.mem_cons_self
    rw [List.length_cons, Nat.mul_add]
    rw [piled_cons]
    omega
theorem show100 {i : Int} (h0 : 0 ≤ i) (h1 : i < 1000000000000000000000) : (PyData.int i).showable = true ∧ (PyData.int i).shown.length ≤ 22 := by
  have hn : i.natAbs < 10 ^ 21 := by omega
  have h2 : i.natAbs < 2 ^ 70 := Nat.lt_of_lt_of_le hn (by decide)
  constructor
  · simp only [PyData.showable, decide_eq_true_eq]
    by_cases e : i.natAbs = 0
    · rw [e]
      decide
    · exact Nat.lt_of_lt_of_le ((Nat.log2_lt e).mpr h2) (by decide)
  · have q := int_text_length_le10 (a := i) (k := 21) (by decide) hn
    show (Str.ofString (toString i)).length ≤ 22
    rw [PySem.ofString_length]
    exact q
theorem neSS {s : Str} : neD (.str s) (.str s) = some (.bl false) := by simp [neD, eqS]
def bnd : Nat → Nat
  | 0 => 22
  | m + 1 => 41 * (bnd m + 2) + 3
structure ShP (m : Nat) (p : PyData) : Prop where
  s : p.showable = true
  l : p.shown.length ≤ bnd m
  d : p.depth ≤ m
theorem bnd_lo (m : Nat) : 22 ≤ bnd m := by
  cases m with
  | zero => exact Nat.le_refl _
  | succ m => unfold bnd; omega
theorem sh_all {m : Nat} : ∀ {l : List D}, (∀ x ∈ l, ∃ p, toPy x = some p ∧ ShP m p) → ∃ ps, toPyL l = some ps ∧ PyData.showableAll ps = true ∧ (∀ t ∈ PyData.shownAll ps, t.length ≤ bnd m) ∧ (PyData.shownAll ps).length = l.length ∧ PyData.depthAll ps ≤ m
  | [], _ => ⟨[], by simp only [toPyL], rfl, (fun _ m => nomatch m), rfl, Nat.zero_le _⟩
  | x :: l, h => by
    obtain ⟨p, e, q⟩ := h x List.mem_cons_self
    obtain ⟨ps, e2, a, b, c, d⟩ := sh_all fun y my => h y (List.mem_cons_of_mem _ my)
    refine ⟨p :: ps, by simp only [toPyL, e, e2], by simp only [PyData.showableAll, q.s, a, Bool.and_self], fun u mu => ?_, by simp only [PyData.shownAll, List.length_cons, c], by simp only [PyData.depthAll]; have := q.d; omega⟩
    simp only [PyData.shownAll] at mu
    rcases List.mem_cons.mp mu with rfl | mu
    · exact q.l
    · exact b u mu
theorem sh_lst {m : Nat} {l : List D} (hl : l.length ≤ 41) (h : ∀ x ∈ l, ∃ p, toPy x = some p ∧ ShP m p) : ∃ p, toPy (.lst l) = some p ∧ ShP (m + 1) p := by
  obtain ⟨ps, e, a, b, c, d⟩ := sh_all h
  refine ⟨.list ps, by simp only [toPy, e]; rfl, ⟨by simp only [PyData.showable, a], ?_, by simp only [PyData.depth]; omega⟩⟩
  simp only [PyData.shown]
  have up := textFrom_up (b := bnd m) (PyData.shownAll ps) 0 "[" b
  rw [c] at up
  have e1 : (("[" : String) : Str).length = 1 := by decide +kernel
  have e2 : (("]" : String) : Str).length = 1 := by decide +kernel
  rw [e1] at up
  have mm : (bnd m + 2) * l.length ≤ (bnd m + 2) * 41 := Nat.mul_le_mul_left _ hl
  unfold listText
  rw [strLen_append, e2]
  unfold bnd
  omega
theorem sh_tup {m : Nat} {l : List D} (hl : l.length ≤ 41) (h : ∀ x ∈ l, ∃ p, toPy x = some p ∧ ShP m p) : ∃ p, toPy (.tup l) = some p ∧ ShP (m + 1) p := by
  obtain ⟨ps, e, a, b, c, d⟩ := sh_all h
  refine ⟨.tuple ps, by simp only [toPy, e]; rfl, ⟨by simp only [PyData.showable, a], ?_, by simp only [PyData.depth]; omega⟩⟩
  simp only [PyData.shown]
  have e1 : (Str.ofString "(").length = 1 := by decide +kernel
  have e4 : (Str.ofString (if ((PyData.shownAll ps).length == 1) = true then ",)" else ")")).length ≤ 2 := by split <;> decide +kernel
  have pu := piled_up (b := bnd m) _ b
  rw [c] at pu
  have mm : (bnd m + 2) * l.length ≤ (bnd m + 2) * 41 := Nat.mul_le_mul_left _ hl
  cases hz : PyData.shownAll ps with
  | nil =>
    have : tupleText ([] : List Str) = "()" := rfl
    have e5 : (("()" : String) : Str).length = 2 := by decide +kernel
    have := bnd_lo (m + 1)
    rw [show tupleText ([] : List Str) = (("()" : String) : Str) from rfl, e5]
    omega
  | cons z zs =>
    rw [← hz]
    have j := join_length_add (PyData.shownAll ps) (by rw [hz]; nofun)
    unfold tupleText
    rw [strLen_append, strLen_append]
    unfold bnd
    omega
theorem sh_non {m : Nat} : ∃ p, toPy .non = some p ∧ ShP m p := ⟨.none, by simp only [toPy], ⟨rfl, Nat.le_trans (by decide +kernel) (bnd_lo m), Nat.zero_le _⟩⟩
theorem sh_int {m : Nat} {i : Int} (h0 : 0 ≤ i) (h1 : i < 1000000000000000000000) : ∃ p, toPy (.int i) = some p ∧ ShP m p := ⟨.int i, by simp only [toPy], ⟨(show100 h0 h1).1, Nat.le_trans (show100 h0 h1).2 (bnd_lo m), Nat.zero_le _⟩⟩
theorem repr_of {m : Nat} {x : D} (hm : m ≤ 2) (h : ∃ p, toPy x = some p ∧ ShP m p) : ∃ s : Str, reprD [x] = some (.str s) := by
  obtain ⟨p, e, q⟩ := h
  have b : bnd m ≤ 100000 := by
    match m, hm with
    | 0, _ => decide
    | 1, _ => decide
    | 2, _ => decide
  exact ⟨p.shown, by unfold reprD; dsimp only; rw [e]; exact if_pos ⟨q.s, Nat.le_trans q.l b, by have := q.d; omega⟩⟩
theorem bn_mi {N : Nat} {a b : Pr} (h1 : Bn N a) (h2 : Bn N b) : Bn N (mi a b) := by
  cases a <;> cases b <;> intro n z <;> simp only [mi] at z <;> first | (cases z; done) | skip
  · exact h2 n z
  · exact h1 n z
  · rename_i x y
    have := h1 x rfl
    cases z
    omega
theorem bn_ad {N M : Nat} {a b : Pr} (h1 : Bn N a) (h2 : Bn M b) : Bn (N + M) (ad a b) := by
  cases a <;> cases b <;> intro n z <;> simp only [ad] at z <;> first | (cases z; done) | skip
  rename_i x y
  have := h1 x rfl
  have := h2 y rfl
  cases z
  omega
theorem bn_mn {N : Nat} {h : Nat → Pr} (hb : ∀ c, Bn N (h c)) : ∀ k, Bn N (mn k h)
  | 0 => fun _ z => nomatch z
  | k + 1 => by rw [mn_succ]; exact bn_mi (bn_mn hb k) (hb k)
theorem repr_tb {k : Nat} {f : Tb} (hk : k ≤ 5) (hb : ∀ i j, Bn 1000000000000000000000 (f i j)) : ∃ s : Str, reprD [tupR (tb k f)] = some (.str s) := by
  rw [tupR_tb]
  refine repr_of (m := 2) (by decide) (sh_tup (by rw [List.length_map, List.length_range]; omega) fun x m => ?_)
  obtain ⟨i, _, rfl⟩ := List.mem_map.mp m
  refine sh_tup (by rw [row_len]; omega) fun y my => ?_
  obtain ⟨j, _, rfl⟩ := List.mem_map.mp my
  cases e : f i j with
  | none => exact sh_non
  | some n => exact sh_int (by omega) (by have := hb i j n e; omega)
section
variable {R : Rs} {ix : R.ix} {g : R.α} {k : Nat} {f h : Tb}
theorem m_plain (k5 : k ≤ 5) : F_plainL ix g [lstR (tb k f)] = .ok (tupR (tb k f)) g := by
  unfold F_plainL
  refine r_run (r_ret (r_callL (r_cons (r_lc (ys := (List.range k).map fun i => .tup (row k (f i))) (r_iL (r_var (by rw [lstR_tb]; rfl))) (lcD_map (fun i => .lst (row k (f i))) _ (fun (i : Nat) => [.dat (lstR (tb k f)), .dat (.lst (row k (f i)))]) _ (fun i _ => rfl) fun i _ => r_callL (r_cons r_var r_nil) rfl) (by rw [List.length_map, List.length_range]; omega)) r_nil) (by rw [tupR_tb]; rfl)))
end
end DL

set_option maxHeartbeats 1000000
namespace DL
open PySem PySem.Spec PyProof.Rows L2
/-! ## pairs of letters -/
def mkP (q : Nat × Nat) : D := .tup [.int q.1, .int q.2]
def pyP (q : Nat × Nat) : PyData := .tuple [.int q.1, .int q.2]
def prF (qs : List (Nat × Nat)) : Tb := fun i j => if (i, j) ∈ qs then some 0 else none
theorem toPy_mkP (q : Nat × Nat) : toPy (mkP q) = some (pyP q) := by simp only [mkP, toPy, toPyL, pyP]; rfl
theorem toPyL_mkP : ∀ qs : List (Nat × Nat), toPyL (qs.map mkP) = some (qs.map pyP)
  | [] => by simp only [List.map_nil, toPyL]
  | q :: qs => by simp only [List.map_cons, toPyL, toPy_mkP, toPyL_mkP qs]
theorem eqv_pyP (p q : Nat × Nat) : PyData.eqv (pyP p) (pyP q) = decide (p = q) := by
  obtain ⟨a, b⟩ := p
  obtain ⟨c, d⟩ := q
  simp only [pyP, PyData.eqv, PyData.eqvAll, Prod.mk.injEq]
  by_cases h1 : a = c <;> by_cases h2 : b = d <;> simp [h1, h2] <;> omega
theorem any_pyP (p : Nat × Nat) (qs : List (Nat × Nat)) : ((qs.map pyP).any fun z => PyData.eqv z (pyP p)) = decide (p ∈ qs) := by
  induction qs with
  | nil => simp
  | cons q qs ih =>
    rw [List.map_cons, List.any_cons, ih, eqv_pyP]
    by_cases h : q = p
    · subst h; simp
    · have h' : ¬ p = q := fun z => h z.symm
      by_cases h2 : p ∈ qs <;> simp [h, h', h2]
theorem shaped_pyP (p : Nat × Nat) : SeqAt.shaped (pyP p) = true := by
  simp only [pyP, SeqAt.shaped, PyData.canLay0, PyData.canLayAll0, PyData.depth, PyData.depthAll]
  decide
theorem shaped_all (qs : List (Nat × Nat)) : PyData.canLayAll0 (qs.map pyP) = true ∧ PyData.depthAll (qs.map pyP) ≤ 1 := by
  induction qs with
  | nil => simp only [List.map_nil, PyData.canLayAll0, PyData.depthAll]; decide
  | cons q qs ih =>
    have e1 : (pyP q).canLay0 = true := by simp only [pyP, PyData.canLay0, PyData.canLayAll0]; decide
    have e2 : (pyP q).depth = 1 := by simp only [pyP, PyData.depth, PyData.depthAll]; decide
    constructor
    · simp only [List.map_cons, PyData.canLayAll0, e1, ih.1, Bool.and_self]
    · simp only [List.map_cons, PyData.depthAll, e2]
      have := ih.2
      omega
theorem shapedT (qs : List (Nat × Nat)) : SeqAt.shaped (.tuple (qs.map pyP)) = true := by
  obtain ⟨a, b⟩ := shaped_all qs
  have e1 : (PyData.tuple (qs.map pyP)).canLay0 = true := by simp only [PyData.canLay0, a]
  have e2 : (PyData.tuple (qs.map pyP)).depth ≤ 64 := by simp only [PyData.depth]; omega
  unfold SeqAt.shaped
  rw [e1, decide_eq_true e2]
  rfl
theorem shapedL (qs : List (Nat × Nat)) : SeqAt.shaped (.list (qs.map pyP)) = true := by
  obtain ⟨a, b⟩ := shaped_all qs
  have e1 : (PyData.list (qs.map pyP)).canLay0 = true := by simp only [PyData.canLay0, a]
  have e2 : (PyData.list (qs.map pyP)).depth ≤ 64 := by simp only [PyData.depth]; omega
  unfold SeqAt.shaped
  rw [e1, decide_eq_true e2]
  rfl
theorem inPT_mk (p : Nat × Nat) (qs : List (Nat × Nat)) : inPT (.tup [.int p.1, .int p.2]) (.tup (qs.map mkP)) = some (.bl (decide (p ∈ qs))) := by
  have e1 := toPy_mkP p
  unfold mkP at e1
  unfold inPT
  have e2 : toPy (.tup (qs.map mkP)) = some (.tuple (qs.map pyP)) := by simp only [toPy, toPyL_mkP]; rfl
  rw [e1, e2]
  dsimp only
  rw [if_pos ⟨shaped_pyP p, shapedT qs⟩, any_pyP]
theorem inP_mk (p : Nat × Nat) (qs : List (Nat × Nat)) : inP (.tup [.int p.1, .int p.2]) (.lst (qs.map mkP)) = some (.bl (decide (p ∈ qs))) := by
  have e1 := toPy_mkP p
  unfold mkP at e1
  unfold inP
  have e2 : toPy (.lst (qs.map mkP)) = some (.list (qs.map pyP)) := by simp only [toPy, toPyL_mkP]; rfl
  rw [e1, e2]
  dsimp only
  rw [if_pos ⟨shaped_pyP p, shapedL qs⟩, any_pyP]
section
variable {R : Rs} {ix : R.ix} {g g1 g2 : R.α} {C_Table C_InvalidNumber : Addr} {k : Nat} {sl : List SV} {d z : D}
theorem r_raise {C : Addr} {x : Str} {f : FE R} (h : f sl g = .ok d g1) : sRaise C x f sl g = .err C [(x, d)] g1 := by unfold sRaise; rw [h, toS_ok]
theorem r_seqE {C : Addr} {fs : List (Str × D)} {a b : FS R} (h : a sl g = .err C fs g1) : sSeq a b sl g = .err C fs g1 := by unfold sSeq; rw [h]; rfl
theorem r_runE {n : Nat} {fb : R.ix → FS R} {ds : List D} {C : Addr} {fs : List (Str × D)} (h : fb ix (startS n ds) g = .err C fs g1) : runF n fb ix g ds = .err C fs g1 := by unfold runF; rw [h]; rfl
theorem r_exprE {C : Addr} {fs : List (Str × D)} {f : FE R} (h : f sl g = .err C fs g1) : sExpr f sl g = .err C fs g1 := by unfold sExpr; rw [h]; rfl
theorem r_retE {C : Addr} {fs : List (Str × D)} {f : FE R} (h : f sl g = .err C fs g1) : sRet f sl g = .err C fs g1 := by unfold sRet; rw [h]; rfl
theorem r_callE {n : Nat} {F : R.α → List D → Rr R.α D} {r : FA R} {xs : List D} {o : Rr R.α D} (ha : r sl g = .ok xs g1) (hF : F g1 xs = o) (hn : xs.length = n) : fCall n F [] r sl g = o := by unfold fCall; rw [ha, bind_ok, List.append_nil, if_pos hn, hF]
theorem r_cmO {C : Addr} {F : R.α → List D → Rr R.α D} {r : FA R} {x : D} {o : Rr R.α D} (hr : r sl g = .ok [x] g1) (hF : F g1 [.hd C, x] = o) : fCm C 2 F r sl g = o := by
  unfold fCm
  rw [hr, bind_ok, if_pos (show [x].length + 1 = 2 from rfl), hF]
theorem r_cmPO {C : Addr} {F : R.α → List D → Rr R.α D} {r : FA R} {x : D} {es : List D} {o : Rr R.α D} (hr : r sl g = .ok (x :: es) g1) (hF : F g1 [.hd C, x, .tup es] = o) (hl : es.length ≤ 100000) : fCmP C F r sl g = o := by
  unfold fCmP
  rw [hr, bind_ok]
  dsimp only
  rw [if_pos hl, hF]
theorem r_ref {CN : Addr} {f : FE R} {s : Str} (h : f sl g = .err CN [("value", d)] g1) (e : reprD [d] = some (.str s)) : fRef CN f sl g = .ok (.lst [.str s]) g1 := by
  unfold fRef
  rw [h]
  dsimp only
  rw [if_pos ⟨rfl, rfl⟩, e]
theorem fin_ret (a : FE R) (sl : List SV) (g : R.α) : (sRet a sl g).fin = a sl g := by
  unfold sRet
  cases a sl g <;> rfl
/-! ### good and bad pairs -/
theorem m_letter {i : Nat} (h : i < k) : F_is_letter ix g [.int i, .int k] = .ok (.bl true) g := by
  unfold F_is_letter
  have hb := m_between (R := R) (ix := ix) (g := g) (i : Int) 0 ((k : Int) - 1)
  rw [decide_eq_true (show (0 : Int) ≤ i by omega), decide_eq_true (show (i : Int) ≤ (k : Int) - 1 by omega)] at hb
  exact r_run (r_ret (r_call (r_cons r_var (r_cons r_c (r_cons (r_op r_var r_c rfl) r_nil))) hb))
theorem m_pair {q : Nat × Nat} (h1 : q.1 < k) (h2 : q.2 < k) : F_is_pair ix g [mkP q, .int k] = .ok (.bl true) g := by
  have e1 := m_letter (R := R) (ix := ix) (g := g) h1
  have e2 := m_letter (R := R) (ix := ix) (g := g) h2
  simp [F_is_pair, mkP, e1, e2, L2.atI, ixN, runF, runI, startS, startI, Ro.fin, Ro.fini, Ro.seq, sRet, sRetN, sRetMu, sSeq, sNx, sIf, sSet, sExpr, sNever, sNewL, sNewLs, sApp, sExt, sFldS, sPar, sAsgT, sFrz, MO.d, putFD, Rr.bind, Rr.toS, Rr.noerr, nerr, fVar, fC, fOp, fUn, fNil, fCons, fLst, fTup, fCallL, fNot, fAnd, fOr, fIf, fChain, fCall, fMeth, fFld, fProp, fMake, fMakeS, fDGet, fDisp, fPs, mergeKD, putKD, valD, tVal, tNotF, tAndF, tOrF, tYesF, iL, iT, iLT, iR1, iR2, iEn, enumD, sFor, gN, gT, gsNil, gsCons, lift1, lift2, liftL, addI, subI, ltI, leI, gtI, geI, mulI, modI, divI, powI, negI, dI, dIc, isN, notN, D.isNon, eqD, neD, eqS, catL, catT, repL, ixL, ixT, lenD, intD, absD, min2D, max2D, listD, tupleD, allD, blL, isiL, isiT0, kt0, kt1, tyNm, subT, eqE]
abbrev pgB (C_InvalidNumber : Addr) (ix : R.ix) : FS R := (sIf (tNotF (tVal (fCall 2 (F_is_pair ix) [] (fCons (fVar 3) (fCons (fVar 1) fNil))))) (sRaise C_InvalidNumber "value" (fVar 3)) sNx)
theorem pg_loop {s0 s2 s4 s5 : SV} : ∀ (qs : List (Nat × Nat)) (s3 : SV), (∀ q ∈ qs, q.1 < k ∧ q.2 < k) → ∃ s3', ∀ r : List D, forD (gN 3) (pgB C_InvalidNumber ix) (qs.map mkP ++ r) [s0, .dat (.int k), s2, s3, s4, s5] g = forD (gN 3) (pgB C_InvalidNumber ix) r [s0, .dat (.int k), s2, s3', s4, s5] g
  | [], s3, _ => ⟨s3, fun r => rfl⟩
  | q :: qs, s3, h => by
    obtain ⟨h1, h2⟩ := h q List.mem_cons_self
    obtain ⟨s3', e⟩ := pg_loop (s0 := s0) (s2 := s2) (s4 := s4) (s5 := s5) qs (.dat (mkP q)) fun p m => h p (List.mem_cons_of_mem _ m)
    refine ⟨s3', fun r => ?_⟩
    rw [List.map_cons, List.cons_append, forD]
    have b : pgB C_InvalidNumber ix [s0, .dat (.int k), s2, .dat (mkP q), s4, s5] g = .nx [s0, .dat (.int k), s2, .dat (mkP q), s4, s5] g := r_sif_f (r_notF (r_val (b1 := true) (r_call (r_cons r_var (r_cons r_var r_nil)) (m_pair h1 h2)))) r_nx
    show (match pgB C_InvalidNumber ix [s0, .dat (.int k), s2, .dat (mkP q), s4, s5] g with
      | .nx sl g => forD (gN 3) (pgB C_InvalidNumber ix) (qs.map mkP ++ r) sl g
      | .ct sl g => forD (gN 3) (pgB C_InvalidNumber ix) (qs.map mkP ++ r) sl g
      | .bk sl g => .nx sl g
      | .rt d g => .rt d g
      | .err C fs g => .err C fs g
      | .bad => .bad) = _
    rw [b]
    exact e r
theorem m_pairs {qs : List (Nat × Nat)} (h1 : 1 ≤ k) (h2 : k ≤ 5) (h : ∀ q ∈ qs, q.1 < k ∧ q.2 < k) : F_Table_pairs C_InvalidNumber C_Table ix g [.hd C_Table, .int k, .tup (qs.map mkP)] = .ok (tD C_Table k (prF qs)) g := by
  unfold F_Table_pairs
  obtain ⟨s3, e⟩ := pg_loop (R := R) (ix := ix) (g := g) (C_InvalidNumber := C_InvalidNumber) (k := k) (s0 := .dat (.hd C_Table)) (s2 := .dat (.tup (qs.map mkP))) (s4 := .un) (s5 := .un) qs .un h
  have e := e []
  rw [List.append_nil] at e
  refine r_run (r_seq (r_expr (r_call (r_cons r_var r_nil) (m_chl (by omega) (by omega)))) (r_seq (sl1 := [.dat (.hd C_Table), .dat (.int k), .dat (.tup (qs.map mkP)), s3, .un, .un]) (g1 := g) (r_for (xs := qs.map mkP) rfl e) (r_ret ?_)))
  refine r_makeV rfl (r_make (r_cons (r_lc (ys := (List.range k).map fun i => .lst (row k (prF qs i))) (by rw [r_range (n := k) (r_cons r_var r_nil) (by omega), rng_eq]) (lcD_map _ _ (fun (i : Nat) => [.dat (.hd C_Table), .dat (.int k), .dat (.tup (qs.map mkP)), s3, .un, .dat (.int i)]) _ (fun i _ => rfl) fun i _ => ?_) (by simp; omega)) r_nil) (m_init h1 h2))
  refine r_lc (ys := row k (prF qs i)) (by rw [r_range (n := k) (r_cons r_var r_nil) (by omega), rng_eq]) (lcD_map _ (fun j => toP (prF qs i j)) (fun (j : Nat) => [.dat (.hd C_Table), .dat (.int k), .dat (.tup (qs.map mkP)), s3, .dat (.int j), .dat (.int i)]) _ (fun j _ => rfl) fun j _ => ?_) (by rw [row_len]; omega)
  have ei := inPT_mk (i, j) qs
  dsimp only at ei
  by_cases c : (i, j) ∈ qs
  · simp [prF, toP, c, ei, runF, runI, startS, startI, Ro.fin, Ro.fini, Ro.seq, sRet, sRetN, sRetMu, sSeq, sNx, sIf, sSet, sExpr, sNever, sNewL, sNewLs, sApp, sExt, sFldS, sPar, sAsgT, sFrz, MO.d, putFD, Rr.bind, Rr.toS, Rr.noerr, nerr, fVar, fC, fOp, fUn, fNil, fCons, fLst, fTup, fCallL, fNot, fAnd, fOr, fIf, fChain, fCall, fMeth, fFld, fProp, fMake, fMakeS, fDGet, fDisp, fPs, mergeKD, putKD, valD, tVal, tNotF, tAndF, tOrF, tYesF, iL, iT, iLT, iR1, iR2, iEn, enumD, sFor, gN, gT, gsNil, gsCons, lift1, lift2, liftL, addI, subI, ltI, leI, gtI, geI, mulI, modI, divI, powI, negI, dI, dIc, isN, notN, D.isNon, eqD, neD, eqS, catL, catT, repL, ixL, ixT, lenD, intD, absD, min2D, max2D, listD, tupleD, allD, blL, isiL, isiT0, kt0, kt1, tyNm, subT, eqE]
  · simp [prF, toP, c, ei, runF, runI, startS, startI, Ro.fin, Ro.fini, Ro.seq, sRet, sRetN, sRetMu, sSeq, sNx, sIf, sSet, sExpr, sNever, sNewL, sNewLs, sApp, sExt, sFldS, sPar, sAsgT, sFrz, MO.d, putFD, Rr.bind, Rr.toS, Rr.noerr, nerr, fVar, fC, fOp, fUn, fNil, fCons, fLst, fTup, fCallL, fNot, fAnd, fOr, fIf, fChain, fCall, fMeth, fFld, fProp, fMake, fMakeS, fDGet, fDisp, fPs, mergeKD, putKD, valD, tVal, tNotF, tAndF, tOrF, tYesF, iL, iT, iLT, iR1, iR2, iEn, enumD, sFor, gN, gT, gsNil, gsCons, lift1, lift2, liftL, addI, subI, ltI, leI, gtI, geI, mulI, modI, divI, powI, negI, dI, dIc, isN, notN, D.isNon, eqD, neD, eqS, catL, catT, repL, ixL, ixT, lenD, intD, absD, min2D, max2D, listD, tupleD, allD, blL, isiL, isiT0, kt0, kt1, tyNm, subT, eqE]
theorem m_pairsE {qs : List (Nat × Nat)} {r : List D} {x : D} (h1 : 1 ≤ k) (h2 : k ≤ 5) (h : ∀ q ∈ qs, q.1 < k ∧ q.2 < k) (hx : F_is_pair ix g [x, .int k] = .ok (.bl false) g) : F_Table_pairs C_InvalidNumber C_Table ix g [.hd C_Table, .int k, .tup (qs.map mkP ++ x :: r)] = .err C_InvalidNumber [("value", x)] g := by
  unfold F_Table_pairs
  obtain ⟨s3, e⟩ := pg_loop (R := R) (ix := ix) (g := g) (C_InvalidNumber := C_InvalidNumber) (k := k) (s0 := .dat (.hd C_Table)) (s2 := .dat (.tup (qs.map mkP ++ x :: r))) (s4 := .un) (s5 := .un) qs .un h
  have e := e (x :: r)
  have b : pgB C_InvalidNumber ix [.dat (.hd C_Table), .dat (.int k), .dat (.tup (qs.map mkP ++ x :: r)), .dat x, .un, .un] g = .err C_InvalidNumber [("value", x)] g := r_sif_t (r_notF (r_val (b1 := false) (r_call (r_cons r_var (r_cons r_var r_nil)) hx))) (r_raise r_var)
  have f : forD (gN 3) (pgB C_InvalidNumber ix) (x :: r) [.dat (.hd C_Table), .dat (.int k), .dat (.tup (qs.map mkP ++ x :: r)), s3, .un, .un] g = .err C_InvalidNumber [("value", x)] g := by
    rw [forD]
    show (match pgB C_InvalidNumber ix [.dat (.hd C_Table), .dat (.int k), .dat (.tup (qs.map mkP ++ x :: r)), .dat x, .un, .un] g with
      | .nx sl g => forD (gN 3) (pgB C_InvalidNumber ix) r sl g
      | .ct sl g => forD (gN 3) (pgB C_InvalidNumber ix) r sl g
      | .bk sl g => .nx sl g
      | .rt d g => .rt d g
      | .err C fs g => .err C fs g
      | .bad => .bad) = _
    rw [b]
  exact r_runE (r_seq (r_expr (r_call (r_cons r_var r_nil) (m_chl (by omega) (by omega)))) (r_seqE (r_for (xs := qs.map mkP ++ x :: r) rfl (e.trans f))))
end
end DL

set_option maxHeartbeats 1000000
namespace DL
open PySem PySem.Spec PyProof.Rows L2
section
variable {R : Rs} {ix : R.ix} {g g1 g2 : R.α} {C_Table C_InvalidNumber : Addr} {k : Nat} {sl : List SV} {d z : D}
/-! ### numbers of letters that are none -/
abbrev nums : List D := [.int 0, .int 6, .int (-1), .bl true, .non, .str "2", .tup [.int 2], .lst [], .int 1000000000000000000000000000000]
theorem m_num (x : D) (h : x ∈ nums) : F_is_between ix g [x, .int 1, .int 5] = .ok (.bl false) g := by
  simp only [nums, List.mem_cons, List.not_mem_nil, or_false] at h
  rcases h with rfl | rfl | rfl | rfl | rfl | rfl | rfl | rfl | rfl
  · rw [m_between]; rfl
  · rw [m_between]; rfl
  · rw [m_between]; rfl
  · simp [F_is_between, F_is_whole, runF, runI, startS, startI, Ro.fin, Ro.fini, Ro.seq, sRet, sRetN, sRetMu, sSeq, sNx, sIf, sSet, sExpr, sNever, sNewL, sNewLs, sApp, sExt, sFldS, sPar, sAsgT, sFrz, MO.d, putFD, Rr.bind, Rr.toS, Rr.noerr, nerr, fVar, fC, fOp, fUn, fNil, fCons, fLst, fTup, fCallL, fNot, fAnd, fOr, fIf, fChain, fCall, fMeth, fFld, fProp, fMake, fMakeS, fDGet, fDisp, fPs, mergeKD, putKD, valD, tVal, tNotF, tAndF, tOrF, tYesF, iL, iT, iLT, iR1, iR2, iEn, enumD, sFor, gN, gT, gsNil, gsCons, lift1, lift2, liftL, addI, subI, ltI, leI, gtI, geI, mulI, modI, divI, powI, negI, dI, dIc, isN, notN, D.isNon, eqD, neD, eqS, catL, catT, repL, ixL, ixT, lenD, intD, absD, min2D, max2D, listD, tupleD, allD, blL, isiL, isiT0, kt0, kt1, tyNm, subT, eqE]
  · simp [F_is_between, F_is_whole, runF, runI, startS, startI, Ro.fin, Ro.fini, Ro.seq, sRet, sRetN, sRetMu, sSeq, sNx, sIf, sSet, sExpr, sNever, sNewL, sNewLs, sApp, sExt, sFldS, sPar, sAsgT, sFrz, MO.d, putFD, Rr.bind, Rr.toS, Rr.noerr, nerr, fVar, fC, fOp, fUn, fNil, fCons, fLst, fTup, fCallL, fNot, fAnd, fOr, fIf, fChain, fCall, fMeth, fFld, fProp, fMake, fMakeS, fDGet, fDisp, fPs, mergeKD, putKD, valD, tVal, tNotF, tAndF, tOrF, tYesF, iL, iT, iLT, iR1, iR2, iEn, enumD, sFor, gN, gT, gsNil, gsCons, lift1, lift2, liftL, addI, subI, ltI, leI, gtI, geI, mulI, modI, divI, powI, negI, dI, dIc, isN, notN, D.isNon, eqD, neD, eqS, catL, catT, repL, ixL, ixT, lenD, intD, absD, min2D, max2D, listD, tupleD, allD, blL, isiL, isiT0, kt0, kt1, tyNm, subT, eqE]
  · simp [F_is_between, F_is_whole, runF, runI, startS, startI, Ro.fin, Ro.fini, Ro.seq, sRet, sRetN, sRetMu, sSeq, sNx, sIf, sSet, sExpr, sNever, sNewL, sNewLs, sApp, sExt, sFldS, sPar, sAsgT, sFrz, MO.d, putFD, Rr.bind, Rr.toS, Rr.noerr, nerr, fVar, fC, fOp, fUn, fNil, fCons, fLst, fTup, fCallL, fNot, fAnd, fOr, fIf, fChain, fCall, fMeth, fFld, fProp, fMake, fMakeS, fDGet, fDisp, fPs, mergeKD, putKD, valD, tVal, tNotF, tAndF, tOrF, tYesF, iL, iT, iLT, iR1, iR2, iEn, enumD, sFor, gN, gT, gsNil, gsCons, lift1, lift2, liftL, addI, subI, ltI, leI, gtI, geI, mulI, modI, divI, powI, negI, dI, dIc, isN, notN, D.isNon, eqD, neD, eqS, catL, catT, repL, ixL, ixT, lenD, intD, absD, min2D, max2D, listD, tupleD, allD, blL, isiL, isiT0, kt0, kt1, tyNm, subT, eqE]
  · simp [F_is_between, F_is_whole, runF, runI, startS, startI, Ro.fin, Ro.fini, Ro.seq, sRet, sRetN, sRetMu, sSeq, sNx, sIf, sSet, sExpr, sNever, sNewL, sNewLs, sApp, sExt, sFldS, sPar, sAsgT, sFrz, MO.d, putFD, Rr.bind, Rr.toS, Rr.noerr, nerr, fVar, fC, fOp, fUn, fNil, fCons, fLst, fTup, fCallL, fNot, fAnd, fOr, fIf, fChain, fCall, fMeth, fFld, fProp, fMake, fMakeS, fDGet, fDisp, fPs, mergeKD, putKD, valD, tVal, tNotF, tAndF, tOrF, tYesF, iL, iT, iLT, iR1, iR2, iEn, enumD, sFor, gN, gT, gsNil, gsCons, lift1, lift2, liftL, addI, subI, ltI, leI, gtI, geI, mulI, modI, divI, powI, negI, dI, dIc, isN, notN, D.isNon, eqD, neD, eqS, catL, catT, repL, ixL, ixT, lenD, intD, absD, min2D, max2D, listD, tupleD, allD, blL, isiL, isiT0, kt0, kt1, tyNm, subT, eqE]
  · simp [F_is_between, F_is_whole, runF, runI, startS, startI, Ro.fin, Ro.fini, Ro.seq, sRet, sRetN, sRetMu, sSeq, sNx, sIf, sSet, sExpr, sNever, sNewL, sNewLs, sApp, sExt, sFldS, sPar, sAsgT, sFrz, MO.d, putFD, Rr.bind, Rr.toS, Rr.noerr, nerr, fVar, fC, fOp, fUn, fNil, fCons, fLst, fTup, fCallL, fNot, fAnd, fOr, fIf, fChain, fCall, fMeth, fFld, fProp, fMake, fMakeS, fDGet, fDisp, fPs, mergeKD, putKD, valD, tVal, tNotF, tAndF, tOrF, tYesF, iL, iT, iLT, iR1, iR2, iEn, enumD, sFor, gN, gT, gsNil, gsCons, lift1, lift2, liftL, addI, subI, ltI, leI, gtI, geI, mulI, modI, divI, powI, negI, dI, dIc, isN, notN, D.isNon, eqD, neD, eqS, catL, catT, repL, ixL, ixT, lenD, intD, absD, min2D, max2D, listD, tupleD, allD, blL, isiL, isiT0, kt0, kt1, tyNm, subT, eqE]
  · rw [m_between]; rfl
theorem m_chlE {x : D} (h : x ∈ nums) : F_check_letters C_InvalidNumber C_Table ix g [x] = .err C_InvalidNumber [("value", x)] g := by
  unfold F_check_letters
  exact r_runE (r_sif_t (r_notF (r_val (b1 := false) (r_call (r_cons r_var (r_cons r_c (r_cons r_c r_nil))) (m_num x h)))) (r_raise r_var))
theorem m_likE {x : D} (h : x ∈ nums) : F_Table_likeness C_InvalidNumber C_Table ix g [.hd C_Table, x] = .err C_InvalidNumber [("value", x)] g := by
  unfold F_Table_likeness
  exact r_runE (r_seqE (r_exprE (r_callE (r_cons r_var r_nil) (m_chlE h) rfl)))
theorem m_silE {x : D} (h : x ∈ nums) : F_Table_silence C_InvalidNumber C_Table ix g [.hd C_Table, x] = .err C_InvalidNumber [("value", x)] g := by
  unfold F_Table_silence
  exact r_runE (r_seqE (r_exprE (r_callE (r_cons r_var r_nil) (m_chlE h) rfl)))
theorem m_parE {x y : D} (h : x ∈ nums) : F_Table_pairs C_InvalidNumber C_Table ix g [.hd C_Table, x, y] = .err C_InvalidNumber [("value", x)] g := by
  unfold F_Table_pairs
  exact r_runE (r_seqE (r_exprE (r_callE (r_cons r_var r_nil) (m_chlE h) rfl)))
/-! ### pairs that are none -/
theorem m_letterD (i : Int) : F_is_letter ix g [.int i, .int k] = .ok (.bl (decide (0 ≤ i) && decide (i ≤ (k : Int) - 1))) g := by
  unfold F_is_letter
  exact r_run (r_ret (r_call (r_cons r_var (r_cons r_c (r_cons (r_op r_var r_c rfl) r_nil))) (m_between (R := R) (ix := ix) (g := g) i 0 ((k : Int) - 1))))
abbrev oddsA (k : Nat) : List D := [.tup [.int 0, .int k], .tup [.int k, .int 0], .tup [.int (-1), .int 0], .tup [.int 0], .tup [.int 0, .int 0, .int 0], .lst [.int 0, .int 0], .tup [.bl true, .int 0], .non, .int 0, .str "00", .tup [.int 0, .bl true], .tup [.int 0, .int (-1)]]
abbrev oddsB : List D := [.tup [.non, .int 0], .tup [.str "0", .int 0], .tup [.lst [], .int 0]]
theorem m_letterB : F_is_letter ix g [.bl true, .int k] = .ok (.bl false) g := by simp [F_is_letter, F_is_between, F_is_whole, runF, runI, startS, startI, Ro.fin, Ro.fini, Ro.seq, sRet, sRetN, sRetMu, sSeq, sNx, sIf, sSet, sExpr, sNever, sNewL, sNewLs, sApp, sExt, sFldS, sPar, sAsgT, sFrz, MO.d, putFD, Rr.bind, Rr.toS, Rr.noerr, nerr, fVar, fC, fOp, fUn, fNil, fCons, fLst, fTup, fCallL, fNot, fAnd, fOr, fIf, fChain, fCall, fMeth, fFld, fProp, fMake, fMakeS, fDGet, fDisp, fPs, mergeKD, putKD, valD, tVal, tNotF, tAndF, tOrF, tYesF, iL, iT, iLT, iR1, iR2, iEn, enumD, sFor, gN, gT, gsNil, gsCons, lift1, lift2, liftL, addI, subI, ltI, leI, gtI, geI, mulI, modI, divI, powI, negI, dI, dIc, isN, notN, D.isNon, eqD, neD, eqS, catL, catT, repL, ixL, ixT, lenD, intD, absD, min2D, max2D, listD, tupleD, allD, blL, isiL, isiT0, kt0, kt1, tyNm, subT, eqE]
theorem m_letterN : F_is_letter ix g [.non, .int k] = .ok (.bl false) g := by simp [F_is_letter, F_is_between, F_is_whole, runF, runI, startS, startI, Ro.fin, Ro.fini, Ro.seq, sRet, sRetN, sRetMu, sSeq, sNx, sIf, sSet, sExpr, sNever, sNewL, sNewLs, sApp, sExt, sFldS, sPar, sAsgT, sFrz, MO.d, putFD, Rr.bind, Rr.toS, Rr.noerr, nerr, fVar, fC, fOp, fUn, fNil, fCons, fLst, fTup, fCallL, fNot, fAnd, fOr, fIf, fChain, fCall, fMeth, fFld, fProp, fMake, fMakeS, fDGet, fDisp, fPs, mergeKD, putKD, valD, tVal, tNotF, tAndF, tOrF, tYesF, iL, iT, iLT, iR1, iR2, iEn, enumD, sFor, gN, gT, gsNil, gsCons, lift1, lift2, liftL, addI, subI, ltI, leI, gtI, geI, mulI, modI, divI, powI, negI, dI, dIc, isN, notN, D.isNon, eqD, neD, eqS, catL, catT, repL, ixL, ixT, lenD, intD, absD, min2D, max2D, listD, tupleD, allD, blL, isiL, isiT0, kt0, kt1, tyNm, subT, eqE]
theorem m_letterS : F_is_letter ix g [.str "0", .int k] = .ok (.bl false) g := by simp [F_is_letter, F_is_between, F_is_whole, runF, runI, startS, startI, Ro.fin, Ro.fini, Ro.seq, sRet, sRetN, sRetMu, sSeq, sNx, sIf, sSet, sExpr, sNever, sNewL, sNewLs, sApp, sExt, sFldS, sPar, sAsgT, sFrz, MO.d, putFD, Rr.bind, Rr.toS, Rr.noerr, nerr, fVar, fC, fOp, fUn, fNil, fCons, fLst, fTup, fCallL, fNot, fAnd, fOr, fIf, fChain, fCall, fMeth, fFld, fProp, fMake, fMakeS, fDGet, fDisp, fPs, mergeKD, putKD, valD, tVal, tNotF, tAndF, tOrF, tYesF, iL, iT, iLT, iR1, iR2, iEn, enumD, sFor, gN, gT, gsNil, gsCons, lift1, lift2, liftL, addI, subI, ltI, leI, gtI, geI, mulI, modI, divI, powI, negI, dI, dIc, isN, notN, D.isNon, eqD, neD, eqS, catL, catT, repL, ixL, ixT, lenD, intD, absD, min2D, max2D, listD, tupleD, allD, blL, isiL, isiT0, kt0, kt1, tyNm, subT, eqE]
theorem m_letterL : F_is_letter ix g [.lst [], .int k] = .ok (.bl false) g := by simp [F_is_letter, F_is_between, F_is_whole, runF, runI, startS, startI, Ro.fin, Ro.fini, Ro.seq, sRet, sRetN, sRetMu, sSeq, sNx, sIf, sSet, sExpr, sNever, sNewL, sNewLs, sApp, sExt, sFldS, sPar, sAsgT, sFrz, MO.d, putFD, Rr.bind, Rr.toS, Rr.noerr, nerr, fVar, fC, fOp, fUn, fNil, fCons, fLst, fTup, fCallL, fNot, fAnd, fOr, fIf, fChain, fCall, fMeth, fFld, fProp, fMake, fMakeS, fDGet, fDisp, fPs, mergeKD, putKD, valD, tVal, tNotF, tAndF, tOrF, tYesF, iL, iT, iLT, iR1, iR2, iEn, enumD, sFor, gN, gT, gsNil, gsCons, lift1, lift2, liftL, addI, subI, ltI, leI, gtI, geI, mulI, modI, divI, powI, negI, dI, dIc, isN, notN, D.isNon, eqD, neD, eqS, catL, catT, repL, ixL, ixT, lenD, intD, absD, min2D, max2D, listD, tupleD, allD, blL, isiL, isiT0, kt0, kt1, tyNm, subT, eqE]
theorem odd_bad (h1 : 1 ≤ k) (x : D) (h : x ∈ oddsA k ++ oddsB) : F_is_pair ix g [x, .int k] = .ok (.bl false) g := by
  have c0 : (0 : Int) ≤ (k : Int) - 1 := by omega
  have c1 : ¬ ((k : Int) ≤ (k : Int) - 1) := by omega
  have e0 := m_letterD (R := R) (ix := ix) (g := g) (k := k) 0
  have ek := m_letterD (R := R) (ix := ix) (g := g) (k := k) k
  have em := m_letterD (R := R) (ix := ix) (g := g) (k := k) (-1)
  rw [decide_eq_true (show (0 : Int) ≤ 0 by omega), decide_eq_true c0] at e0
  rw [decide_eq_false c1, Bool.and_false] at ek
  rw [show decide ((0 : Int) ≤ -1) = false from rfl, Bool.false_and] at em
  simp only [oddsA, oddsB, List.mem_cons, List.mem_append, List.not_mem_nil, or_false, or_assoc] at h
  rcases h with rfl | rfl | rfl | rfl | rfl | rfl | rfl | rfl | rfl | rfl | rfl | rfl | rfl | rfl | rfl
  all_goals simp [F_is_pair, e0, ek, em, m_letterB, m_letterN, m_letterS, m_letterL, L2.atI, ixN, runF, runI, startS, startI, Ro.fin, Ro.fini, Ro.seq, sRet, sRetN, sRetMu, sSeq, sNx, sIf, sSet, sExpr, sNever, sNewL, sNewLs, sApp, sExt, sFldS, sPar, sAsgT, sFrz, MO.d, putFD, Rr.bind, Rr.toS, Rr.noerr, nerr, fVar, fC, fOp, fUn, fNil, fCons, fLst, fTup, fCallL, fNot, fAnd, fOr, fIf, fChain, fCall, fMeth, fFld, fProp, fMake, fMakeS, fDGet, fDisp, fPs, mergeKD, putKD, valD, tVal, tNotF, tAndF, tOrF, tYesF, iL, iT, iLT, iR1, iR2, iEn, enumD, sFor, gN, gT, gsNil, gsCons, lift1, lift2, liftL, addI, subI, ltI, leI, gtI, geI, mulI, modI, divI, powI, negI, dI, dIc, isN, notN, D.isNon, eqD, neD, eqS, catL, catT, repL, ixL, ixT, lenD, intD, absD, min2D, max2D, listD, tupleD, allD, blL, isiL, isiT0, kt0, kt1, tyNm, subT, eqE]
theorem odd_repr (h1 : 1 ≤ k) (h5 : k ≤ 5) (x : D) (h : x ∈ oddsA k ++ oddsB) : ∃ s : PySem.Str, reprD [x] = some (.str s) ∧ PyData.strOk s = true := by
  have hk : k = 1 ∨ k = 2 ∨ k = 3 ∨ k = 4 ∨ k = 5 := by omega
  simp only [oddsA, oddsB, List.mem_cons, List.mem_append, List.not_mem_nil, or_false, or_assoc] at h
  have go : ∀ p : PyData, toPy x = some p → (p.showable = true ∧ p.shown.length ≤ 100000 ∧ p.depth ≤ 60) → PyData.strOk p.shown = true → ∃ s : PySem.Str, reprD [x] = some (.str s) ∧ PyData.strOk s = true := fun p e c s => ⟨p.shown, by unfold reprD; dsimp only; rw [e]; exact if_pos c, s⟩
  rcases h with rfl | rfl | h
  · rcases hk with rfl | rfl | rfl | rfl | rfl
    · exact go (.tuple [.int 0, .int 1]) (by simp only [toPy, toPyL]; rfl) ⟨by decide +kernel, by decide +kernel, by decide +kernel⟩ (by decide +kernel)
    · exact go (.tuple [.int 0, .int 2]) (by simp only [toPy, toPyL]; rfl) ⟨by decide +kernel, by decide +kernel, by decide +kernel⟩ (by decide +kernel)
    · exact go (.tuple [.int 0, .int 3]) (by simp only [toPy, toPyL]; rfl) ⟨by decide +kernel, by decide +kernel, by decide +kernel⟩ (by decide +kernel)
    · exact go (.tuple [.int 0, .int 4]) (by simp only [toPy, toPyL]; rfl) ⟨by decide +kernel, by decide +kernel, by decide +kernel⟩ (by decide +kernel)
    · exact go (.tuple [.int 0, .int 5]) (by simp only [toPy, toPyL]; rfl) ⟨by decide +kernel, by decide +kernel, by decide +kernel⟩ (by decide +kernel)
  · rcases hk with rfl | rfl | rfl | rfl | rfl
    · exact go (.tuple [.int 1, .int 0]) (by simp only [toPy, toPyL]; rfl) ⟨by decide +kernel, by decide +kernel, by decide +kernel⟩ (by decide +kernel)
    · exact go (.tuple [.int 2, .int 0]) (by simp only [toPy, toPyL]; rfl) ⟨by decide +kernel, by decide +kernel, by decide +kernel⟩ (by decide +kernel)
    · exact go (.tuple [.int 3, .int 0]) (by simp only [toPy, toPyL]; rfl) ⟨by decide +kernel, by decide +kernel, by decide +kernel⟩ (by decide +kernel)
    · exact go (.tuple [.int 4, .int 0]) (by simp only [toPy, toPyL]; rfl) ⟨by decide +kernel, by decide +kernel, by decide +kernel⟩ (by decide +kernel)
    · exact go (.tuple [.int 5, .int 0]) (by simp only [toPy, toPyL]; rfl) ⟨by decide +kernel, by decide +kernel, by decide +kernel⟩ (by decide +kernel)
  · clear hk h1 h5
    rcases h with rfl | rfl | rfl | rfl | rfl | rfl | rfl | rfl | rfl | rfl | rfl | rfl | rfl
    · exact go (.tuple [.int (-1), .int 0]) (by simp only [toPy, toPyL, Option.map_some]) ⟨by decide +kernel, by decide +kernel, by decide +kernel⟩ (by decide +kernel)
    · exact go (.tuple [.int 0]) (by simp only [toPy, toPyL, Option.map_some]) ⟨by decide +kernel, by decide +kernel, by decide +kernel⟩ (by decide +kernel)
    · exact go (.tuple [.int 0, .int 0, .int 0]) (by simp only [toPy, toPyL, Option.map_some]) ⟨by decide +kernel, by decide +kernel, by decide +kernel⟩ (by decide +kernel)
    · exact go (.list [.int 0, .int 0]) (by simp only [toPy, toPyL, Option.map_some]) ⟨by decide +kernel, by decide +kernel, by decide +kernel⟩ (by decide +kernel)
    · exact go (.tuple [.bool true, .int 0]) (by simp only [toPy, toPyL, Option.map_some]) ⟨by decide +kernel, by decide +kernel, by decide +kernel⟩ (by decide +kernel)
    · exact go .none (by simp only [toPy]) ⟨by decide +kernel, by decide +kernel, by decide +kernel⟩ (by decide +kernel)
    · exact go (.int 0) (by simp only [toPy]) ⟨by decide +kernel, by decide +kernel, by decide +kernel⟩ (by decide +kernel)
    · exact go (.str "00") (by simp only [toPy]) ⟨by decide +kernel, by decide +kernel, by decide +kernel⟩ (by decide +kernel)
    · exact go (.tuple [.int 0, .bool true]) (by simp only [toPy, toPyL, Option.map_some]) ⟨by decide +kernel, by decide +kernel, by decide +kernel⟩ (by decide +kernel)
    · exact go (.tuple [.int 0, .int (-1)]) (by simp only [toPy, toPyL, Option.map_some]) ⟨by decide +kernel, by decide +kernel, by decide +kernel⟩ (by decide +kernel)
    · exact go (.tuple [.none, .int 0]) (by simp only [toPy, toPyL, Option.map_some]) ⟨by decide +kernel, by decide +kernel, by decide +kernel⟩ (by decide +kernel)
    · exact go (.tuple [.str "0", .int 0]) (by simp only [toPy, toPyL, Option.map_some]) ⟨by decide +kernel, by decide +kernel, by decide +kernel⟩ (by decide +kernel)
    · exact go (.tuple [.list [], .int 0]) (by simp only [toPy, toPyL, Option.map_some]) ⟨by decide +kernel, by decide +kernel, by decide +kernel⟩ (by decide +kernel)
theorem num_repr (x : D) (h : x ∈ nums) : ∃ s : PySem.Str, reprD [x] = some (.str s) ∧ PyData.strOk s = true := by
  have go : ∀ p : PyData, toPy x = some p → (p.showable = true ∧ p.shown.length ≤ 100000 ∧ p.depth ≤ 60) → PyData.strOk p.shown = true → ∃ s : PySem.Str, reprD [x] = some (.str s) ∧ PyData.strOk s = true := fun p e c s => ⟨p.shown, by unfold reprD; dsimp only; rw [e]; exact if_pos c, s⟩
  simp only [nums, List.mem_cons, List.not_mem_nil, or_false] at h
  rcases h with rfl | rfl | rfl | rfl | rfl | rfl | rfl | rfl | rfl
  · exact go (.int 0) (by simp only [toPy]) ⟨by decide +kernel, by decide +kernel, by decide +kernel⟩ (by decide +kernel)
  · exact go (.int 6) (by simp only [toPy]) ⟨by decide +kernel, by decide +kernel, by decide +kernel⟩ (by decide +kernel)
  · exact go (.int (-1)) (by simp only [toPy]) ⟨by decide +kernel, by decide +kernel, by decide +kernel⟩ (by decide +kernel)
  · exact go (.bool true) (by simp only [toPy]) ⟨by decide +kernel, by decide +kernel, by decide +kernel⟩ (by decide +kernel)
  · exact go .none (by simp only [toPy]) ⟨by decide +kernel, by decide +kernel, by decide +kernel⟩ (by decide +kernel)
  · exact go (.str "2") (by simp only [toPy]) ⟨by decide +kernel, by decide +kernel, by decide +kernel⟩ (by decide +kernel)
  · exact go (.tuple [.int 2]) (by simp only [toPy, toPyL, Option.map_some]) ⟨by decide +kernel, by decide +kernel, by decide +kernel⟩ (by decide +kernel)
  · exact go (.list []) (by simp only [toPy, toPyL, Option.map_some]) ⟨by decide +kernel, by decide +kernel, by decide +kernel⟩ (by decide +kernel)
  · exact go (.int 1000000000000000000000000000000) (by simp only [toPy]) ⟨by decide +kernel, by decide +kernel, by decide +kernel⟩ (by decide +kernel)
/-! ### the law's way to make one -/
theorem fin_seqT {c : FT R} {a : FE R} {t b : FS R} (h : c sl g = .ok true g) : (sSeq (sIf c (sRet a) t) b sl g).fin = a sl g := by
  unfold sSeq
  rw [r_sif_t h rfl]
  unfold sRet
  cases a sl g <;> rfl
theorem fin_seqF {c : FT R} {a b : FS R} (h : c sl g = .ok false g) : (sSeq (sIf c a sNx) b sl g).fin = (b sl g).fin := by rw [r_seq (r_sif_f h r_nx) rfl]
theorem made_par {zs : List D} {s2 s3 : SV} (h : zs.length ≤ 4) : (sPar 2 3 (fCons (fOp catL (fVar 1) (fOp repL (fLst (fCons (fTup (fCons (fC (.int 0)) (fCons (fC (.int 0)) fNil))) fNil)) (fOp subI (fC (.int 4)) (fCallL lenD (fCons (fVar 1) fNil))))) (fCons (fVar 1) fNil)) : FS R) [.dat (.int k), .dat (.lst zs), s2, s3] g =
    .nx [.dat (.int k), .dat (.lst zs), .dat (.lst (zs ++ (List.replicate (4 - zs.length) [.tup [.int 0, .int 0]]).flatten)), .dat (.lst zs)] g := by
  have e1 : repL (.lst [.tup [.int 0, .int 0]]) (.int (4 - (zs.length : Int))) = some (.lst (List.replicate (4 - zs.length) [.tup [.int 0, .int 0]]).flatten) := by
    unfold repL
    dsimp only
    rw [if_pos ⟨by omega, by omega, by simp; omega⟩, show (4 - (zs.length : Int)).toNat = 4 - zs.length by omega]
  have e2 : catL (.lst zs) (.lst (List.replicate (4 - zs.length) [.tup [.int 0, .int 0]]).flatten) = some (.lst (zs ++ (List.replicate (4 - zs.length) [.tup [.int 0, .int 0]]).flatten)) := by
    unfold catL
    dsimp only
    rw [if_pos (by simp; omega)]
  exact r_par (r_cons (r_op r_var (r_op (r_lst (r_cons (r_tup (r_cons r_c (r_cons r_c r_nil))) r_nil)) (r_op r_c (r_callL (r_cons r_var r_nil) rfl) rfl) e1) e2) (r_cons r_var r_nil))
theorem m_made {zs : List D} (h : zs.length ≤ 4) : F_madeL C_InvalidNumber C_Table ix g [.int k, .lst zs] = F_Table_pairs C_InvalidNumber C_Table ix g [.hd C_Table, .int k, .tup zs] := by
  unfold F_madeL
  rcases zs with _ | ⟨a, _ | ⟨b, _ | ⟨c, _ | ⟨d, _ | ⟨e, r⟩⟩⟩⟩⟩
  · refine (congrArg Ro.fin (r_seq (made_par h) rfl)).trans ?_
    exact (fin_seqT (r_val (r_op (r_callL (r_cons r_var r_nil) rfl) r_c rfl))).trans (r_cmPO (r_cons r_var r_nil) rfl (by decide))
  · refine (congrArg Ro.fin (r_seq (made_par h) rfl)).trans ?_
    refine (fin_seqF (r_val (r_op (r_callL (r_cons r_var r_nil) rfl) r_c rfl))).trans ?_
    exact (fin_seqT (r_val (r_op (r_callL (r_cons r_var r_nil) rfl) r_c rfl))).trans (r_cmPO (r_cons r_var (r_cons (r_op r_var r_c rfl) r_nil)) rfl (by simp))
  · refine (congrArg Ro.fin (r_seq (made_par h) rfl)).trans ?_
    refine (fin_seqF (r_val (r_op (r_callL (r_cons r_var r_nil) rfl) r_c rfl))).trans ?_
    refine (fin_seqF (r_val (r_op (r_callL (r_cons r_var r_nil) rfl) r_c rfl))).trans ?_
    exact (fin_seqT (r_val (r_op (r_callL (r_cons r_var r_nil) rfl) r_c rfl))).trans (r_cmPO (r_cons r_var (r_cons (r_op r_var r_c rfl) (r_cons (r_op r_var r_c rfl) r_nil))) rfl (by simp))
  · refine (congrArg Ro.fin (r_seq (made_par h) rfl)).trans ?_
    refine (fin_seqF (r_val (r_op (r_callL (r_cons r_var r_nil) rfl) r_c rfl))).trans ?_
    refine (fin_seqF (r_val (r_op (r_callL (r_cons r_var r_nil) rfl) r_c rfl))).trans ?_
    refine (fin_seqF (r_val (r_op (r_callL (r_cons r_var r_nil) rfl) r_c rfl))).trans ?_
    exact (fin_seqT (r_val (r_op (r_callL (r_cons r_var r_nil) rfl) r_c rfl))).trans (r_cmPO (r_cons r_var (r_cons (r_op r_var r_c rfl) (r_cons (r_op r_var r_c rfl) (r_cons (r_op r_var r_c rfl) r_nil)))) rfl (by simp))
  · refine (congrArg Ro.fin (r_seq (made_par h) rfl)).trans ?_
    refine (fin_seqF (r_val (r_op (r_callL (r_cons r_var r_nil) rfl) r_c rfl))).trans ?_
    refine (fin_seqF (r_val (r_op (r_callL (r_cons r_var r_nil) rfl) r_c rfl))).trans ?_
    refine (fin_seqF (r_val (r_op (r_callL (r_cons r_var r_nil) rfl) r_c rfl))).trans ?_
    refine (fin_seqF (r_val (r_op (r_callL (r_cons r_var r_nil) rfl) r_c rfl))).trans ?_
    exact (fin_ret _ _ _).trans (r_cmPO (r_cons r_var (r_cons (r_op r_var r_c rfl) (r_cons (r_op r_var r_c rfl) (r_cons (r_op r_var r_c rfl) (r_cons (r_op r_var r_c rfl) r_nil))))) rfl (by simp))
  · simp at h
end
end DL

set_option maxHeartbeats 4000000
namespace DL
open PySem PySem.Spec PyProof.Rows L2
abbrev st_law : Stmt := topS 39
abbrev st_refusedL : Stmt := topS 36
theorem sc_law : FnScope ["_law_script", "_law_pen_here", "_law_many", "_law_some", "_law_due", "_law_b", "_law_a", "_law_odd", "_law_worse", "_law_at", "_law_wrong", "_law_number"] ["_law_script"] (defScope st_law) := ⟨rfl, rfl, rfl, by decide +kernel, rfl, by decide +kernel, by decide +kernel⟩
abbrev osc_law : Scope := match (defBody st_law)[1]? with | some (Stmt.For _ _ b _ _) => (match b[3]? with | some (Stmt.Assign _ (Expr.ListComp _ _ sc _) _) => sc | _ => defScope st_law) | _ => defScope st_law
def qLaw : Str := (envOfC "law" (defScope st_law) 0 0 .none).qual
abbrev qLL : Str := qLaw ++ "<lambda>"
abbrev law_R (Pt : Addr) : Rs := penRT "turn" "rest" Pt qLL
def lawF (Pt : Addr) (C_InvalidNumber : Addr) (C_InvalidTable : Addr) (C_Table : Addr) (a : Addr) (ns : List Int) (ix : (law_R Pt).ix) : FS (law_R Pt) := (sSeq (sFor (iR2 (fCons (fC (.int 1)) (fCons (fC (.int 6)) fNil))) (gN 2) (sSeq (sIf (tVal (fOp neD (fCallL reprD (fCons (fProp C_Table ((F_Table_rows C_Table) ix) (fCm C_Table 2 ((F_Table_likeness C_InvalidNumber C_Table) ix) (fCons (fVar 2) fNil))) fNil)) (fCallL reprD (fCons (fCall 1 (F_plainL ix) [] (fCons (fCall 1 (F_likenessL ix) [] (fCons (fVar 2) fNil)) fNil)) fNil)))) (sRet (fC (.bl false))) sNx) (sSeq (sIf (tVal (fOp neD (fCallL reprD (fCons (fProp C_Table ((F_Table_rows C_Table) ix) (fCm C_Table 2 ((F_Table_silence C_InvalidNumber C_Table) ix) (fCons (fVar 2) fNil))) fNil)) (fCallL reprD (fCons (fOp repT (fTup (fCons (fOp repT (fTup (fCons (fC (.int 0)) fNil)) (fVar 2)) fNil)) (fVar 2)) fNil)))) (sRet (fC (.bl false))) sNx) (sSeq (sSet 3 (fCall 2 (F_pairsL ix) [] (fCons (fVar 1) (fCons (fVar 2) fNil)))) (sSeq (sSet 4 (fLc (iR1 (fCons (fVar 2) fNil)) [6] (gN 6) tYesF (fLc (iR1 (fCons (fVar 2) fNil)) [5] (gN 5) tYesF (fOp ixL (fLst (fCons (fC .non) (fCons (fC (.int 0)) fNil))) (fCallL intD (fCons (fOp inP (fTup (fCons (fVar 6) (fCons (fVar 5) fNil))) (fVar 3)) fNil)))))) (sSeq (sIf (tVal (fOp neD (fCallL reprD (fCons (fProp C_Table ((F_Table_rows C_Table) ix) (fCall 2 ((F_madeL C_InvalidNumber C_Table) ix) [] (fCons (fVar 2) (fCons (fVar 3) fNil)))) fNil)) (fCallL reprD (fCons (fCall 1 (F_plainL ix) [] (fCons (fVar 4) fNil)) fNil)))) (sRet (fC (.bl false))) sNx) (sSeq (sSet 7 (fLst (fCons (fTup (fCons (fC (.int 0)) (fCons (fVar 2) fNil))) (fCons (fTup (fCons (fVar 2) (fCons (fC (.int 0)) fNil))) (fCons (fTup (fCons (fUn negI (fC (.int 1))) (fCons (fC (.int 0)) fNil))) (fCons (fTup (fCons (fC (.int 0)) fNil)) (fCons (fTup (fCons (fC (.int 0)) (fCons (fC (.int 0)) (fCons (fC (.int 0)) fNil)))) (fCons (fLst (fCons (fC (.int 0)) (fCons (fC (.int 0)) fNil))) (fCons (fTup (fCons (fC (.bl true)) (fCons (fC (.int 0)) fNil))) (fCons (fC .non) (fCons (fC (.int 0)) (fCons (fC (.str "00")) (fCons (fTup (fCons (fC (.int 0)) (fCons (fC (.bl true)) fNil))) (fCons (fTup (fCons (fC (.int 0)) (fCons (fUn negI (fC (.int 1))) fNil))) fNil)))))))))))))) (sSeq (sSet 7 (fCall 2 (F_pickL ix) [] (fCons (fVar 1) (fCons (fOp catL (fVar 7) (fLst (fCons (fTup (fCons (fC .non) (fCons (fC (.int 0)) fNil))) (fCons (fTup (fCons (fC (.str "0")) (fCons (fC (.int 0)) fNil))) (fCons (fTup (fCons (fLst fNil) (fCons (fC (.int 0)) fNil))) fNil))))) fNil)))) (sSeq (sSet 8 (fCall 2 (F_pickL ix) [] (fCons (fVar 1) (fCons (fLst (fCons (fC .non) (fCons (fTup (fCons (fC (.int 0)) (fCons (fC (.int 9)) fNil))) (fCons (fTup (fCons (fC (.int 0)) (fCons (fC (.int 0)) fNil))) fNil)))) fNil)))) (sSeq (sSet 9 (fCall 2 (F_drawL ix) [] (fCons (fVar 1) (fCons (fOp addI (fCallL min2D (fCons (fC (.int 3)) (fCons (fCallL lenD (fCons (fVar 3) fNil)) fNil))) (fC (.int 1))) fNil)))) (sSeq (sSet 10 (fSlTo (fOp catL (fSlTo (fVar 3) (fVar 9)) (fLst (fCons (fVar 7) (fCons (fVar 8) fNil)))) (fC (.int 4)))) (sSeq (sIf (tVal (fOp neP (fRef C_InvalidNumber (fCall 2 ((F_madeL C_InvalidNumber C_Table) ix) [] (fCons (fVar 2) (fCons (fVar 10) fNil)))) (fLst (fCons (fCallL reprD (fCons (fVar 7) fNil)) fNil)))) (sRet (fC (.bl false))) sNx) (sSeq (sIf (tVal (fOp neP (fRef C_InvalidNumber (fCmP C_Table ((F_Table_pairs C_InvalidNumber C_Table) ix) (fCons (fVar 2) (fCons (fTup (fCons (fC (.int 0)) (fCons (fC (.int 0)) fNil))) (fCons (fTup (fCons (fC (.int 0)) (fCons (fC (.int 0)) fNil))) (fCons (fTup (fCons (fC (.int 0)) (fCons (fC (.int 0)) fNil))) (fCons (fTup (fCons (fC (.int 0)) (fCons (fC (.int 0)) fNil))) (fCons (fTup (fCons (fC (.int 0)) (fCons (fC (.int 0)) fNil))) (fCons (fVar 7) fNil))))))))) (fLst (fCons (fCallL reprD (fCons (fVar 7) fNil)) fNil)))) (sRet (fC (.bl false))) sNx) (sSeq (sSet 11 (fCall 2 (F_pickL ix) [] (fCons (fVar 1) (fCons (fLst (fCons (fC (.int 0)) (fCons (fC (.int 6)) (fCons (fUn negI (fC (.int 1))) (fCons (fC (.bl true)) (fCons (fC .non) (fCons (fC (.str "2")) (fCons (fTup (fCons (fC (.int 2)) fNil)) (fCons (fLst fNil) (fCons (fOp powI (fC (.int 10)) (fC (.int 30))) fNil)))))))))) fNil)))) (sSeq (sIf (tVal (fOp neP (fRef C_InvalidNumber (fCm C_Table 2 ((F_Table_likeness C_InvalidNumber C_Table) ix) (fCons (fVar 11) fNil))) (fLst (fCons (fCallL reprD (fCons (fVar 11) fNil)) fNil)))) (sRet (fC (.bl false))) sNx) (sSeq (sIf (tVal (fOp neP (fRef C_InvalidNumber (fCm C_Table 2 ((F_Table_silence C_InvalidNumber C_Table) ix) (fCons (fVar 11) fNil))) (fLst (fCons (fCallL reprD (fCons (fVar 11) fNil)) fNil)))) (sRet (fC (.bl false))) sNx) (sIf (tVal (fOp neP (fRef C_InvalidNumber (fCmP C_Table ((F_Table_pairs C_InvalidNumber C_Table) ix) (fCons (fVar 11) (fCons (fVar 7) fNil)))) (fLst (fCons (fCallL reprD (fCons (fVar 11) fNil)) fNil)))) (sRet (fC (.bl false))) sNx))))))))))))))))) (sRet (fOp eqP (fLst (fCons (fC (.int 5)) (fCons (fC (.int 1000000000000000000000000000000)) fNil))) (fLst (fCons (fC (.int 5)) (fCons (fOp powI (fC (.int 10)) (fC (.int 30))) fNil))))))
theorem passL {X : Cx} {A : Around} {outer : List Env} {s : Shared} {H : Hp} {E : XK} {scope : Scope} {f c' : Addr} : Passes (L2.CX X.prog X.w) (LamX.lamCx X A outer s H E scope f c') E :=
  passes_call (takes_of rfl rfl rfl rfl) (fun _ _ _ _ z => z)
abbrev st_pen : Stmt := topS 31
def spPenX (K : PySem.W.Frag) : Sp := fun vs H Q _ => ∃ (a : Addr) (ns : List Int), vs = [.ref a] ∧ SqL K H a (ns.map V.int) ∧ ns.length ≤ 63 ∧ ∀ p c H', H p = none → H c = none → H' p = some (.dK (penL "turn" "rest" c 0 0)) → H' c = some (.lst (ns.map V.int)) → (∀ b o, H b = some o → H' b = some o) → Q (.ref p) H'
theorem same_new {H : Hp} {p : Addr} {o : HO} (h : H p = none) : Same H (upd H p o) := fun b u z => by
  rw [upd_ne (ne_of_none z h)]
  exact z
theorem cut63 {xs : List V} (h : xs.length ≤ 63) : cutV xs none (some 63) = xs := by
  unfold cutV
  show (xs.drop (HT.sIx xs.length 0 none)).take (HT.sIx xs.length xs.length (some 63) - HT.sIx xs.length 0 none) = xs
  have e0 : HT.sIx xs.length 0 none = 0 := rfl
  have e1 : HT.sIx xs.length xs.length (some 63) = xs.length := by
    unfold HT.sIx
    simp
    omega
  rw [e0, e1]
  simp
section
variable {P : Program} {w : World} {K : PySem.W.Frag} {mg : Str → Option Value} {base : Heap}
theorem sc_pen : FnScope ["_law_script"] ["_law_script"] (defScope st_pen) := ⟨rfl, rfl, rfl, by decide +kernel, rfl, by decide +kernel, by decide +kernel⟩
theorem ok_pen {f : Addr} {fd : FuncData} (F : Fun K "_law_pen" "_law_pen" st_pen f fd) (T : Bx mg) : FnOk P w K mg base CX0 1 f fd ["_law_script"] (spPenX K) := by
  refine F.ok sc_pen (fun vs H Q E h => ?_) (fun cdv A outer s H vs Q E hr h => ?_)
  · obtain ⟨a, ns, rfl, _⟩ := h
    rfl
  · obtain ⟨a, ns, rfl, hS, hl, k⟩ := h
    have hu := hu_of hr
    refine ⟨_, (pss_one (ps_ret (pe_disp (pps_cons pe_str (pe_callTy call_list_of (by rfl) T.n_list (by decide +kernel) (pa_cons (pe_slice sl_list (pv 0) po_none (po_some pe_int)) pa_nil)) (pps_cons pe_str pe_int (pps_cons pe_str pe_int pps_nil))) (by rfl) (by rfl) (fun z => by cases z) (by decide)))), ?_⟩
    intro p hp
    have hS1 : SqL K (upd H p (.dK [])) a (ns.map V.int) := (same_new hp).seq hS
    refine ⟨_, rfl, 63, rfl, a, _, rfl, hS1, fun q hq => ?_⟩
    refine ⟨q, _, rfl, Or.inl (SqL.of upd_same), fun l hl1 => ?_⟩
    have e1 : cutV (ns.map V.int) none (some 63) = ns.map V.int := cut63 (by rw [List.length_map]; exact hl)
    rw [e1]
    have npq : p ≠ q := ne_of_none upd_same hq
    have npl : p ≠ l := ne_of_none (show upd (upd H p (.dK [])) q _ p = some _ by rw [upd_ne npq]; exact upd_same) hl1
    have nql : q ≠ l := ne_of_none upd_same hl1
    refine ⟨by rw [upd_ne npl, upd_ne npq]; exact upd_same, [(Sum.inr "cells", .ref l), (Sum.inr "turn", .int 0), (Sum.inr "rest", .int 0)], rfl, by show 3 ≤ 15; decide, ?_⟩
    have hpl : H l = none := by
      rw [upd_ne nql.symm, upd_ne npl.symm] at hl1
      exact hl1
    refine k p l _ hp hpl upd_same ?_ fun b o z => ?_
    · rw [upd_ne npl.symm]
      exact upd_same
    · have hq' : H q = none := by
        rw [upd_ne npq.symm] at hq
        exact hq
      rw [upd_ne (ne_of_none z hp), upd_ne (ne_of_none z hpl), upd_ne (ne_of_none z hq'), upd_ne (ne_of_none z hp)]
      exact z
end
theorem sc_refusedL : FnScope ["_law_call", "_law_kept", "e"] ["_law_call"] (defScope st_refusedL) := ⟨rfl, rfl, rfl, by decide +kernel, rfl, by decide +kernel, by decide +kernel⟩
section
open VK
variable {X : Cx} {CN CT g : Addr} {cdg : Value} {q : Str}
theorem pe_weak {X : Cx} {e : Expr} {te : TE} (h : PE X e te) (Qn : VK) : PE X e (fun σ H Q => (∀ v H2, Qn v H2 → Q v H2) ∧ te σ H Qn) :=
  ⟨fun pins s σ H Q I z => wpAny_mono (h.run pins s σ H Qn I z.2) (fun u s2 ⟨v, H2, I2, r, q⟩ => ⟨v, H2, I2, r, z.1 _ _ q⟩) fun _ _ w => w⟩
theorem refused_gives (T : Bx X.mg) (EN : VK.EC X.prog X.K X.mg "InvalidNumber" CN xValueError (some "value")) (ET : VK.EC X.prog X.K X.mg "InvalidTable" CT xValueError (some "value")) (gu : X.A.guards = some []) (hroom : Room 2 X.A) :
    LamX.GivesTo X ["_law_call", "_law_kept", "e"] "_law_refused" (defScope st_refusedL) g cdg (defBody st_refusedL) "_law_call" q (TRefD X.K CN) := by
  intro f c1 s H Q tl act hc h
  have hu : (X.A.deeper (envOfC "_law_refused" (defScope st_refusedL) s.heap.objs.size g cdg)).units + 64 < cLine := (hroom.deeper _).units
  refine ⟨_, (pss_cons (ps_set (i := 1) sc_refusedL.nd rfl (Or.inl rfl) pe_non)
    (pss_cons (ps_try_tr (i := 2) (c := .ref CN) (tb := fun W D σ H => ∃ (Ech : XK) (Qn : VK), (∀ cls d σ2 H2, Ech cls d H2 → W cls d σ2 H2) ∧ (∀ v H2, Qn v H2 → D.nx σ H2) ∧ σ[0]? = some (some (.ref f)) ∧ H c1 = some (LamX.CodeO c1 q) ∧ tl Ech H Qn) rfl rfl sc_refusedL.nd rfl rfl ⟨rfl, by decide, .inl EN.g⟩ takes0 (fun W pn xe tk _ => ?_) (fun a cls d pn => pss_one (ps_set (i := 1) sc_refusedL.nd rfl (Or.inl rfl) (pv 2))))
    (pss_cons (ps_if (pt_cmpR op_isN (pv 1) pe_non (nomk _)) (pss_one (ps_ret (pe_lst pa_nil))) pss_nil)
    (pss_one (ps_ret (pe_op op_rep (pe_lst (pa_cons (pe_callB (call_repr gu hu) (by rfl) T.n_repr (by decide +kernel) (pa_cons (pe_xatR (pv 1)) pa_nil)) pa_nil)) (pe_callTy call_int1 (by rfl) T.n_int (by decide +kernel) (pa_cons (pe_and (pe_callB call_isR (by rfl) T.n_isinstance (by decide +kernel) (pa_cons (pv 1) (pa_cons (pe_bltn (v := .ty "ValueError") (by rfl) T.n_ValueError (by decide +kernel) rfl) pa_nil))) (pe_one (pe_not (pe_callB call_isR (by rfl) T.n_isinstance (by decide +kernel) (pa_cons (pv 1) (pa_cons (pe_glob (v := .ref CT) rfl ET.g rfl) pa_nil)))))) pa_nil)))))))), ?_⟩
  · refine ⟨fun pins s2 σ H1 D I h2 => ?_⟩
    obtain ⟨Ech, Qn, hW, hQ, h1, h3, h4⟩ := h2
    have hp := fun p1 p2 => act W pn xe Ech p1 p2 tk hW
    exact (pss_one (ps_expr (pe_weak (hp _ _) Qn))).run pins s2 σ H1 D I ⟨fun v H2 z => hQ v H2 z, h1, h3, h4⟩
  · refine ⟨fun cls d H2 => ∃ dd v dt av z, cls = .ref CN ∧ d = some dd ∧ H2 dd = some (.xd [("value", v)]) ∧ DL.Dt X.K av H2 v dt ∧ reprD [dt] = some (.str z) ∧ ∀ L H3, H2 L = none → Same H2 H3 → H3 L = some (.lst [.str z]) → Q (.ref L) H3, fun _ _ => False, ?_, (fun _ _ z => z.elim), rfl, hc, ?_⟩
    · rintro cls d σ2 H2 ⟨dd, v, dt, av, z, rfl, rfl, hd, hv, ez, k⟩ hlen
      obtain ⟨b0, b1, b2, rfl⟩ : ∃ b0 b1 b2, σ2 = [b0, b1, b2] := by
        rcases σ2 with _ | ⟨b0, _ | ⟨b1, _ | ⟨b2, _ | ⟨b3, r⟩⟩⟩⟩
        · cases hlen
        · cases hlen
        · cases hlen
        · exact ⟨_, _, _, rfl⟩
        · cases hlen
      refine ⟨true, PySem.W.exm_ref EN.T.sBE EN.T.hsd EN.T.tyC EN.T.mC, fun _ a ha => ?_, fun z => by cases z⟩
      have s1 : Same H2 (upd H2 a (exR a (.ref CN) (some dd))) := new_same ha
      have hd1 := s1 _ _ hd
      have hv1 : DL.Dt X.K av (upd H2 a (exR a (.ref CN) (some dd))) v dt := hv.keep fun b o e n => ⟨s1 b o e, n⟩
      obtain ⟨py, q1, q2, q3, q4, q5⟩ := repr_facts hv1 ez
      refine ⟨_, rfl, ?_⟩
      refine ⟨_, rfl, rfl, _, rfl, iteF ?_⟩
      refine ⟨_, rfl, a, CN, dd, v, rfl, upd_same, hd1, EN.xok, EN.get, v, py, rfl, q1, q2, q3, q4, ?_⟩
      refine ⟨Nat.le_of_ble_eq_true rfl, fun p hp => ?_⟩
      have s2 := s1.trans (new_same (o := .lst [.str py.shown]) hp)
      have ea : upd (upd H2 a (exR a (.ref CN) (some dd))) p (.lst [.str py.shown]) a = some (exR a (.ref CN) (some dd)) := by
        rw [upd_ne (ne_of_none upd_same hp)]
        exact upd_same
      refine ⟨_, rfl, a, CN, some dd, .ty "ValueError", .type "ValueError", _, rfl, ea, (fun d2 z => by cases z; exact ⟨_, s2 _ _ hd⟩), EN.xok, (fun _ z => z), EN.kitT (T := "ValueError") (by decide +kernel), _, rfl, ?_⟩
      refine iteT ?_
      refine ⟨_, rfl, a, CN, some dd, .ref CT, .ref CT, _, rfl, ea, (fun d2 z => by cases z; exact ⟨_, s2 _ _ hd⟩), EN.xok, (fun _ z => z), EN.kit ET, _, rfl, ?_⟩
      refine .inr ⟨true, rfl, ?_⟩
      refine ⟨p, 1, _, rfl, rfl, upd_same, by decide, by decide, Nat.le_of_ble_eq_true rfl, fun L hL => ?_⟩
      refine k L _ ?_ (s2.trans (new_same hL)) (by rw [← q5]; exact upd_same)
      cases e : H2 L with
      | none => rfl
      | some o => rw [s2 _ _ e] at hL; cases hL
    · exact h
theorem pe_refused {q0 : Str} {c Pt fR : Addr} {oc kV doc pm cdv ct : Value} {od an : Option Addr} {osl : Array (Option Value)} {params : Arguments} {body : Expr} {scope : Scope} {t : XK → TE} {p lpos pos : Pos} {k : Nat} (hq : X.env.qual = q0) (hg : Gl X "_law_refused") (gR : X.mg "_law_refused" = some (.ref fR)) (kR : PySem.W.keepIn X.K (.ref fR) = true)
    (lkR : X.K.lookup fR = some ⟨oc, od, .func (PySem.W.fnOf "_law_refused" "_law_refused" (defArgs st_refusedL) (defBody st_refusedL) (defScope st_refusedL) .none kV doc pm an cdv ct), osl⟩) (hcR : PySem.W.codeIn X.K cdv "_law_refused" = true)
    (bR : Binds X.K (PySem.W.fnOf "_law_refused" "_law_refused" (defArgs st_refusedL) (defBody st_refusedL) (defScope st_refusedL) .none kV doc pm an cdv ct) ["_law_call"] [])
    (T : Bx X.mg) (EN : KErr X.prog X.K X.mg "InvalidNumber" "value" CN) (ET : KErr X.prog X.K X.mg "InvalidTable" "value" CT) (gu : X.A.guards = some []) (TB : LamX.TabB X.base X.mg c Pt) (hcode : X.env.code = .ref c) (hr : Room (k + 2) X.A) (L : LamX.LamS X.env.scope scope) (hdef : defaultsOf params X.env = ([], []))
    (hbind : ∀ (q : Str) (cl : List (Str × Addr)) (pm cv ctv : Value), bindArgs (PySem.W.kla_fn "<lambda>" q params body scope cl pm cv ctv) ⟨[], []⟩ = pure [])
    (hbody : ∀ (A : Around) (outer : List Env) (s : Shared) (H : Hp) (E : XK) (f c' : Addr), Room k (A.deeper (LamX.lamEnv X scope s.heap.objs.size f c')) → PE (LamX.lamCx X A outer s H E scope f c') body (t E)) :
    PE X (.Call (.Name "_law_refused" p) [.Lambda params body scope lpos] [] pos) (LamX.tLam [(Pt, q0 ++ "<lambda>")] (TRefD X.K CN) t) := by
  have z := LamX.pe_lamcall (T := [(Pt, X.env.qual ++ "<lambda>")]) (k := k) (TT := TRefD X.K CN) (t := t) (p := p) (lpos := lpos) (pos := pos) hg gR kR lkR hcR bR sc_refusedL rfl (.inl rfl) (refused_gives T EN.ec ET.ec gu (hr.mono (by omega))) TB hcode List.mem_cons_self (fun q hq _ => by rcases List.mem_singleton.mp hq with rfl; rfl) hr L hdef hbind hbody
  rw [hq] at z
  exact z
end
def kw1 {α : Type} (us ws : List α) : List α := match us, ws with
  | [a], [b] => [a, b]
  | _, _ => []
theorem kw1_rel {vs : List V} {us : List Value} {zs : List V} {ws : List Value} (h1 : Vals vs us) (h2 : Vals zs ws) : Vals (kw1 vs zs) (kw1 us ws) := by
  cases h1 with
  | nil => exact .nil
  | cons a t =>
    cases t with
    | cons _ _ => exact .nil
    | nil =>
      cases h2 with
      | nil => exact .nil
      | cons b u =>
        cases u with
        | nil => exact .cons a (.cons b .nil)
        | cons c v => exact .nil
theorem kb_Table_silence {K : PySem.W.Frag} {f : Addr} {fd : FuncData} (F : Fun K "silence" "Table.silence" st_Table_silence f fd) : KBinds K fd ["cls", "letters"] ["letters"] kw1 kw1 := by
  obtain ⟨oc, od, kV, doc, pm, an, cdv, ct, osl, rfl, lk, hcd⟩ := F.ex
  exact {
    to := fun s us ws _ hl => by
      rcases us with _ | ⟨u0, _ | ⟨u1, ur⟩⟩
      · cases hl
      · rcases ws with _ | ⟨w0, _ | ⟨w1, wr⟩⟩
        · cases hl
        · exact .of_eq rfl
        · cases hl
      · cases hl
    rel := kw1_rel }
section
variable {P : Program} {w : World} {K : PySem.W.Frag} {mg : Str → Option Value} {base : Heap}
def spLaw (Pt : Addr) (K : PySem.W.Frag) : Sp := fun vs H Q _ => ∃ (a : Addr) (ns : List Int), vs = [.ref a] ∧ SqL K H a (ns.map V.int) ∧ ns.length ≤ 63 ∧ LamX.Tabs [(Pt, qLL)] H ∧ ∀ H', Q (.bl true) H'
def sl0 (a p : Addr) : List SV := [.dat (.hd a), .dat (.hd p)] ++ List.replicate 10 .un
theorem pss_any {X : Cx} {st : List Stmt} : PSs X st (fun D σ H => ∃ t, PSs X st t ∧ t D σ H) := ⟨fun pins s σ H D I ⟨t, p, q⟩ => p.run pins s σ H D I q⟩
theorem start_law {K : PySem.W.Frag} {H0 H1 : Hp} {a p c Pt : Addr} {ns : List Int} {h1 h2} (g1 : H1 p = some (.dK (penL "turn" "rest" c 0 0))) (g2 : H1 c = some (.lst (ns.map V.int))) (gt : TabG Pt qLL (fun _ => False) H1) (hle : ∀ b o, H0 b = some o → H1 b = some o) :
    SRel (⟨K, 0, (p, c, ns), fun _ => False, H0, h1, h2⟩ : Gm (law_R Pt)) (sl0 a p) [] [] ((0, 0) : Int × Int) ([some (.ref a), some (.ref p)] ++ List.replicate 10 none) H1 := by
  have nomu : ∀ (i : Nat) (m : MO), (sl0 a p)[i]? ≠ some (SV.mu m) := fun i m z => by
    have := List.mem_of_getElem? z
    simp [sl0] at this
  have noown : ∀ b, ¬ own (sl0 a p) [] ([some (.ref a), some (.ref p)] ++ List.replicate 10 none) b := fun b z => by
    rcases z with ⟨i, m, q, _⟩ | ⟨m, z⟩
    · exact nomu i m q
    · cases z
  have noav : ∀ b, ¬ (Gm.avG (⟨K, 0, (p, c, ns), fun _ => False, H0, h1, h2⟩ : Gm (law_R Pt)) (sl0 a p) [] ([some (.ref a), some (.ref p)] ++ List.replicate 10 none) b) := fun b z => by
    rcases z with z | z
    · exact z
    · exact noown _ z
  refine ⟨rfl, fun b o e _ => hle b o e, ⟨⟨g1, g2, noav _, noav _⟩, gt.keep fun b o e _ => ⟨e, noav b⟩⟩, fun i s e => ?_, (fun _ _ z => nomatch z), (fun _ _ z => nomatch z), fun b z => absurd z (noown b), fun i j b m m' q => absurd q (nomu i m), fun i b m m' q => absurd q (nomu i m), List.nodup_nil⟩
  · match i, e with
    | 0, e => cases e; exact ⟨_, rfl, .hd a⟩
    | 1, e => cases e; exact ⟨_, rfl, .hd p⟩
    | i + 2, e =>
      have : s = .un := by
        have := List.mem_of_getElem? (l := List.replicate 10 SV.un) (i := i) (a := s) (by simpa [sl0] using e)
        rw [List.mem_replicate] at this
        exact this.2
      subst this
      trivial
/-- what the law knows of the heap: no table but its own -/
def lessT (Pt : Addr) (H : Hp) : Hp := fun b => match H b with
  | some (.tbl ps) => if b = Pt then some (.tbl ps) else none
  | o => o
theorem lessT_le {Pt : Addr} {H : Hp} : ∀ b o, lessT Pt H b = some o → H b = some o := fun b o e => by
  unfold lessT at e
  split at e
  · rename_i ps q
    split at e
    · rw [q]; exact e
    · cases e
  · exact e
theorem lessT_nt {Pt : Addr} {H : Hp} : ∀ b ps, lessT Pt H b = some (.tbl ps) → b = Pt := fun b ps e => by
  unfold lessT at e
  split at e
  · split at e
    · assumption
    · cases e
  · rename_i q
    exact absurd e (q ps)
theorem lessT_of {Pt : Addr} {H : Hp} {b : Addr} {o : HO} (e : H b = some o) (n : ∀ ps, o ≠ .tbl ps) : lessT Pt H b = some o := by
  unfold lessT
  split
  · rename_i ps q
    rw [e] at q
    cases q
    exact absurd rfl (n ps)
  · exact e
theorem lessT_pt {Pt : Addr} {H : Hp} {ps : Array Value} (e : H Pt = some (.tbl ps)) : lessT Pt H Pt = some (.tbl ps) := by
  unfold lessT
  rw [e]
  exact if_pos rfl
theorem ok_law {C_InvalidNumber : Addr} {C_InvalidTable : Addr} {C_Table : Addr} {f cL Pt fR : Addr} {fd : FuncData} {oc kV doc pm cdv ct : Value} {od an : Option Addr} {osl : Array (Option Value)} (F : Fun K "law" "law" st_law f fd) (T : Bx mg) (hcode : fd.code = .ref cL) (TB : ∀ p ∈ [(cL, Pt)], LamX.TabB base mg p.1 p.2) (gR : mg "_law_refused" = some (.ref fR)) (kR : PySem.W.keepIn K (.ref fR) = true) (lkR : K.lookup fR = some ⟨oc, od, .func (PySem.W.fnOf "_law_refused" "_law_refused" (defArgs st_refusedL) (defBody st_refusedL) (defScope st_refusedL) .none kV doc pm an cdv ct), osl⟩) (hcR : PySem.W.codeIn K cdv "_law_refused" = true) (bR : Binds K (PySem.W.fnOf "_law_refused" "_law_refused" (defArgs st_refusedL) (defBody st_refusedL) (defScope st_refusedL) .none kV doc pm an cdv ct) ["_law_call"] []) (K_Table : KTable K mg C_Table) (K_InvalidNumber : KErr P K mg "InvalidNumber" "value" C_InvalidNumber) (K_InvalidTable : KErr P K mg "InvalidTable" "value" C_InvalidTable) {fd_Table_likeness : FuncData} (G_Table_likeness : FnOk P w K mg base (L2.CX P w) 7 K_Table.f_likeness fd_Table_likeness ["cls", "letters"] (spD (law_R Pt) K 2 (F_Table_likeness (R := law_R Pt) C_InvalidNumber C_Table))) (B_Table_likeness : Binds K fd_Table_likeness ["cls", "letters"] []) {fd_Table_rows : FuncData} (G_Table_rows : FnOk P w K mg base (L2.CX P w) 1 K_Table.f_rows fd_Table_rows ["self"] (spD (law_R Pt) K 1 (F_Table_rows (R := law_R Pt) C_Table))) (B_Table_rows : Binds K fd_Table_rows ["self"] []) {fi_plainL : Addr} {fd_plainL : FuncData} (G_plainL : LdX P w K mg base (law_R Pt) "_law_plain" 1 fi_plainL fd_plainL ["_law_rows"] 1 (F_plainL (R := law_R Pt))) {fi_likenessL : Addr} {fd_likenessL : FuncData} (G_likenessL : LdX P w K mg base (law_R Pt) "_law_likeness" 1 fi_likenessL fd_likenessL ["_law_size"] 1 (F_likenessL (R := law_R Pt))) {fd_Table_silence : FuncData} (G_Table_silence : FnOk P w K mg base (L2.CX P w) 7 K_Table.f_silence fd_Table_silence ["cls", "letters"] (spD (law_R Pt) K 2 (F_Table_silence (R := law_R Pt) C_InvalidNumber C_Table))) (B_Table_silence : Binds K fd_Table_silence ["cls", "letters"] []) {fi_pairsL : Addr} {fd_pairsL : FuncData} (G_pairsL : LdX P w K mg base (law_R Pt) "_law_pairs" 2 fi_pairsL fd_pairsL ["_law_pen_here", "_law_many"] 2 (F_pairsL)) {fi_madeL : Addr} {fd_madeL : FuncData} (G_madeL : LdX P w K mg base (law_R Pt) "_law_made" 8 fi_madeL fd_madeL ["_law_many", "_law_some"] 2 (F_madeL (R := law_R Pt) C_InvalidNumber C_Table)) {fi_pickL : Addr} {fd_pickL : FuncData} (G_pickL : LdX P w K mg base (law_R Pt) "_law_pick" 2 fi_pickL fd_pickL ["_law_pen_here", "_law_options"] 2 (F_pickL)) {fi_drawL : Addr} {fd_drawL : FuncData} (G_drawL : LdX P w K mg base (law_R Pt) "_law_draw" 1 fi_drawL fd_drawL ["_law_pen_here", "_law_size"] 2 (F_drawL)) (G_Table_pairs : FnR P w K mg base (L2.CX P w) 7 K_Table.f_pairs (spStar (spD (law_R Pt) K 3 (F_Table_pairs (R := law_R Pt) C_InvalidNumber C_Table)) 2)) (KB_Table_silence : KBinds K fd_Table_silence ["cls", "letters"] ["letters"] kw1 kw1) {fi_pen : Addr} {fd_pen : FuncData} (G_pen : FnOk P w K mg base CX0 1 fi_pen fd_pen ["_law_script"] (spPenX K)) (b_pen : Binds K fd_pen ["_law_script"] []) (g_pen : mg "_law_pen" = some (.ref fi_pen)) (k_pen : PySem.W.keepIn K (.ref fi_pen) = true) (math : ∀ (a p c : Addr) (ns : List Int), ns.length ≤ 63 → ∃ g', lawF Pt C_InvalidNumber C_InvalidTable C_Table a ns (p, c, ns) (sl0 a p) ((0, 0) : Int × Int) = .rt (.bl true) g') : VK.FnG P w K mg base CX0 11 f fd ["_law_script"] (spLaw Pt K) := by
  refine VK.FnG.by_bodyC F sc_law (fun vs H Q E h => ?_) (fun A outer s H vs Q E hr gu h => ?_)
  · obtain ⟨a, ns, rfl, _⟩ := h
    rfl
  · obtain ⟨a, ns, rfl, hS, hlen, tbs, k⟩ := h
    have hr1 := hr.mono (j := 1) (by decide)
    have body : ∀ (p c : Addr) (H1 : Hp) (h1 : ∀ b, (fun _ : Addr => False) b → H1 b ≠ none) (h2 : ∀ b, (law_R Pt).mu (p, c, ns) b → H1 b ≠ none) (hn0 : ∀ b ps, H1 b = some (.tbl ps) → b = Pt), (∀ H', (∀ b o, H1 b = some o → ¬ (law_R Pt).mu (p, c, ns) b → H' b = some o) → SqL K H' a (ns.map V.int)) → ESs (fun _ : Unit => (cxOf CX0 P w K mg base ["_law_script", "_law_pen_here", "_law_many", "_law_some", "_law_due", "_law_b", "_law_a", "_law_odd", "_law_worse", "_law_at", "_law_wrong", "_law_number"] "law" (defScope st_law) f fd.code A outer s H E).nox) E0 (⟨K, 0, (p, c, ns), fun _ => False, H1, h1, h2⟩ : Gm (law_R Pt)) (defBody st_law).tail (lawF Pt C_InvalidNumber C_InvalidTable C_Table a ns (p, c, ns)) := by
      intro p c H1 h1 h2 hn0 hq
      have h00 : ∀ a : Addr, ¬ (fun _ : Addr => False) a := fun _ z => z
      exact (ess_cons (es_for (fun _ => PassesOwn.never) (fun _ => rfl) (ei_range2 (fun _ a => pi_range2 rfl T.n_range a) (ea_cons ed_int (ea_cons ed_int ea_nil))) (eg_name (i := 2) (fun _ => sc_law.nd) (fun _ => rfl) (fun _ => Or.inr rfl)) (ess_cons (es_if (et_cmp (fun _ => op_ne) s_ne (ed_callL (ea_cons (ed_prop (ed_cm (ea_cons (dv 2) ea_nil) (fun _ => pe_glob (v := .ref C_Table) rfl K_Table.g rfl) (fun _ a b => ClX.pe_cmeth a K_Table.rd K_Table.c_likeness (fnok_r G_Table_likeness B_Table_likeness) (hr.mono (by decide)) passN b)) (fun _ h => pe_prop h K_Table.cl K_Table.p_rows G_Table_rows (hr.mono (by decide)) B_Table_rows .nil passN rfl)) ea_nil) s_repr (fun _ a => pe_callB (VK.call_repr gu hr.units) (by rfl) T.n_repr (by decide +kernel) a)) (ed_callL (ea_cons (ed_call (ea_cons (ed_call (ea_cons (dv 2) ea_nil) (fun _ a => pe_call G_likenessL.G (hr.mono (by decide)) rfl G_likenessL.g G_likenessL.k G_likenessL.b .nil passN a)) ea_nil) (fun _ a => pe_call G_plainL.G (hr.mono (by decide)) rfl G_plainL.g G_plainL.k G_plainL.b .nil passN a)) ea_nil) s_repr (fun _ a => pe_callB (VK.call_repr gu hr.units) (by rfl) T.n_repr (by decide +kernel) a)) (nomk _)) (ess_one (es_ret ed_bl)) ess_nil)
      (ess_cons (es_if (et_cmp (fun _ => op_ne) s_ne (ed_callL (ea_cons (ed_prop (ed_cm (ea_cons (dv 2) ea_nil) (fun _ => pe_glob (v := .ref C_Table) rfl K_Table.g rfl) (fun _ a b => ClX.pe_cmeth a K_Table.rd K_Table.c_silence (fnok_r G_Table_silence B_Table_silence) (hr.mono (by decide)) passN b)) (fun _ h => pe_prop h K_Table.cl K_Table.p_rows G_Table_rows (hr.mono (by decide)) B_Table_rows .nil passN rfl)) ea_nil) s_repr (fun _ a => pe_callB (VK.call_repr gu hr.units) (by rfl) T.n_repr (by decide +kernel) a)) (ed_callL (ea_cons (ed_op (fun _ => (op_or op_repT1 op_repT)) s_repT (ed_tup (ea_cons (ed_op (fun _ => (op_or op_repT1 op_repT)) s_repT (ed_tup (ea_cons ed_int ea_nil)) (dv 2)) ea_nil)) (dv 2)) ea_nil) s_repr (fun _ a => pe_callB (VK.call_repr gu hr.units) (by rfl) T.n_repr (by decide +kernel) a)) (nomk _)) (ess_one (es_ret ed_bl)) ess_nil)
      (ess_cons (es_set (i := 3) (fun _ => sc_law.nd) (fun _ => rfl) (fun _ => Or.inr rfl) (ed_call (ea_cons (dv 1) (ea_cons (dv 2) ea_nil)) (fun _ a => pe_call G_pairsL.G (hr.mono (by decide)) rfl G_pairsL.g G_pairsL.k G_pairsL.b .nil passN a)))
      (ess_cons (es_setLc (i := 4) (own := [("_law_a", 6)]) (fun _ => rfl) (fun _ => sc_law.nd) (fun _ => rfl) (fun _ => rfl) (fun _ => sw_true rfl rfl rfl (by decide +kernel)) (ei_range1 (fun _ a => pi_range1 rfl T.n_range a) (ea_cons (dv 2) ea_nil)) (fun _ => blkOk_by (N := ["_law_script", "_law_pen_here", "_law_many", "_law_some", "_law_due", "_law_b", "_law_a", "_law_odd", "_law_worse", "_law_at", "_law_wrong", "_law_number"]) (sc := (defScope st_law)) (by decide +kernel)) (eg_name (i := 6) (fun _ => sc_law.nd) (fun _ => rfl) (fun _ => Or.inr rfl)) lc_yes (ed_lc (own := [("_law_b", 5)]) (fun _ => rfl) (fun _ => sc_law.nd) (ei_range1 (fun _ a => pi_range1 rfl T.n_range a) (ea_cons (dv 2) ea_nil)) (fun _ => blkOk_by (N := ["_law_script", "_law_pen_here", "_law_many", "_law_some", "_law_due", "_law_b", "_law_a", "_law_odd", "_law_worse", "_law_at", "_law_wrong", "_law_number"]) (sc := (relS osc_law (defScope st_law))) (by decide +kernel)) (eg_name (i := 5) (fun _ => sc_law.nd) (fun _ => rfl) (fun _ => Or.inl rfl)) lc_yes (ed_ix (fun _ => ix_list) s_ixL (ed_lst (ea_cons ed_non (ea_cons ed_int ea_nil))) (ed_callL (ea_cons (ed_cmp (fun _ => (op_inD (un65 hr))) s_inP (ed_tup (ea_cons (dv 6) (ea_cons (dv 5) ea_nil))) (dv 3) (by rfl)) ea_nil) s_int (fun _ a => pe_callTy call_int1 (by rfl) T.n_int (by decide +kernel) a)) (fun _ _ => rfl))))
      (ess_cons (es_if (et_cmp (fun _ => op_ne) s_ne (ed_callL (ea_cons (ed_prop (ed_call (ea_cons (dv 2) (ea_cons (dv 3) ea_nil)) (fun _ a => pe_call G_madeL.G (hr.mono (by decide)) rfl G_madeL.g G_madeL.k G_madeL.b .nil passN a)) (fun _ h => pe_prop h K_Table.cl K_Table.p_rows G_Table_rows (hr.mono (by decide)) B_Table_rows .nil passN rfl)) ea_nil) s_repr (fun _ a => pe_callB (VK.call_repr gu hr.units) (by rfl) T.n_repr (by decide +kernel) a)) (ed_callL (ea_cons (ed_call (ea_cons (dv 4) ea_nil) (fun _ a => pe_call G_plainL.G (hr.mono (by decide)) rfl G_plainL.g G_plainL.k G_plainL.b .nil passN a)) ea_nil) s_repr (fun _ a => pe_callB (VK.call_repr gu hr.units) (by rfl) T.n_repr (by decide +kernel) a)) (nomk _)) (ess_one (es_ret ed_bl)) ess_nil)
      (ess_cons (es_set (i := 7) (fun _ => sc_law.nd) (fun _ => rfl) (fun _ => Or.inr rfl) (ed_lst (ea_cons (ed_tup (ea_cons ed_int (ea_cons (dv 2) ea_nil))) (ea_cons (ed_tup (ea_cons (dv 2) (ea_cons ed_int ea_nil))) (ea_cons (ed_tup (ea_cons (ed_un (fun _ => un_neg) s_neg ed_int) (ea_cons ed_int ea_nil))) (ea_cons (ed_tup (ea_cons ed_int ea_nil)) (ea_cons (ed_tup (ea_cons ed_int (ea_cons ed_int (ea_cons ed_int ea_nil)))) (ea_cons (ed_lst (ea_cons ed_int (ea_cons ed_int ea_nil))) (ea_cons (ed_tup (ea_cons ed_bl (ea_cons ed_int ea_nil))) (ea_cons ed_non (ea_cons ed_int (ea_cons ed_str (ea_cons (ed_tup (ea_cons ed_int (ea_cons ed_bl ea_nil))) (ea_cons (ed_tup (ea_cons ed_int (ea_cons (ed_un (fun _ => un_neg) s_neg ed_int) ea_nil))) ea_nil))))))))))))))
      (ess_cons (es_set (i := 7) (fun _ => sc_law.nd) (fun _ => rfl) (fun _ => Or.inr rfl) (ed_call (ea_cons (dv 1) (ea_cons (ed_op (fun _ => op_cat) s_catL (dv 7) (ed_lst (ea_cons (ed_tup (ea_cons ed_non (ea_cons ed_int ea_nil))) (ea_cons (ed_tup (ea_cons ed_str (ea_cons ed_int ea_nil))) (ea_cons (ed_tup (ea_cons (ed_lst ea_nil) (ea_cons ed_int ea_nil))) ea_nil))))) ea_nil)) (fun _ a => pe_call G_pickL.G (hr.mono (by decide)) rfl G_pickL.g G_pickL.k G_pickL.b .nil passN a)))
      (ess_cons (es_set (i := 8) (fun _ => sc_law.nd) (fun _ => rfl) (fun _ => Or.inl rfl) (ed_call (ea_cons (dv 1) (ea_cons (ed_lst (ea_cons ed_non (ea_cons (ed_tup (ea_cons ed_int (ea_cons ed_int ea_nil))) (ea_cons (ed_tup (ea_cons ed_int (ea_cons ed_int ea_nil))) ea_nil)))) ea_nil)) (fun _ a => pe_call G_pickL.G (hr.mono (by decide)) rfl G_pickL.g G_pickL.k G_pickL.b .nil passN a)))
      (ess_cons (es_set (i := 9) (fun _ => sc_law.nd) (fun _ => rfl) (fun _ => Or.inl rfl) (ed_call (ea_cons (dv 1) (ea_cons (ed_op (fun _ => op_add) s_add (ed_callL (ea_cons ed_int (ea_cons (ed_callL (ea_cons (dv 3) ea_nil) s_len (fun _ a => pe_callB call_len_seq (by rfl) T.n_len (by decide +kernel) a)) ea_nil)) s_min2 (fun _ a => pe_callB (call_min2 rfl) (by rfl) T.n_min (by decide +kernel) a)) ed_int) ea_nil)) (fun _ a => pe_call G_drawL.G (hr.mono (by decide)) rfl G_drawL.g G_drawL.k G_drawL.b .nil passN a)))
      (ess_cons (es_set (i := 10) (fun _ => sc_law.nd) (fun _ => rfl) (fun _ => Or.inr rfl) (ed_slTo (ed_op (fun _ => op_cat) s_catL (ed_slTo (dv 3) (dv 9) (fun _ a b => pe_slice sl_list a po_none (po_some b))) (ed_lst (ea_cons (dv 7) (ea_cons (dv 8) ea_nil)))) ed_int (fun _ a b => pe_slice sl_list a po_none (po_some b))))
      (ess_cons (es_if (et_cmp (fun _ => (op_neD hr.units)) s_neP (ed_lam (k := 8) hn0 h00 (fun E2 => (ed_call (ea_cons (dv 2) (ea_cons (dv 10) ea_nil)) (fun z a => pe_call G_madeL.G (z.room.mono (by decide)) rfl G_madeL.g G_madeL.k G_madeL.b .nil passL a))) (fun _ hb => pe_refused (q0 := qLaw) rfl (by rfl) gR kR lkR hcR bR T K_InvalidNumber K_InvalidTable gu (TB _ List.mem_cons_self) hcode (hr.mono (by decide)) (LamX.lamS_by (sc := defScope st_law) (by decide +kernel)) rfl (fun _ _ _ _ _ => rfl) hb)) (ed_lst (ea_cons (ed_callL (ea_cons (dv 7) ea_nil) s_repr (fun _ a => pe_callB (VK.call_repr gu hr.units) (by rfl) T.n_repr (by decide +kernel) a)) ea_nil)) (nomk _)) (ess_one (es_ret ed_bl)) ess_nil)
      (ess_cons (es_if (et_cmp (fun _ => (op_neD hr.units)) s_neP (ed_lam (k := 7) hn0 h00 (fun E2 => (ed_cmP (ea_cons (dv 2) (ea_cons (ed_tup (ea_cons ed_int (ea_cons ed_int ea_nil))) (ea_cons (ed_tup (ea_cons ed_int (ea_cons ed_int ea_nil))) (ea_cons (ed_tup (ea_cons ed_int (ea_cons ed_int ea_nil))) (ea_cons (ed_tup (ea_cons ed_int (ea_cons ed_int ea_nil))) (ea_cons (ed_tup (ea_cons ed_int (ea_cons ed_int ea_nil))) (ea_cons (dv 7) ea_nil))))))) (fun z => pe_glob (v := .ref C_Table) rfl K_Table.g rfl) (fun z a b => ClX.pe_cmeth a K_Table.rd K_Table.c_pairs G_Table_pairs (z.room.mono (by decide)) passL b))) (fun _ hb => pe_refused (q0 := qLaw) rfl (by rfl) gR kR lkR hcR bR T K_InvalidNumber K_InvalidTable gu (TB _ List.mem_cons_self) hcode (hr.mono (by decide)) (LamX.lamS_by (sc := defScope st_law) (by decide +kernel)) rfl (fun _ _ _ _ _ => rfl) hb)) (ed_lst (ea_cons (ed_callL (ea_cons (dv 7) ea_nil) s_repr (fun _ a => pe_callB (VK.call_repr gu hr.units) (by rfl) T.n_repr (by decide +kernel) a)) ea_nil)) (nomk _)) (ess_one (es_ret ed_bl)) ess_nil)
      (ess_cons (es_set (i := 11) (fun _ => sc_law.nd) (fun _ => rfl) (fun _ => Or.inr rfl) (ed_call (ea_cons (dv 1) (ea_cons (ed_lst (ea_cons ed_int (ea_cons ed_int (ea_cons (ed_un (fun _ => un_neg) s_neg ed_int) (ea_cons ed_bl (ea_cons ed_non (ea_cons ed_str (ea_cons (ed_tup (ea_cons ed_int ea_nil)) (ea_cons (ed_lst ea_nil) (ea_cons (ed_op (fun _ => op_pow) s_pow ed_int ed_int) ea_nil)))))))))) ea_nil)) (fun _ a => pe_call G_pickL.G (hr.mono (by decide)) rfl G_pickL.g G_pickL.k G_pickL.b .nil passN a)))
      (ess_cons (es_if (et_cmp (fun _ => (op_neD hr.units)) s_neP (ed_lam (k := 7) hn0 h00 (fun E2 => (ed_cm (ea_cons (dv 11) ea_nil) (fun z => pe_glob (v := .ref C_Table) rfl K_Table.g rfl) (fun z a b => ClX.pe_cmeth a K_Table.rd K_Table.c_likeness (fnok_r G_Table_likeness B_Table_likeness) (z.room.mono (by decide)) passL b))) (fun _ hb => pe_refused (q0 := qLaw) rfl (by rfl) gR kR lkR hcR bR T K_InvalidNumber K_InvalidTable gu (TB _ List.mem_cons_self) hcode (hr.mono (by decide)) (LamX.lamS_by (sc := defScope st_law) (by decide +kernel)) rfl (fun _ _ _ _ _ => rfl) hb)) (ed_lst (ea_cons (ed_callL (ea_cons (dv 11) ea_nil) s_repr (fun _ a => pe_callB (VK.call_repr gu hr.units) (by rfl) T.n_repr (by decide +kernel) a)) ea_nil)) (nomk _)) (ess_one (es_ret ed_bl)) ess_nil)
      (ess_cons (es_if (et_cmp (fun _ => (op_neD hr.units)) s_neP (ed_lam (k := 7) hn0 h00 (fun E2 => (ed_cmK (dv 11) (fun z _ => rfl) (fun z => pe_glob (v := .ref C_Table) rfl K_Table.g rfl) (fun z a b => pe_cmK a K_Table.rd K_Table.c_silence G_Table_silence (z.room.mono (by decide)) KB_Table_silence passL (pk_cons b pk_nil)))) (fun _ hb => pe_refused (q0 := qLaw) rfl (by rfl) gR kR lkR hcR bR T K_InvalidNumber K_InvalidTable gu (TB _ List.mem_cons_self) hcode (hr.mono (by decide)) (LamX.lamS_by (sc := defScope st_law) (by decide +kernel)) rfl (fun _ _ _ _ _ => rfl) hb)) (ed_lst (ea_cons (ed_callL (ea_cons (dv 11) ea_nil) s_repr (fun _ a => pe_callB (VK.call_repr gu hr.units) (by rfl) T.n_repr (by decide +kernel) a)) ea_nil)) (nomk _)) (ess_one (es_ret ed_bl)) ess_nil)
      (ess_one (es_if (et_cmp (fun _ => (op_neD hr.units)) s_neP (ed_lam (k := 7) hn0 h00 (fun E2 => (ed_cmP (ea_cons (dv 11) (ea_cons (dv 7) ea_nil)) (fun z => pe_glob (v := .ref C_Table) rfl K_Table.g rfl) (fun z a b => ClX.pe_cmeth a K_Table.rd K_Table.c_pairs G_Table_pairs (z.room.mono (by decide)) passL b))) (fun _ hb => pe_refused (q0 := qLaw) rfl (by rfl) gR kR lkR hcR bR T K_InvalidNumber K_InvalidTable gu (TB _ List.mem_cons_self) hcode (hr.mono (by decide)) (LamX.lamS_by (sc := defScope st_law) (by decide +kernel)) rfl (fun _ _ _ _ _ => rfl) hb)) (ed_lst (ea_cons (ed_callL (ea_cons (dv 11) ea_nil) s_repr (fun _ a => pe_callB (VK.call_repr gu hr.units) (by rfl) T.n_repr (by decide +kernel) a)) ea_nil)) (nomk _)) (ess_one (es_ret ed_bl)) ess_nil))))))))))))))))))
      (ess_one (es_ret (ed_cmp (fun _ => (op_eqD hr.units)) s_eqP (ed_lst (ea_cons (ed_cval K_Table.rd K_Table.v_MOST_LETTERS (fun _ _ => .int _) (fun _ => ClX.pe_cval (pe_glob (v := .ref C_Table) rfl K_Table.g rfl))) (ea_cons (ed_cval K_Table.rd K_Table.v_MOST_TIMES (fun _ _ => .int _) (fun _ => ClX.pe_cval (pe_glob (v := .ref C_Table) rfl K_Table.g rfl))) ea_nil))) (ed_lst (ea_cons ed_int (ea_cons (ed_op (fun _ => op_pow) s_pow ed_int ed_int) ea_nil))) (nomk _)))))
    refine ⟨_, (pss_cons (rest := (defBody st_law).tail) (ps_set (i := 1) sc_law.nd rfl (Or.inl rfl) (pe_call G_pen hr1 rfl g_pen k_pen b_pen .nil pass0 (pa_cons (pv 0) pa_nil))) pss_any), ?_⟩
    refine ⟨_, rfl, a, ns, rfl, hS, hlen, fun p c H1 hp hc g1 g2 s1 => ?_⟩
    have gt : TabG Pt qLL (fun _ => False) H1 := by
      obtain ⟨ps, t1, t2, t3⟩ := tbs _ List.mem_cons_self
      refine ⟨fun z => z, ps, s1 _ _ t1, t2, fun pos cv e => ?_⟩
      obtain ⟨c, e1, e2⟩ := t3 pos cv e
      exact ⟨c, e1, s1 _ _ e2, fun z => z⟩
    have h2 : ∀ b, (law_R Pt).mu (p, c, ns) b → lessT Pt H1 b ≠ none := fun b e => by
      rcases e with e | e
      · rw [e, lessT_of g1 (fun _ z => by cases z)]
        nofun
      · obtain ⟨_, ps, t1, _⟩ := gt
        rw [e, lessT_pt t1]
        nofun
    have hq : ∀ H', (∀ b o, lessT Pt H1 b = some o → ¬ (law_R Pt).mu (p, c, ns) b → H' b = some o) → SqL K H' a (ns.map V.int) := fun H' k2 => by
      have nm : ∀ b o, H b = some o → (∀ ps, o ≠ .tbl ps) → H' b = some o := fun b o e n => by
        refine k2 b o (lessT_of (s1 _ _ e) n) fun z => ?_
        rcases z with z | z
        · have z : b = p := z
          rw [z, hp] at e
          cases e
        · obtain ⟨_, ps, t1, _⟩ := gt
          have q := s1 _ _ e
          rw [z, t1] at q
          cases q
          exact n ps rfl
      rcases hS with (h | ⟨o, h⟩) | h
      · exact .inl (.inl (nm _ _ h (fun _ z => by cases z)))
      · exact .inl (.inr ⟨o, nm _ _ h (fun _ z => by cases z)⟩)
      · exact .inr h
    obtain ⟨t, pt, snd⟩ := body p c (lessT Pt H1) (fun _ z => z.elim) h2 lessT_nt hq
    refine ⟨t, pt (), ?_⟩
    obtain ⟨g', e⟩ := math a p c ns hlen
    refine snd (sl0 a p) [] [] ((0, 0) : Int × Int) _ H1 _ (start_law g1 g2 gt lessT_le) ?_
    rw [e]
    intro v H2 _ dv
    cases dv
    exact k H2
end
end DL

set_option maxHeartbeats 1000000
namespace DL
open PySem PySem.Spec PyProof.Rows L2
section
variable {R : Rs} {ix : R.ix} {g : R.α} {C_Table : Addr} {k : Nat} {sl : List SV} {f x y : Tb}
theorem m_likL (h2 : k ≤ 5) : F_likenessL ix g [.int k] = .ok (lstR (tb k likF)) g := by
  unfold F_likenessL
  rw [lstR_tb]
  refine r_run (r_ret (r_lc (ys := (List.range k).map fun i => .lst (row k (likF i))) (by rw [r_range (n := k) (r_cons r_var r_nil) (by omega), rng_eq]) (lcD_map _ _ (fun (i : Nat) => [.dat (.int k), .un, .dat (.int i)]) _ (fun i _ => rfl) fun i _ => ?_) (by simp; omega)))
  refine r_lc (ys := row k (likF i)) (by rw [r_range (n := k) (r_cons r_var r_nil) (by omega), rng_eq]) (lcD_map _ (fun j => toP (likF i j)) (fun (j : Nat) => [.dat (.int k), .dat (.int j), .dat (.int i)]) _ (fun j _ => rfl) fun j _ => ?_) (by rw [row_len]; omega)
  by_cases c : i = j
  · subst c
    simp [likF, toP, runF, runI, startS, startI, Ro.fin, Ro.fini, Ro.seq, sRet, sRetN, sRetMu, sSeq, sNx, sIf, sSet, sExpr, sNever, sNewL, sNewLs, sApp, sExt, sFldS, sPar, sAsgT, sFrz, MO.d, putFD, Rr.bind, Rr.toS, Rr.noerr, nerr, fVar, fC, fOp, fUn, fNil, fCons, fLst, fTup, fCallL, fNot, fAnd, fOr, fIf, fChain, fCall, fMeth, fFld, fProp, fMake, fMakeS, fDGet, fDisp, fPs, mergeKD, putKD, valD, tVal, tNotF, tAndF, tOrF, tYesF, iL, iT, iLT, iR1, iR2, iEn, enumD, sFor, gN, gT, gsNil, gsCons, lift1, lift2, liftL, addI, subI, ltI, leI, gtI, geI, mulI, modI, divI, powI, negI, dI, dIc, isN, notN, D.isNon, eqD, neD, eqS, catL, catT, repL, ixL, ixT, lenD, intD, absD, min2D, max2D, listD, tupleD, allD, blL, isiL, isiT0, kt0, kt1, tyNm, subT, eqE]
    rfl
  · have c' : ¬ ((i : Int) = (j : Int)) := by omega
    simp [likF, toP, c, c', runF, runI, startS, startI, Ro.fin, Ro.fini, Ro.seq, sRet, sRetN, sRetMu, sSeq, sNx, sIf, sSet, sExpr, sNever, sNewL, sNewLs, sApp, sExt, sFldS, sPar, sAsgT, sFrz, MO.d, putFD, Rr.bind, Rr.toS, Rr.noerr, nerr, fVar, fC, fOp, fUn, fNil, fCons, fLst, fTup, fCallL, fNot, fAnd, fOr, fIf, fChain, fCall, fMeth, fFld, fProp, fMake, fMakeS, fDGet, fDisp, fPs, mergeKD, putKD, valD, tVal, tNotF, tAndF, tOrF, tYesF, iL, iT, iLT, iR1, iR2, iEn, enumD, sFor, gN, gT, gsNil, gsCons, lift1, lift2, liftL, addI, subI, ltI, leI, gtI, geI, mulI, modI, divI, powI, negI, dI, dIc, isN, notN, D.isNon, eqD, neD, eqS, catL, catT, repL, ixL, ixT, lenD, intD, absD, min2D, max2D, listD, tupleD, allD, blL, isiL, isiT0, kt0, kt1, tyNm, subT, eqE]
    rfl
end
theorem paired_mk {P : Nat × Nat → Prop} : ∀ {ds xs : List D}, Paired (fun _ x => ∃ q : Nat × Nat, x = mkP q ∧ P q) ds xs → ∃ qs : List (Nat × Nat), xs = qs.map mkP ∧ (∀ q ∈ qs, P q) ∧ qs.length = ds.length
  | _, _, .nil => ⟨[], rfl, (fun _ h => nomatch h), rfl⟩
  | _, _, .cons ⟨q, e, p⟩ r => by
    obtain ⟨qs, e2, p2, l2⟩ := paired_mk r
    refine ⟨q :: qs, by rw [e, e2, List.map_cons], fun x h => ?_, by simp [l2]⟩
    rcases List.mem_cons.mp h with rfl | h
    · exact p
    · exact p2 x h
theorem rep_map (x : D) (k : Nat) : (List.replicate k [x]).flatten = (List.range k).map fun _ => x := by
  induction k with
  | zero => rfl
  | succ k ih => rw [List.replicate_succ', List.flatten_append, ih, List.range_succ, List.map_append]; rfl
theorem repT_map (x : D) {k : Nat} (h1 : 1 ≤ k) (h5 : k ≤ 5) : repT (.tup [x]) (.int k) = some (.tup ((List.range k).map fun _ => x)) := by
  unfold repT
  dsimp only
  by_cases c : k = 1
  · subst c
    rfl
  · rw [if_neg (by omega), if_pos ⟨by simp, by omega, by omega, by simp⟩, Int.toNat_natCast, rep_map]
theorem neS {s : Str} : neD (.str s) (.str s) = some (.bl false) := by simp [neD, eqS]
theorem py_str {s : Str} {m : Nat} (h : PyData.strOk s = true) : PyL (.str s) m := ⟨.str s, by simp only [toPy], by simp only [PyData.canLay0]; exact h, by simp only [PyData.depth]; exact Nat.zero_le _⟩
theorem neL {s : Str} (h : PyData.strOk s = true) : neP (.lst [.str s]) (.lst [.str s]) = some (.bl false) := neP_self (m := 1) (py_lst fun x q => by rw [List.mem_singleton.mp q]; exact py_str h) (by decide)
theorem p30 : powI (.int 10) (.int 30) = some (.int 1000000000000000000000000000000) := rfl
section
variable {ix : RP.ix} {g : RP.α} {N : Int} {k : Nat}
theorem f_pick {xs : List D} (h : Okg N g) (hN : N ≤ 1000000000) (hz : 0 < xs.length) (hz2 : xs.length ≤ 1000) : ∃ x ∈ xs, ∃ g1, F_pickL ix g [.hd ix.1, .lst xs] = .ok x g1 ∧ Okg (N + 1) g1 := by
  obtain ⟨i, g1, e, q0, q1, q2⟩ := f_draw (ix := ix) (z := xs.length) h hN (by omega) (by omega)
  obtain ⟨j, hj, _, e2⟩ := atIn q0 q1
  refine ⟨xs[j], List.getElem_mem hj, g1, ?_, q2⟩
  exact r_run (r_ret (r_op (x := .lst xs) (y := .int i) r_var (r_call (r_cons r_var (r_cons (r_callL (r_cons r_var r_nil) rfl) r_nil)) e) e2))
theorem f_pairs (h : Okg N g) (hN : N ≤ 100000000) (k1 : 1 ≤ k) (k5 : k ≤ 5) : ∃ (qs : List (Nat × Nat)) (g1 : RP.α), F_pairsL ix g [.hd ix.1, .int k] = .ok (.lst (qs.map mkP)) g1 ∧ (∀ q ∈ qs, q.1 < k ∧ q.2 < k) ∧ qs.length ≤ 4 ∧ Okg (N + 20) g1 := by
  obtain ⟨i, g1, e1, a1, b1, h1⟩ := f_draw (ix := ix) (z := 5) h (by omega) (by decide) (by decide)
  obtain ⟨m, rfl⟩ : ∃ m : Nat, i = (m : Int) := ⟨i.toNat, by omega⟩
  obtain ⟨xs, g2, e2, p2, h2⟩ := lc_inv (R := RP) (gf := gN 2) (fe := (fTup (fCons (fCall 2 (F_drawL ix) [] (fCons (fVar 0) (fCons (fVar 1) fNil))) (fCons (fCall 2 (F_drawL ix) [] (fCons (fVar 0) (fCons (fVar 1) fNil))) fNil)))) (sl := [.dat (.hd ix.1), .dat (.int k), .un]) (fun j g => Okg (N + 1 + 2 * j) g) (fun _ x => ∃ q : Nat × Nat, x = mkP q ∧ q.1 < k ∧ q.2 < k) (rngD 0 m) 0 g1 (by simpa using h1) (fun j d g hj hg => by
    have hj2 : j < m := by
      have := (List.getElem?_eq_some_iff.mp hj).1
      rwa [rngD_len] at this
    rw [Nat.zero_add] at hg
    obtain ⟨u, g3, f1, u1, u2, o1⟩ := f_draw (ix := ix) (z := k) hg (by omega) (by omega) (by omega)
    obtain ⟨v, g4, f2, v1, v2, o2⟩ := f_draw (ix := ix) (z := k) o1 (by omega) (by omega) (by omega)
    obtain ⟨a, rfl⟩ : ∃ a : Nat, u = (a : Int) := ⟨u.toNat, by omega⟩
    obtain ⟨b, rfl⟩ : ∃ b : Nat, v = (b : Int) := ⟨v.toNat, by omega⟩
    refine ⟨[.dat (.hd ix.1), .dat (.int k), .dat d], .tup [.int a, .int b], g4, rfl, r_tup (r_cons (r_call (r_cons r_var (r_cons r_var r_nil)) f1) (r_cons (r_call (r_cons r_var (r_cons r_var r_nil)) f2) r_nil)), ⟨(a, b), rfl, by show a < k; omega, by show b < k; omega⟩, o2.mono (by omega)⟩)
  obtain ⟨qs, rfl, hq, lq⟩ := paired_mk p2
  rw [rngD_len] at h2 lq
  refine ⟨qs, g2, ?_, hq, by omega, h2.mono (by omega)⟩
  unfold F_pairsL
  exact r_run (r_ret (r_lc (r_range (n := m) (r_cons (r_call (r_cons r_var (r_cons r_c r_nil)) e1) r_nil) (by omega)) e2 (by simp; omega)))
end
end DL

set_option maxHeartbeats 1000000
namespace DL
open PySem PySem.Spec PyProof.Rows L2
abbrev turn02 (Pt : Addr) (C_InvalidNumber C_InvalidTable C_Table : Addr) (ix : (law_R Pt).ix) : FS (law_R Pt) := (sSeq (sIf (tVal (fOp neD (fCallL reprD (fCons (fProp C_Table ((F_Table_rows C_Table) ix) (fCm C_Table 2 ((F_Table_likeness C_InvalidNumber C_Table) ix) (fCons (fVar 2) fNil))) fNil)) (fCallL reprD (fCons (fCall 1 (F_plainL ix) [] (fCons (fCall 1 (F_likenessL ix) [] (fCons (fVar 2) fNil)) fNil)) fNil)))) (sRet (fC (.bl false))) sNx) (sSeq (sIf (tVal (fOp neD (fCallL reprD (fCons (fProp C_Table ((F_Table_rows C_Table) ix) (fCm C_Table 2 ((F_Table_silence C_InvalidNumber C_Table) ix) (fCons (fVar 2) fNil))) fNil)) (fCallL reprD (fCons (fOp repT (fTup (fCons (fOp repT (fTup (fCons (fC (.int 0)) fNil)) (fVar 2)) fNil)) (fVar 2)) fNil)))) (sRet (fC (.bl false))) sNx) (sSeq (sSet 3 (fCall 2 (F_pairsL ix) [] (fCons (fVar 1) (fCons (fVar 2) fNil)))) (sSeq (sSet 4 (fLc (iR1 (fCons (fVar 2) fNil)) [6] (gN 6) tYesF (fLc (iR1 (fCons (fVar 2) fNil)) [5] (gN 5) tYesF (fOp ixL (fLst (fCons (fC .non) (fCons (fC (.int 0)) fNil))) (fCallL intD (fCons (fOp inP (fTup (fCons (fVar 6) (fCons (fVar 5) fNil))) (fVar 3)) fNil)))))) (sSeq (sIf (tVal (fOp neD (fCallL reprD (fCons (fProp C_Table ((F_Table_rows C_Table) ix) (fCall 2 ((F_madeL C_InvalidNumber C_Table) ix) [] (fCons (fVar 2) (fCons (fVar 3) fNil)))) fNil)) (fCallL reprD (fCons (fCall 1 (F_plainL ix) [] (fCons (fVar 4) fNil)) fNil)))) (sRet (fC (.bl false))) sNx) (sSeq (sSet 7 (fLst (fCons (fTup (fCons (fC (.int 0)) (fCons (fVar 2) fNil))) (fCons (fTup (fCons (fVar 2) (fCons (fC (.int 0)) fNil))) (fCons (fTup (fCons (fUn negI (fC (.int 1))) (fCons (fC (.int 0)) fNil))) (fCons (fTup (fCons (fC (.int 0)) fNil)) (fCons (fTup (fCons (fC (.int 0)) (fCons (fC (.int 0)) (fCons (fC (.int 0)) fNil)))) (fCons (fLst (fCons (fC (.int 0)) (fCons (fC (.int 0)) fNil))) (fCons (fTup (fCons (fC (.bl true)) (fCons (fC (.int 0)) fNil))) (fCons (fC .non) (fCons (fC (.int 0)) (fCons (fC (.str "00")) (fCons (fTup (fCons (fC (.int 0)) (fCons (fC (.bl true)) fNil))) (fCons (fTup (fCons (fC (.int 0)) (fCons (fUn negI (fC (.int 1))) fNil))) fNil)))))))))))))) (sSeq (sSet 7 (fCall 2 (F_pickL ix) [] (fCons (fVar 1) (fCons (fOp catL (fVar 7) (fLst (fCons (fTup (fCons (fC .non) (fCons (fC (.int 0)) fNil))) (fCons (fTup (fCons (fC (.str "0")) (fCons (fC (.int 0)) fNil))) (fCons (fTup (fCons (fLst fNil) (fCons (fC (.int 0)) fNil))) fNil))))) fNil)))) (sSeq (sSet 8 (fCall 2 (F_pickL ix) [] (fCons (fVar 1) (fCons (fLst (fCons (fC .non) (fCons (fTup (fCons (fC (.int 0)) (fCons (fC (.int 9)) fNil))) (fCons (fTup (fCons (fC (.int 0)) (fCons (fC (.int 0)) fNil))) fNil)))) fNil)))) (sSeq (sSet 9 (fCall 2 (F_drawL ix) [] (fCons (fVar 1) (fCons (fOp addI (fCallL min2D (fCons (fC (.int 3)) (fCons (fCallL lenD (fCons (fVar 3) fNil)) fNil))) (fC (.int 1))) fNil)))) (sSeq (sSet 10 (fSlTo (fOp catL (fSlTo (fVar 3) (fVar 9)) (fLst (fCons (fVar 7) (fCons (fVar 8) fNil)))) (fC (.int 4)))) (sSeq (sIf (tVal (fOp neP (fRef C_InvalidNumber (fCall 2 ((F_madeL C_InvalidNumber C_Table) ix) [] (fCons (fVar 2) (fCons (fVar 10) fNil)))) (fLst (fCons (fCallL reprD (fCons (fVar 7) fNil)) fNil)))) (sRet (fC (.bl false))) sNx) (sSeq (sIf (tVal (fOp neP (fRef C_InvalidNumber (fCmP C_Table ((F_Table_pairs C_InvalidNumber C_Table) ix) (fCons (fVar 2) (fCons (fTup (fCons (fC (.int 0)) (fCons (fC (.int 0)) fNil))) (fCons (fTup (fCons (fC (.int 0)) (fCons (fC (.int 0)) fNil))) (fCons (fTup (fCons (fC (.int 0)) (fCons (fC (.int 0)) fNil))) (fCons (fTup (fCons (fC (.int 0)) (fCons (fC (.int 0)) fNil))) (fCons (fTup (fCons (fC (.int 0)) (fCons (fC (.int 0)) fNil))) (fCons (fVar 7) fNil))))))))) (fLst (fCons (fCallL reprD (fCons (fVar 7) fNil)) fNil)))) (sRet (fC (.bl false))) sNx) (sSeq (sSet 11 (fCall 2 (F_pickL ix) [] (fCons (fVar 1) (fCons (fLst (fCons (fC (.int 0)) (fCons (fC (.int 6)) (fCons (fUn negI (fC (.int 1))) (fCons (fC (.bl true)) (fCons (fC .non) (fCons (fC (.str "2")) (fCons (fTup (fCons (fC (.int 2)) fNil)) (fCons (fLst fNil) (fCons (fOp powI (fC (.int 10)) (fC (.int 30))) fNil)))))))))) fNil)))) (sSeq (sIf (tVal (fOp neP (fRef C_InvalidNumber (fCm C_Table 2 ((F_Table_likeness C_InvalidNumber C_Table) ix) (fCons (fVar 11) fNil))) (fLst (fCons (fCallL reprD (fCons (fVar 11) fNil)) fNil)))) (sRet (fC (.bl false))) sNx) (sSeq (sIf (tVal (fOp neP (fRef C_InvalidNumber (fCm C_Table 2 ((F_Table_silence C_InvalidNumber C_Table) ix) (fCons (fVar 11) fNil))) (fLst (fCons (fCallL reprD (fCons (fVar 11) fNil)) fNil)))) (sRet (fC (.bl false))) sNx) (sIf (tVal (fOp neP (fRef C_InvalidNumber (fCmP C_Table ((F_Table_pairs C_InvalidNumber C_Table) ix) (fCons (fVar 11) (fCons (fVar 7) fNil)))) (fLst (fCons (fCallL reprD (fCons (fVar 11) fNil)) fNil)))) (sRet (fC (.bl false))) sNx))))))))))))))))
section
variable {Pt : Addr} {ix : (law_R Pt).ix} {g : (law_R Pt).α} {N : Int} {C_Table C_InvalidNumber C_InvalidTable : Addr} {k : Nat} {f : Tb}
theorem due_ok {qs : List (Nat × Nat)} {s0 s1 s4 s7 s8 s9 s10 s11 : SV} (k5 : k ≤ 5) : (fLc (iR1 (fCons (fVar 2) fNil)) [6] (gN 6) tYesF (fLc (iR1 (fCons (fVar 2) fNil)) [5] (gN 5) tYesF (fOp ixL (fLst (fCons (fC .non) (fCons (fC (.int 0)) fNil))) (fCallL intD (fCons (fOp inP (fTup (fCons (fVar 6) (fCons (fVar 5) fNil))) (fVar 3)) fNil)))) : FE (law_R Pt)) [s0, s1, .dat (.int k), .dat (.lst (qs.map mkP)), s4, .un, .un, s7, s8, s9, s10, s11] g = .ok (lstR (tb k (prF qs))) g := by
  rw [lstR_tb]
  refine r_lc (ys := (List.range k).map fun i => .lst (row k (prF qs i))) (by rw [r_range (n := k) (r_cons r_var r_nil) (by omega), rng_eq]) (lcD_map _ _ (fun (i : Nat) => [s0, s1, .dat (.int k), .dat (.lst (qs.map mkP)), s4, .un, .dat (.int i), s7, s8, s9, s10, s11]) _ (fun i _ => rfl) fun i _ => ?_) (by simp; omega)
  refine r_lc (ys := row k (prF qs i)) (by rw [r_range (n := k) (r_cons r_var r_nil) (by omega), rng_eq]) (lcD_map _ (fun j => toP (prF qs i j)) (fun (j : Nat) => [s0, s1, .dat (.int k), .dat (.lst (qs.map mkP)), s4, .dat (.int j), .dat (.int i), s7, s8, s9, s10, s11]) _ (fun j _ => rfl) fun j _ => ?_) (by rw [row_len]; omega)
  refine r_op (y := .int (if (i, j) ∈ qs then 1 else 0)) (r_lst (r_cons r_c (r_cons r_c r_nil))) (r_callL (r_cons (r_op (r_tup (r_cons r_var (r_cons r_var r_nil))) r_var (inP_mk (i, j) qs)) r_nil) ?_) ?_
  · by_cases c : (i, j) ∈ qs
    · rw [decide_eq_true c, if_pos c]; rfl
    · rw [decide_eq_false c, if_neg c]; rfl
  · by_cases c : (i, j) ∈ qs
    · simp only [prF, if_pos c]; rfl
    · simp only [prF, if_neg c]; rfl
theorem sil_ok {sl : List SV} (k1 : 1 ≤ k) (k5 : k ≤ 5) (e : sl[2]? = some (.dat (.int k))) : (fOp repT (fTup (fCons (fOp repT (fTup (fCons (fC (.int 0)) fNil)) (fVar 2)) fNil)) (fVar 2) : FE (law_R Pt)) sl g = .ok (tupR (tb k silF)) g := by
  rw [tupR_tb]
  exact r_op (r_tup (r_cons (r_op (r_tup (r_cons r_c r_nil)) (r_var e) (repT_map _ k1 k5)) r_nil)) (r_var e) (repT_map _ k1 k5)
theorem min_ok {qs : List (Nat × Nat)} : min2D [.int 3, .int ((qs.map mkP).length : Nat)] = some (.int ((min 3 qs.length : Nat) : Int)) := by
  simp only [min2D, List.length_map]
  congr 2
  omega
theorem wr_ok {qs : List (Nat × Nat)} {sl : List SV} {odd wo : D} {at_ : Nat} (lat : at_ ≤ 3 ∧ at_ ≤ qs.length) (e3 : sl[3]? = some (.dat (.lst (qs.map mkP)))) (e9 : sl[9]? = some (.dat (.int at_))) (e7 : sl[7]? = some (.dat odd)) (e8 : sl[8]? = some (.dat wo))
    (wr : ((qs.map mkP).take at_ ++ [odd, wo]).take 4 = (qs.take at_).map mkP ++ odd :: ([wo].take (3 - at_))) : (fSlTo (fOp catL (fSlTo (fVar 3) (fVar 9)) (fLst (fCons (fVar 7) (fCons (fVar 8) fNil)))) (fC (.int 4)) : FE (law_R Pt)) sl g = .ok (.lst ((qs.take at_).map mkP ++ odd :: ([wo].take (3 - at_)))) g := by
  have ec : catL (.lst ((qs.map mkP).take at_)) (.lst [odd, wo]) = some (.lst ((qs.map mkP).take at_ ++ [odd, wo])) := by
    unfold catL
    dsimp only
    rw [if_pos (by simp; omega)]
  have := r_slTo (R := law_R Pt) (ds := (qs.map mkP).take at_ ++ [odd, wo]) (i := 4) (sl := sl) (g := g) (g1 := g) (g2 := g) (r_op (x := .lst ((qs.map mkP).take at_)) (y := .lst [odd, wo]) (r_slTo (i := (at_ : Int)) (r_var e3) (r_var e9) (by omega)) (r_lst (r_cons (r_var e7) (r_cons (r_var e8) r_nil))) ec) (r_c (x := .int 4)) (by decide)
  rw [show (4 : Int).toNat = 4 from rfl, wr] at this
  exact this
theorem m_turn02 {s0 s3 s4 s7 s8 s9 s10 s11 : SV} (k1 : 1 ≤ k) (k5 : k ≤ 5) (h : Okg N g) (hN : N ≤ 10000000) : ∃ s3' s4' s7' s8' s9' s10' s11' g', turn02 Pt C_InvalidNumber C_InvalidTable C_Table ix [s0, .dat (.hd ix.1), .dat (.int k), s3, s4, .un, .un, s7, s8, s9, s10, s11] g = .nx [s0, .dat (.hd ix.1), .dat (.int k), s3', s4', .un, .un, s7', s8', s9', s10', s11'] g' ∧ Okg (N + 100) g' := by
  obtain ⟨qs, g1, e1, hq, lq, h1⟩ := f_pairs (ix := ix) h (by omega) k1 k5
  obtain ⟨odd, ho, g2, e2, h2⟩ := f_pick (ix := ix) (xs := oddsA k ++ oddsB) h1 (by omega) (by simp) (by simp)
  obtain ⟨wo, _, g3, e3, h3⟩ := f_pick (ix := ix) (xs := [.non, .tup [.int 0, .int 9], .tup [.int 0, .int 0]]) h2 (by omega) (by simp) (by simp)
  obtain ⟨i, g4, e4, a4, b4, h4⟩ := f_draw (ix := ix) (z := ((min 3 qs.length : Nat) : Int) + 1) h3 (by omega) (by omega) (by omega)
  obtain ⟨at_, rfl⟩ : ∃ m : Nat, i = (m : Int) := ⟨i.toNat, by omega⟩
  obtain ⟨nu, hn, g5, e5, h5⟩ := f_pick (ix := ix) (xs := nums) h4 (by omega) (by simp) (by simp)
  have bd : ∀ (f : Tb), (∀ i j, f i j = none ∨ f i j = some 0) → ∀ i j, Bn 1000000000000000000000 (f i j) := fun f hf i j n e => by
    rcases hf i j with z | z
    · rw [z] at e; cases e
    · rw [z] at e; cases e; decide
  obtain ⟨sl, rl⟩ := repr_tb k5 (bd likF fun i j => by unfold likF; split <;> simp)
  obtain ⟨ss, rs⟩ := repr_tb k5 (bd silF fun i j => .inr rfl)
  obtain ⟨sp, rp⟩ := repr_tb k5 (bd (prF qs) fun i j => by unfold prF; split <;> simp)
  obtain ⟨so, ro, oo⟩ := odd_repr k1 k5 odd ho
  obtain ⟨sn, rn, on⟩ := num_repr nu hn
  have ob := fun (R : Rs) (ix : R.ix) (g : R.α) => odd_bad (R := R) (ix := ix) (g := g) k1 odd ho
  have lat : at_ ≤ 3 ∧ at_ ≤ qs.length := by omega
  have wr : ((qs.map mkP).take at_ ++ [odd, wo]).take 4 = (qs.take at_).map mkP ++ odd :: ([wo].take (3 - at_)) := by
    rw [List.map_take, List.take_append]
    have l1 : ((qs.map mkP).take at_).length = at_ := by simp; omega
    rw [l1, List.take_of_length_le (by rw [l1]; omega), show 4 - at_ = (3 - at_) + 1 by omega, List.take_succ_cons]
  have hq2 : ∀ q ∈ qs.take at_, q.1 < k ∧ q.2 < k := fun q m => hq q (List.mem_of_mem_take m)
  have lw : ((qs.take at_).map mkP ++ odd :: ([wo].take (3 - at_))).length ≤ 4 := by
    rw [← wr]
    exact List.length_take_le _ _
  have hz : ∀ q ∈ [((0, 0) : Nat × Nat), (0, 0), (0, 0), (0, 0), (0, 0)], q.1 < k ∧ q.2 < k := fun q m => by
    simp only [List.mem_cons, List.not_mem_nil, or_false, or_self] at m
    subst m
    exact ⟨by show 0 < k; omega, by show 0 < k; omega⟩
  refine ⟨.dat (.lst (qs.map mkP)), .dat (lstR (tb k (prF qs))), .dat odd, .dat wo, .dat (.int at_), .dat (.lst ((qs.take at_).map mkP ++ odd :: ([wo].take (3 - at_)))), .dat nu, g5, ?_, h5.mono⟩
  refine r_seq (r_sif_f (r_val (r_op (x := .str sl) (y := .str sl) (r_callL (r_cons (r_prop (rows := tb k likF) (r_cm (r_cons r_var r_nil) (m_lik k1 k5)) m_trows) r_nil) rl) (r_callL (r_cons (r_call (r_cons (r_call (r_cons r_var r_nil) (m_likL k5)) r_nil) (m_plain k5)) r_nil) rl) neS)) r_nx) ?_
  refine r_seq (r_sif_f (r_val (r_op (x := .str ss) (y := .str ss) (r_callL (r_cons (r_prop (rows := tb k silF) (r_cm (r_cons r_var r_nil) (m_sil k1 k5)) m_trows) r_nil) rs) (r_callL (r_cons (sil_ok k1 k5 rfl) r_nil) rs) neS)) r_nx) ?_
  refine r_seq (r_set (r_call (r_cons r_var (r_cons r_var r_nil)) e1)) ?_
  refine r_seq (r_set (due_ok k5)) ?_
  refine r_seq (r_sif_f (r_val (r_op (x := .str sp) (y := .str sp) (r_callL (r_cons (r_prop (rows := tb k (prF qs)) (r_callE (r_cons r_var (r_cons r_var r_nil)) ((m_made (by simpa using lq)).trans (m_pairs k1 k5 hq)) rfl) m_trows) r_nil) rp) (r_callL (r_cons (r_call (r_cons r_var r_nil) (m_plain k5)) r_nil) rp) neS)) r_nx) ?_
  refine r_seq (r_set (x := .lst (oddsA k)) (r_lst (r_cons (r_tup (r_cons r_c (r_cons r_var r_nil))) (r_cons (r_tup (r_cons r_var (r_cons r_c r_nil))) (r_cons (r_tup (r_cons (r_un r_c rfl) (r_cons r_c r_nil))) (r_cons (r_tup (r_cons r_c r_nil)) (r_cons (r_tup (r_cons r_c (r_cons r_c (r_cons r_c r_nil)))) (r_cons (r_lst (r_cons r_c (r_cons r_c r_nil))) (r_cons (r_tup (r_cons r_c (r_cons r_c r_nil))) (r_cons r_c (r_cons r_c (r_cons r_c (r_cons (r_tup (r_cons r_c (r_cons r_c r_nil))) (r_cons (r_tup (r_cons r_c (r_cons (r_un r_c rfl) r_nil))) r_nil)))))))))))))) ?_
  refine r_seq (r_set (r_call (r_cons r_var (r_cons (r_op (z := .lst (oddsA k ++ oddsB)) (r_var (x := .lst (oddsA k))) (r_lst (xs := oddsB) (r_cons (r_tup (r_cons r_c (r_cons r_c r_nil))) (r_cons (r_tup (r_cons r_c (r_cons r_c r_nil))) (r_cons (r_tup (r_cons (r_lst r_nil) (r_cons r_c r_nil))) r_nil)))) rfl) r_nil)) e2)) ?_
  refine r_seq (r_set (r_call (r_cons r_var (r_cons (r_lst (r_cons r_c (r_cons (r_tup (r_cons r_c (r_cons r_c r_nil))) (r_cons (r_tup (r_cons r_c (r_cons r_c r_nil))) r_nil)))) r_nil)) e3)) ?_
  refine r_seq (r_set (r_call (r_cons r_var (r_cons (r_op (x := .int ((min 3 qs.length : Nat) : Int)) (r_callL (r_cons r_c (r_cons (r_callL (r_cons r_var r_nil) rfl) r_nil)) min_ok) r_c rfl) r_nil)) e4)) ?_
  refine r_seq (r_set (wr_ok lat rfl rfl rfl rfl wr)) ?_
  refine r_seq (r_sif_f (r_val (r_op (x := .lst [.str so]) (y := .lst [.str so]) (r_ref (d := odd) (r_callE (r_cons (r_var rfl) (r_cons (r_var rfl) r_nil)) ((m_made lw).trans (m_pairsE k1 k5 hq2 (ob _ _ _))) rfl) ro) (r_lst (r_cons (r_callL (r_cons (r_var rfl) r_nil) ro) r_nil)) (neL oo))) r_nx) ?_
  refine r_seq (r_sif_f (r_val (r_op (x := .lst [.str so]) (y := .lst [.str so]) (r_ref (d := odd) (r_cmPO (r_cons (r_var rfl) (r_cons (r_tup (r_cons r_c (r_cons r_c r_nil))) (r_cons (r_tup (r_cons r_c (r_cons r_c r_nil))) (r_cons (r_tup (r_cons r_c (r_cons r_c r_nil))) (r_cons (r_tup (r_cons r_c (r_cons r_c r_nil))) (r_cons (r_tup (r_cons r_c (r_cons r_c r_nil))) (r_cons (r_var rfl) r_nil))))))) (m_pairsE (qs := [(0, 0), (0, 0), (0, 0), (0, 0), (0, 0)]) (r := []) k1 k5 hz (ob _ _ _)) (by simp)) ro) (r_lst (r_cons (r_callL (r_cons (r_var rfl) r_nil) ro) r_nil)) (neL oo))) r_nx) ?_
  refine r_seq (r_set (r_call (r_cons r_var (r_cons (r_lst (xs := nums) (r_cons r_c (r_cons r_c (r_cons (r_un r_c rfl) (r_cons r_c (r_cons r_c (r_cons r_c (r_cons (r_tup (r_cons r_c r_nil)) (r_cons (r_lst r_nil) (r_cons (r_op r_c r_c p30) r_nil)))))))))) r_nil)) e5)) ?_
  refine r_seq (r_sif_f (r_val (r_op (x := .lst [.str sn]) (y := .lst [.str sn]) (r_ref (d := nu) (r_cmO (r_cons (r_var rfl) r_nil) (m_likE hn)) rn) (r_lst (r_cons (r_callL (r_cons (r_var rfl) r_nil) rn) r_nil)) (neL on))) r_nx) ?_
  refine r_seq (r_sif_f (r_val (r_op (x := .lst [.str sn]) (y := .lst [.str sn]) (r_ref (d := nu) (r_cmO (r_cons (r_var rfl) r_nil) (m_silE hn)) rn) (r_lst (r_cons (r_callL (r_cons (r_var rfl) r_nil) rn) r_nil)) (neL on))) r_nx) ?_
  exact r_sif_f (r_val (r_op (x := .lst [.str sn]) (y := .lst [.str sn]) (r_ref (d := nu) (r_cmPO (r_cons (r_var rfl) (r_cons (r_var rfl) r_nil)) (m_parE hn) (by simp)) rn) (r_lst (r_cons (r_callL (r_cons (r_var rfl) r_nil) rn) r_nil)) (neL on))) r_nx
theorem rng16 {sl : List SV} : (iR2 (fCons (fC (.int 1)) (fCons (fC (.int 6)) fNil)) : FA (law_R Pt)) sl g = .ok (rngD 1 5) g := rfl
theorem math02 (a p c : Addr) (ns : List Int) (hns : ns.length ≤ 63) : ∃ g', lawF Pt C_InvalidNumber C_InvalidTable C_Table a ns (p, c, ns) (sl0 a p) ((0, 0) : Int × Int) = .rt (.bl true) g' := by
  obtain ⟨sl', g', e, _⟩ := for_inv (R := law_R Pt) (gf := gN 2) (fb := turn02 Pt C_InvalidNumber C_InvalidTable C_Table (p, c, ns)) (fun i sl g' => (∃ s2 s3 s4 s7 s8 s9 s10 s11 : SV, sl = [.dat (.hd a), .dat (.hd p), s2, s3, s4, .un, .un, s7, s8, s9, s10, s11]) ∧ Okg (100 * i) g') (rngD 1 5) 0 (sl0 a p) ((0, 0) : Int × Int) ⟨⟨.un, .un, .un, .un, .un, .un, .un, .un, rfl⟩, ⟨by decide, by decide, by decide⟩⟩ (fun j d sl g' hj q => by
    have hj2 : j < 5 := by
      have := (List.getElem?_eq_some_iff.mp hj).1
      rwa [rngD_len] at this
    have hd : d = .int ((1 + j : Nat) : Int) := by
      rw [rngD_get hj2] at hj
      cases hj
      rw [show (1 : Int) + (j : Int) = ((1 + j : Nat) : Int) by omega]
    subst hd
    obtain ⟨⟨s2, s3, s4, s7, s8, s9, s10, s11, rfl⟩, hg⟩ := q
    obtain ⟨s3', s4', s7', s8', s9', s10', s11', g2, e, h2⟩ := m_turn02 (Pt := Pt) (C_Table := C_Table) (C_InvalidNumber := C_InvalidNumber) (C_InvalidTable := C_InvalidTable) (ix := (p, c, ns)) (k := 1 + j) (s0 := .dat (.hd a)) (s3 := s3) (s4 := s4) (s7 := s7) (s8 := s8) (s9 := s9) (s10 := s10) (s11 := s11) (by omega) (by omega) hg (by omega)
    exact ⟨_, _, g2, rfl, e, ⟨_, _, _, _, _, _, _, _, rfl⟩, h2.mono (by omega)⟩)
  refine ⟨g', ?_⟩
  unfold lawF
  exact r_seq (r_for rng16 e) (r_ret (r_op (r_lst (r_cons r_c (r_cons r_c r_nil))) (r_lst (r_cons r_c (r_cons (r_op r_c r_c p30) r_nil))) (eqP_self (m := 1) (py_lst fun x m => by
    simp only [List.mem_cons, List.not_mem_nil, or_false] at m
    rcases m with rfl | rfl
    · exact py_int
    · exact py_int) (by decide))))
end
end DL

set_option maxHeartbeats 4000000
namespace DL
open PySem PySem.Spec PyProof.Rows L2
/-- a def of the top, a method -/
def Fq (K : PySem.W.Frag) (nm q : Str) (st : Stmt) (ps : List Str) (f : Addr) (fd : FuncData) : Prop := Fun K nm q st f fd ∧ Binds K fd ps [] ∧ PySem.W.keepIn K (.ref f) = true
def Ft (K : PySem.W.Frag) (mg : Str → Option Value) (nm : Str) (st : Stmt) (ps : List Str) : Prop := ∃ (f : Addr) (fd : FuncData), Fq K nm nm st ps f fd ∧ mg nm = some (.ref f)
theorem fq_mk {K : PySem.W.Frag} {nm q : Str} {st : Stmt} {ps : List Str} {f : Addr} {oc : Value} {od an : Option Addr} {osl : Array (Option Value)} {kV doc pm cdv ct : Value}
    (hb : ∀ (kV doc pm : Value) (an : Option Addr) (cdv ct : Value) (us : List Value), us.length = ps.length → bindArgs (PySem.W.fnOf nm q (defArgs st) (defBody st) (defScope st) .none kV doc pm an cdv ct) ⟨us, []⟩ = pure (ps.zip us))
    (l : K.lookup f = some ⟨oc, od, .func (PySem.W.fnOf nm q (defArgs st) (defBody st) (defScope st) .none kV doc pm an cdv ct), osl⟩)
    (c : PySem.W.codeIn K cdv q = true) (k : PySem.W.keepIn K (.ref f) = true) : Fq K nm q st ps f (PySem.W.fnOf nm q (defArgs st) (defBody st) (defScope st) .none kV doc pm an cdv ct) :=
  ⟨fun_mk l c k, (fun_mk l c k).binds hb, k⟩
theorem ft_mk {K : PySem.W.Frag} {mg : Str → Option Value} {h : Heap} (X : K.In h) (G : h.Ns mainGlobals mg) {nm : Str} {st : Stmt} {ps : List Str} {f : Addr} {oc : Value} {od an : Option Addr} {osl : Array (Option Value)} {kV doc pm cdv ct : Value}
    (hb : ∀ (kV doc pm : Value) (an : Option Addr) (cdv ct : Value) (us : List Value), us.length = ps.length → bindArgs (PySem.W.fnOf nm nm (defArgs st) (defBody st) (defScope st) .none kV doc pm an cdv ct) ⟨us, []⟩ = pure (ps.zip us))
    (a : PySem.W.nsIn K mainGlobals nm = some (some (.ref f))) (l : K.lookup f = some ⟨oc, od, .func (PySem.W.fnOf nm nm (defArgs st) (defBody st) (defScope st) .none kV doc pm an cdv ct), osl⟩)
    (c : PySem.W.codeIn K cdv nm = true) (k : PySem.W.keepIn K (.ref f) = true) : Ft K mg nm st ps :=
  ⟨f, _, fq_mk hb l c k, PySem.W.mg_of X G a⟩
def Fdf (K : PySem.W.Frag) (mg : Str → Option Value) (nm : Str) (st : Stmt) (ps : List Str) : Prop := ∃ (f : Addr) (fd : FuncData), FunD K nm nm (defArgs st) (defBody st) (defScope st) [.non] [] f fd ∧ (∃ ds, L2.Vals [V.non] ds ∧ Binds K fd ps ds) ∧ Binds K fd ps [] ∧ mg nm = some (.ref f)
theorem fdf_mk {K : PySem.W.Frag} {mg : Str → Option Value} {h : Heap} (X : K.In h) (G : h.Ns mainGlobals mg) {nm : Str} {st : Stmt} {ps : List Str} {f T : Addr} {oc tc : Value} {od an td : Option Addr} {osl tsl : Array (Option Value)} {kV doc pm cdv ct : Value} {m : Nat} (n : Nat) (hn : n + 1 = ps.length)
    (hb : ∀ (T : Addr) (kV doc pm : Value) (an : Option Addr) (cdv ct : Value) (us its : List Value), us.length = n → its.length = 1 → ∃ k, bindArgs (PySem.W.fnOf nm nm (defArgs st) (defBody st) (defScope st) (.ref T) kV doc pm an cdv ct) ⟨us, []⟩ = seqItems? (.ref T) >>= k ∧ k (some its.toArray) = pure (ps.zip (us ++ its.drop 0)))
    (hb0 : ∀ (T : Addr) (kV doc pm : Value) (an : Option Addr) (cdv ct : Value) (us its : List Value), us.length = n + 1 → its.length = 1 → ∃ k, bindArgs (PySem.W.fnOf nm nm (defArgs st) (defBody st) (defScope st) (.ref T) kV doc pm an cdv ct) ⟨us, []⟩ = seqItems? (.ref T) >>= k ∧ k (some its.toArray) = pure (ps.zip (us ++ its.drop 1)))
    (a : PySem.W.nsIn K mainGlobals nm = some (some (.ref f))) (l : K.lookup f = some ⟨oc, od, .func (PySem.W.fnOf nm nm (defArgs st) (defBody st) (defScope st) (.ref T) kV doc pm an cdv ct), osl⟩)
    (lt : K.lookup T = some ⟨tc, td, .seq #[.none] m, tsl⟩) (c : PySem.W.codeIn K cdv nm = true) (k : PySem.W.keepIn K (.ref f) = true) : Fdf K mg nm st ps := by
  have F : FunD K nm nm (defArgs st) (defBody st) (defScope st) [.non] [] f (PySem.W.fnOf nm nm (defArgs st) (defBody st) (defScope st) (.ref T) kV doc pm an cdv ct) := ⟨⟨oc, od, _, kV, doc, pm, an, cdv, ct, osl, rfl, l, c, .inr ⟨by simp, T, _, [.none], m, rfl, lt, rfl, .cons rfl .nil⟩, .inl rfl⟩, k⟩
  have B0 := F.binds1 (n + 1) 1 (by simp) (by simpa using hn) hb0
  obtain ⟨ds, v0, b0⟩ := B0
  cases v0
  exact ⟨f, _, F, F.binds1 n 0 (by simp) (by simpa using hn) hb, b0, PySem.W.mg_of X G a⟩
theorem kit_self {K : PySem.W.Frag} {C : Addr} : PySem.W.kitOne K (.ref C) (.ref C) = some true := by
  unfold PySem.W.kitOne
  exact if_pos (by simp)
theorem const_mk {K : PySem.W.Frag} {mg : Str → Option Value} {h : Heap} {tk : Tok} {n : Str} {v : Int} (X : K.In h) (G : h.Ns mainGlobals mg) (z : PySem.W.nsIn K mainGlobals n = some (some (.int v tk))) : ∃ u, mg n = some u ∧ RelV (.int v) u := ⟨_, PySem.W.mg_of X G z, ⟨_, rfl⟩⟩
def Fw (K : PySem.W.Frag) (mg : Str → Option Value) (st : Stmt) : Prop := ∃ (f : Addr) (fd : FuncData), Fun K "law" "law" st f fd ∧ mg "law" = some (.ref f)
theorem fw_mk {K : PySem.W.Frag} {mg : Str → Option Value} {h : Heap} (X : K.In h) (G : h.Ns mainGlobals mg) {st : Stmt} {f : Addr} {oc : Value} {od an : Option Addr} {osl : Array (Option Value)} {kV doc pm cdv ct : Value}
    (a : PySem.W.nsIn K mainGlobals "law" = some (some (.ref f))) (l : K.lookup f = some ⟨oc, od, .func (PySem.W.fnOf "law" "law" (defArgs st) (defBody st) (defScope st) .none kV doc pm an cdv ct), osl⟩)
    (c : PySem.W.codeIn K cdv "law" = true) (k : PySem.W.keepIn K (.ref f) = true) : Fw K mg st :=
  ⟨f, _, fun_mk l c k, PySem.W.mg_of X G a⟩
def ClTable (K : PySem.W.Frag) (mg : Str → Option Value) : Prop := ∃ (C : Addr) (k : KTable K mg C) (dI dP0 dC0 dC1 dC2 : FuncData), Fq K "__init__" "Table.__init__" st_Table_init ["self", "rows"] k.fi dI ∧ Fq K "rows" "Table.rows" st_Table_rows ["self"] k.f_rows dP0 ∧ Fq K "likeness" "Table.likeness" st_Table_likeness ["cls", "letters"] k.f_likeness dC0 ∧ Fq K "silence" "Table.silence" st_Table_silence ["cls", "letters"] k.f_silence dC1 ∧ Fun K "pairs" "Table.pairs" st_Table_pairs k.f_pairs dC2
theorem cl_Table {K : PySem.W.Frag} {mg : Str → Option Value} {h : Heap} (X : K.In h) (G : h.Ns mainGlobals mg) {C fI fP0 fC0 fC1 fC2 pP0 pC0 pC1 pC2 : Addr} {ocI kI docI pmI cdI ctI ocP0 kP0 docP0 pmP0 cdP0 ctP0 ocC0 kC0 docC0 pmC0 cdC0 ctC0 ocC1 kC1 docC1 pmC1 cdC1 ctC1 ocC2 kC2 docC2 pmC2 cdC2 ctC2 : Value} {odI anI odP0 anP0 odC0 anC0 odC1 anC1 odC2 anC2 : Option Addr} {slI slP0 slC0 slC1 slC2 : Array (Option Value)} {tk0 tk1 : Tok} {restP0 restC0 restC1 restC2 : List Value}
    (aC : PySem.W.nsIn K mainGlobals "Table" = some (some (.ref C))) (pg : PySem.W.plainGet K C Str.empty = true) (hd : PySem.W.hasDictIn K C = true) (po : PySem.W.plainOver K C = true) (sa : PySem.W.findIn K (.ref C) "__setattr__" = some (some (.builtin "object.__setattr__"))) (n0 : PySem.W.findIn K (.ref C) "_rows" = some none) (ga : PySem.W.specialIn K (.ref C) "__getattribute__" = some (some (.builtin "type.__getattribute__"))) (rd : PySem.W.readsIn K C (.type "type") = true) (v0 : PySem.W.findCls K (.ref C) (.type "type") "MOST_LETTERS" = some (.val (.int 5 tk0))) (v1 : PySem.W.findCls K (.ref C) (.type "type") "MOST_TIMES" = some (.val (.int 1000000000000000000000000000000 tk1))) (oa : PySem.W.findIn K (.ref C) "__class__" = some (some (.builtin "object.__class__"))) (on : PySem.W.specialIn K (.builtin "object.__class__") "__get__" = some (some (.builtin "getset_descriptor.__get__"))) (ot : PySem.W.takesIn K (.builtin "object.__class__") = some true) (om : PySem.W.mroIn K C (.type "object") = some true) (mk : PySem.W.makesIn K C = true) (kc : PySem.W.keepIn K (.ref C) = true) (aI : PySem.W.findIn K (.ref C) "__init__" = some (some (.ref fI))) (iI : PySem.W.isFn K (.ref fI) = true) (lI : K.lookup fI = some ⟨ocI, odI, .func (PySem.W.fnOf "__init__" "Table.__init__" (defArgs st_Table_init) (defBody st_Table_init) (defScope st_Table_init) .none kI docI pmI anI cdI ctI), slI⟩) (cI : PySem.W.codeIn K cdI "Table.__init__" = true) (hI : PySem.W.keepIn K (.ref fI) = true) (aP0 : PySem.W.findIn K (.ref C) "rows" = some (some (.ref pP0))) (gP0 : PySem.W.specialIn K (.ref pP0) "__get__" = some (some (.builtin "property.__get__"))) (tP0 : PySem.W.takesIn K (.ref pP0) = some true) (rP0 : PySem.W.recIn K pP0 "property" = some (.ref fP0 :: restP0)) (lP0 : K.lookup fP0 = some ⟨ocP0, odP0, .func (PySem.W.fnOf "rows" "Table.rows" (defArgs st_Table_rows) (defBody st_Table_rows) (defScope st_Table_rows) .none kP0 docP0 pmP0 anP0 cdP0 ctP0), slP0⟩) (cP0 : PySem.W.codeIn K cdP0 "Table.rows" = true) (hP0 : PySem.W.keepIn K (.ref fP0) = true) (aC0 : PySem.W.findCls K (.ref C) (.type "type") "likeness" = some (.get (.builtin "classmethod.__get__") (.ref pC0) .none (.ref C))) (rC0 : PySem.W.recIn K pC0 "classmethod" = some (.ref fC0 :: restC0)) (iC0 : PySem.W.fnIn K fC0 = true) (lC0 : K.lookup fC0 = some ⟨ocC0, odC0, .func (PySem.W.fnOf "likeness" "Table.likeness" (defArgs st_Table_likeness) (defBody st_Table_likeness) (defScope st_Table_likeness) .none kC0 docC0 pmC0 anC0 cdC0 ctC0), slC0⟩) (cC0 : PySem.W.codeIn K cdC0 "Table.likeness" = true) (hC0 : PySem.W.keepIn K (.ref fC0) = true) (aC1 : PySem.W.findCls K (.ref C) (.type "type") "silence" = some (.get (.builtin "classmethod.__get__") (.ref pC1) .none (.ref C))) (rC1 : PySem.W.recIn K pC1 "classmethod" = some (.ref fC1 :: restC1)) (iC1 : PySem.W.fnIn K fC1 = true) (lC1 : K.lookup fC1 = some ⟨ocC1, odC1, .func (PySem.W.fnOf "silence" "Table.silence" (defArgs st_Table_silence) (defBody st_Table_silence) (defScope st_Table_silence) .none kC1 docC1 pmC1 anC1 cdC1 ctC1), slC1⟩) (cC1 : PySem.W.codeIn K cdC1 "Table.silence" = true) (hC1 : PySem.W.keepIn K (.ref fC1) = true) (aC2 : PySem.W.findCls K (.ref C) (.type "type") "pairs" = some (.get (.builtin "classmethod.__get__") (.ref pC2) .none (.ref C))) (rC2 : PySem.W.recIn K pC2 "classmethod" = some (.ref fC2 :: restC2)) (iC2 : PySem.W.fnIn K fC2 = true) (lC2 : K.lookup fC2 = some ⟨ocC2, odC2, .func (PySem.W.fnOf "pairs" "Table.pairs" (defArgs st_Table_pairs) (defBody st_Table_pairs) (defScope st_Table_pairs) .none kC2 docC2 pmC2 anC2 cdC2 ctC2), slC2⟩) (cC2 : PySem.W.codeIn K cdC2 "Table.pairs" = true) (hC2 : PySem.W.keepIn K (.ref fC2) = true) : ClTable K mg :=
  ⟨C, { cl := ⟨pg, hd, po, sa⟩, g := PySem.W.mg_of X G aC, n_rows := n0, mc := .type "type", rd := ⟨rd, ga⟩, u1 := _, v_MOST_LETTERS := ⟨v0, ⟨_, rfl⟩⟩, u2 := _, v_MOST_TIMES := ⟨v1, ⟨_, rfl⟩⟩, ob := ⟨⟨pg, hd, po, sa⟩, oa, on, ot, om, kit_self⟩, fi := fI, mk_ := ⟨mk, aI, iI, kc⟩, pl := pP0, f_rows := fP0, p_rows := ⟨aP0, gP0, tP0, ⟨_, rP0⟩⟩, p1 := pC0, f_likeness := fC0, c_likeness := ⟨aC0, ⟨_, rC0⟩, iC0⟩, p2 := pC1, f_silence := fC1, c_silence := ⟨aC1, ⟨_, rC1⟩, iC1⟩, p3 := pC2, f_pairs := fC2, c_pairs := ⟨aC2, ⟨_, rC2⟩, iC2⟩ }, _, _, _, _, _, (fq_mk (fun _ _ _ _ _ _ us hl => match us, hl with | [_, _], _ => rfl) lI cI hI), (fq_mk (fun _ _ _ _ _ _ us hl => match us, hl with | [_], _ => rfl) lP0 cP0 hP0), (fq_mk (fun _ _ _ _ _ _ us hl => match us, hl with | [_, _], _ => rfl) lC0 cC0 hC0), (fq_mk (fun _ _ _ _ _ _ us hl => match us, hl with | [_, _], _ => rfl) lC1 cC1 hC1), (fun_mk lC2 cC2 hC2)⟩
/-- refused -/
def Rdf (K : PySem.W.Frag) (mg : Str → Option Value) (st : Stmt) : Prop := ∃ (fR : Addr) (oc kV doc pm cdv ct : Value) (od an : Option Addr) (osl : Array (Option Value)), mg "_law_refused" = some (.ref fR) ∧ PySem.W.keepIn K (.ref fR) = true ∧
  K.lookup fR = some ⟨oc, od, .func (PySem.W.fnOf "_law_refused" "_law_refused" (defArgs st) (defBody st) (defScope st) .none kV doc pm an cdv ct), osl⟩ ∧ PySem.W.codeIn K cdv "_law_refused" = true
theorem rdf_mk {K : PySem.W.Frag} {mg : Str → Option Value} {h : Heap} (X : K.In h) (G : h.Ns mainGlobals mg) {st : Stmt} {fR : Addr} {oc kV doc pm cdv ct : Value} {od an : Option Addr} {osl : Array (Option Value)} (a : PySem.W.nsIn K mainGlobals "_law_refused" = some (some (.ref fR)))
    (l : K.lookup fR = some ⟨oc, od, .func (PySem.W.fnOf "_law_refused" "_law_refused" (defArgs st) (defBody st) (defScope st) .none kV doc pm an cdv ct), osl⟩) (c : PySem.W.codeIn K cdv "_law_refused" = true) (k : PySem.W.keepIn K (.ref fR) = true) : Rdf K mg st :=
  ⟨fR, oc, kV, doc, pm, cdv, ct, od, an, osl, PySem.W.mg_of X G a, k, l, c⟩
/-- the law's def and its table of code objects -/
def Wd (K : PySem.W.Frag) (mg : Str → Option Value) (st : Stmt) : Prop := ∃ (f : Addr) (fd : FuncData) (c Pt : Addr), Fun K "law" "law" st f fd ∧ mg "law" = some (.ref f) ∧ fd.code = .ref c ∧ PySem.W.tabIn K "law" = some (c, Pt) ∧ K.lookup Pt = none
theorem wd_mk {K : PySem.W.Frag} {mg : Str → Option Value} {h : Heap} (X : K.In h) (G : h.Ns mainGlobals mg) {st : Stmt} {f c Pt : Addr} {oc cc kV doc pm ct : Value} {od an cdd : Option Addr} {osl ccs : Array (Option Value)} {vs : Array Value} (a : PySem.W.nsIn K mainGlobals "law" = some (some (.ref f)))
    (l : K.lookup f = some ⟨oc, od, .func (PySem.W.fnOf "law" "law" (defArgs st) (defBody st) (defScope st) .none kV doc pm an (.ref c) ct), osl⟩) (cd : PySem.W.codeIn K (.ref c) "law" = true) (k : PySem.W.keepIn K (.ref f) = true)
    (lc : K.lookup c = some ⟨cc, cdd, .fields vs, ccs⟩) (hv : vs[11]? = some (.ref Pt)) (nP : K.lookup Pt = none) : Wd K mg st := by
  refine ⟨f, _, c, Pt, fun_mk l cd k, PySem.W.mg_of X G a, rfl, ?_, nP⟩
  unfold PySem.W.tabIn
  simp only [a, l, lc, hv]
structure Top (P : Program) (K : PySem.W.Frag) (mg : Str → Option Value) : Prop where
  d_is_whole : Ft K mg "is_whole" st_is_whole ["value"]
  d_is_between : Ft K mg "is_between" st_is_between ["value", "low", "high"]
  d_is_price : Ft K mg "is_price" st_is_price ["value"]
  d_are_prices : Ft K mg "are_prices" st_are_prices ["value", "many"]
  d_are_rows : Ft K mg "are_rows" st_are_rows ["value"]
  d_is_letter : Ft K mg "is_letter" st_is_letter ["value", "letters"]
  d_is_pair : Ft K mg "is_pair" st_is_pair ["value", "letters"]
  d_check_letters : Ft K mg "check_letters" st_check_letters ["letters"]
  d_pen : Ft K mg "_law_pen" st_pen ["_law_script"]
  d_drawL : Ft K mg "_law_draw" st_drawL ["_law_pen_here", "_law_size"]
  d_pickL : Ft K mg "_law_pick" st_pickL ["_law_pen_here", "_law_options"]
  d_plainL : Ft K mg "_law_plain" st_plainL ["_law_rows"]
  d_likenessL : Ft K mg "_law_likeness" st_likenessL ["_law_size"]
  d_pairsL : Ft K mg "_law_pairs" st_pairsL ["_law_pen_here", "_law_many"]
  d_madeL : Ft K mg "_law_made" st_madeL ["_law_many", "_law_some"]
  c_Table : ClTable K mg
  lw : Wd K mg st_law
  rf : Rdf K mg st_refusedL
  e_InvalidNumber : ∃ C, VK.EC P K mg "InvalidNumber" C VK.xValueError (some "value")
  e_InvalidTable : ∃ C, VK.EC P K mg "InvalidTable" C VK.xValueError (some "value")
  top : (P.main.scope.names.lookup ("super" : Str)).isSome = false
  z_super : mg "super" = none
  z_ValueError : mg "ValueError" = none
  z_sorted : mg "sorted" = none
  z_sum : mg "sum" = none
  z_isinstance : mg "isinstance" = none
  z_all : mg "all" = none
  z_len : mg "len" = none
  z_tuple : mg "tuple" = none
  z_list : mg "list" = none
  z_int : mg "int" = none
  z_bool : mg "bool" = none
  z_range : mg "range" = none
  z_repr : mg "repr" = none
  z_abs : mg "abs" = none
  z_min : mg "min" = none
  z_max : mg "max" = none
  z_enumerate : mg "enumerate" = none
  z_zip : mg "zip" = none
theorem top_ok {l : PySem.W.OpenLaw} {w : World} {K : PySem.W.Frag} {h : Heap} {mg : Str → Option Value} {fa : Addr} {q : Program} {d0 : DefRec} (hfa : mg "law" = some (.ref fa)) (T : Top l.prog K mg) (hq : (recsOf q).find? (fun e => e.name == ("law" : Str)) = some d0)
    (tab : ∀ (d : DefRec) (x : Str) (c P : Addr), (recsOf q).find? (fun e => e.name == x) = some d → PySem.W.tabIn K x = some (c, P) → PySem.W.CodeHd h c P ∧ h.get? P = some { cls := .none, data := .fields #[] }) :
    VK.LawG l w K 11 63 "_law_script" mg fa h := by
  obtain ⟨f_is_whole, e_is_whole, ⟨F_is_whole, b_is_whole, k_is_whole⟩, g_is_whole⟩ := T.d_is_whole
  obtain ⟨f_is_between, e_is_between, ⟨F_is_between, b_is_between, k_is_between⟩, g_is_between⟩ := T.d_is_between
  obtain ⟨f_is_price, e_is_price, ⟨F_is_price, b_is_price, k_is_price⟩, g_is_price⟩ := T.d_is_price
  obtain ⟨f_are_prices, e_are_prices, ⟨F_are_prices, b_are_prices, k_are_prices⟩, g_are_prices⟩ := T.d_are_prices
  obtain ⟨f_are_rows, e_are_rows, ⟨F_are_rows, b_are_rows, k_are_rows⟩, g_are_rows⟩ := T.d_are_rows
  obtain ⟨f_is_letter, e_is_letter, ⟨F_is_letter, b_is_letter, k_is_letter⟩, g_is_letter⟩ := T.d_is_letter
  obtain ⟨f_is_pair, e_is_pair, ⟨F_is_pair, b_is_pair, k_is_pair⟩, g_is_pair⟩ := T.d_is_pair
  obtain ⟨f_check_letters, e_check_letters, ⟨F_check_letters, b_check_letters, k_check_letters⟩, g_check_letters⟩ := T.d_check_letters
  obtain ⟨f_pen, e_pen, ⟨F_pen, b_pen, k_pen⟩, g_pen⟩ := T.d_pen
  obtain ⟨f_drawL, e_drawL, ⟨F_drawL, b_drawL, k_drawL⟩, g_drawL⟩ := T.d_drawL
  obtain ⟨f_pickL, e_pickL, ⟨F_pickL, b_pickL, k_pickL⟩, g_pickL⟩ := T.d_pickL
  obtain ⟨f_plainL, e_plainL, ⟨F_plainL, b_plainL, k_plainL⟩, g_plainL⟩ := T.d_plainL
  obtain ⟨f_likenessL, e_likenessL, ⟨F_likenessL, b_likenessL, k_likenessL⟩, g_likenessL⟩ := T.d_likenessL
  obtain ⟨f_pairsL, e_pairsL, ⟨F_pairsL, b_pairsL, k_pairsL⟩, g_pairsL⟩ := T.d_pairsL
  obtain ⟨f_madeL, e_madeL, ⟨F_madeL, b_madeL, k_madeL⟩, g_madeL⟩ := T.d_madeL
  obtain ⟨C_Table, K_Table, e_Table_init, e_Table_rows, e_Table_likeness, e_Table_silence, e_Table_pairs, ⟨F_Table_init, B_Table_init, k_Table_init⟩, ⟨F_Table_rows, B_Table_rows, k_Table_rows⟩, ⟨F_Table_likeness, B_Table_likeness, k_Table_likeness⟩, ⟨F_Table_silence, B_Table_silence, k_Table_silence⟩, F_Table_pairs⟩ := T.c_Table
  obtain ⟨fR, oc, kV, doc, pm, cdv, ct, od, an, osl, gR, kR, lR, cR⟩ := T.rf
  obtain ⟨f, fd, c, Pt, F, gl, hc, ht, nP⟩ := T.lw
  obtain ⟨C_InvalidNumber, EC_InvalidNumber⟩ := T.e_InvalidNumber
  have K_InvalidNumber : KErr l.prog K mg "InvalidNumber" "value" C_InvalidNumber := ⟨EC_InvalidNumber, T.z_super, T.top⟩
  obtain ⟨C_InvalidTable, EC_InvalidTable⟩ := T.e_InvalidTable
  have K_InvalidTable : KErr l.prog K mg "InvalidTable" "value" C_InvalidTable := ⟨EC_InvalidTable, T.z_super, T.top⟩
  have e := hfa.symm.trans gl
  cases e
  obtain ⟨hC, hT⟩ := tab _ _ _ _ hq ht
  have KB_Table_silence := kb_Table_silence F_Table_silence
  have X : Bx mg := { n_ValueError := T.z_ValueError, n_sorted := T.z_sorted, n_sum := T.z_sum, n_isinstance := T.z_isinstance, n_all := T.z_all, n_len := T.z_len, n_tuple := T.z_tuple, n_list := T.z_list, n_int := T.z_int, n_bool := T.z_bool, n_range := T.z_range, n_repr := T.z_repr, n_abs := T.z_abs, n_min := T.z_min, n_max := T.z_max, n_enumerate := T.z_enumerate, n_zip := T.z_zip }
  refine ⟨fd, [(c, Pt)], spLaw Pt K, fun p hp => ?_, fun p hp => ?_, fun p hp => ?_, fun s v => ?_, fun H a ns hl hH hS => ⟨a, ns, rfl, hS, hl, fun p hp => ?_, fun _ => rfl⟩, fun base _ _ TB => ?_⟩
  · rcases List.mem_singleton.mp hp with rfl
    exact hT
  · rcases List.mem_singleton.mp hp with rfl
    exact nP
  · rcases List.mem_singleton.mp hp with rfl
    exact hC
  · obtain ⟨oc, od, kV, doc, pm, an, cdv, ct, osl, rfl, lk, hcd⟩ := F.ex
    exact .of_eq rfl
  · rcases List.mem_singleton.mp hp with rfl
    exact LamX.TabS.nil (hH _ List.mem_cons_self)
  · have G_is_whole : LdX l.prog w K mg base (law_R Pt) "is_whole" _ f_is_whole e_is_whole _ _ _ := ⟨ok_is_whole (R := (law_R Pt)) F_is_whole X, b_is_whole, g_is_whole, k_is_whole⟩
    have G_is_between : LdX l.prog w K mg base (law_R Pt) "is_between" _ f_is_between e_is_between _ _ _ := ⟨ok_is_between (R := (law_R Pt)) F_is_between X G_is_whole, b_is_between, g_is_between, k_is_between⟩
    have G_is_price : LdX l.prog w K mg base (law_R Pt) "is_price" _ f_is_price e_is_price _ _ _ := ⟨ok_is_price (R := (law_R Pt)) F_is_price X G_is_whole, b_is_price, g_is_price, k_is_price⟩
    have G_are_prices : LdX l.prog w K mg base (law_R Pt) "are_prices" _ f_are_prices e_are_prices _ _ _ := ⟨ok_are_prices (R := (law_R Pt)) F_are_prices X G_is_price, b_are_prices, g_are_prices, k_are_prices⟩
    have G_are_rows : LdX l.prog w K mg base (law_R Pt) "are_rows" _ f_are_rows e_are_rows _ _ _ := ⟨ok_are_rows (R := (law_R Pt)) F_are_rows X K_Table G_are_prices, b_are_rows, g_are_rows, k_are_rows⟩
    have G_is_letter : LdX l.prog w K mg base (law_R Pt) "is_letter" _ f_is_letter e_is_letter _ _ _ := ⟨ok_is_letter (R := (law_R Pt)) F_is_letter X G_is_between, b_is_letter, g_is_letter, k_is_letter⟩
    have G_is_pair : LdX l.prog w K mg base (law_R Pt) "is_pair" _ f_is_pair e_is_pair _ _ _ := ⟨ok_is_pair (R := (law_R Pt)) F_is_pair X G_is_letter, b_is_pair, g_is_pair, k_is_pair⟩
    have G_Table_init := ok_Table_init (P := l.prog) (w := w) (base := base) (R := (law_R Pt)) F_Table_init X K_Table G_are_rows
    have G_Table_rows := ok_Table_rows (P := l.prog) (w := w) (base := base) (R := (law_R Pt)) F_Table_rows X K_Table
    have G_check_letters : LdX l.prog w K mg base (law_R Pt) "check_letters" _ f_check_letters e_check_letters _ _ _ := ⟨ok_check_letters (R := (law_R Pt)) F_check_letters X K_Table K_InvalidNumber G_is_between, b_check_letters, g_check_letters, k_check_letters⟩
    have G_Table_likeness := ok_Table_likeness (P := l.prog) (w := w) (base := base) (R := (law_R Pt)) F_Table_likeness X K_Table G_check_letters G_Table_init B_Table_init
    have G_Table_silence := ok_Table_silence (P := l.prog) (w := w) (base := base) (R := (law_R Pt)) F_Table_silence X K_Table G_check_letters G_Table_init B_Table_init
    have G_Table_pairs := ok_Table_pairs (P := l.prog) (w := w) (base := base) (R := (law_R Pt)) F_Table_pairs X K_InvalidNumber K_Table G_check_letters G_is_pair G_Table_init B_Table_init
    have G_pen := ok_pen (P := l.prog) (w := w) (base := base) F_pen X
    have G_drawL : LdX l.prog w K mg base RP "_law_draw" _ f_drawL e_drawL _ _ _ := ⟨ok_drawL F_drawL X, b_drawL, g_drawL, k_drawL⟩
    have G_pickL : LdX l.prog w K mg base RP "_law_pick" _ f_pickL e_pickL _ _ _ := ⟨ok_pickL F_pickL X G_drawL, b_pickL, g_pickL, k_pickL⟩
    have G_plainL : LdX l.prog w K mg base (law_R Pt) "_law_plain" _ f_plainL e_plainL _ _ _ := ⟨ok_plainL (R := (law_R Pt)) F_plainL X, b_plainL, g_plainL, k_plainL⟩
    have G_likenessL : LdX l.prog w K mg base (law_R Pt) "_law_likeness" _ f_likenessL e_likenessL _ _ _ := ⟨ok_likenessL (R := (law_R Pt)) F_likenessL X, b_likenessL, g_likenessL, k_likenessL⟩
    have G_pairsL : LdX l.prog w K mg base RP "_law_pairs" _ f_pairsL e_pairsL _ _ _ := ⟨ok_pairsL F_pairsL X G_drawL, b_pairsL, g_pairsL, k_pairsL⟩
    have G_madeL : LdX l.prog w K mg base (law_R Pt) "_law_made" _ f_madeL e_madeL _ _ _ := ⟨ok_madeL (R := (law_R Pt)) F_madeL X K_Table G_Table_pairs, b_madeL, g_madeL, k_madeL⟩
    have G_pairsL := ld_lift (Pt := Pt) (q := qLL) G_pairsL
    have G_pickL := ld_lift (Pt := Pt) (q := qLL) G_pickL
    have G_drawL := ld_lift (Pt := Pt) (q := qLL) G_drawL
    exact ok_law F X hc TB gR kR lR cR ((fun_mk lR cR kR).binds (ps := ["_law_call"]) fun _ _ _ _ _ _ us hl => match us, hl with | [_], _ => rfl) K_Table K_InvalidNumber K_InvalidTable G_Table_likeness B_Table_likeness G_Table_rows B_Table_rows G_plainL G_likenessL G_Table_silence B_Table_silence G_pairsL G_madeL G_pickL G_drawL G_Table_pairs KB_Table_silence G_pen b_pen g_pen k_pen (math02)
theorem walk {l : PySem.W.OpenLaw} {q : Program} {loose : List Str} {XP : (Str → Option Value) → Heap → Prop} {YP : World → Heap → Prop} {d : DefRec} {K : Params → PySem.W.Frag} {d0 : DefRec} (hn : l.most = some 63) (hdf : d.params.defaults = []) (hd : d.name = "law")
    (hq : (recsOf q).find? (fun e => e.name == ("law" : Str)) = some d0) (hY : ∀ (w : World) (h : Heap), YP w h → (K w.params).In h)
    (F : ∀ (w : World) (mg : Str → Option Value) (h : Heap), (K w.params).In h → h.Ns mainGlobals mg → Top l.prog (K w.params) mg) :
    PySem.W.WalkO q loose XP YP l.row.toRowW d [] (fun f vs => PySem.call f vs) :=
  VK.walk_GT (n := 63) (k := 11) (x := "_law_script") hn (by decide) hdf ⟨rfl, by decide, by decide⟩ hY
    (fun w mg fa h KX G hm tab => top_ok (by rw [hd] at hm; exact hm) (F w mg h KX G) hq tab)
end DL

open PySem PySem.W PyProof.Rows
set_option maxRecDepth 100000 in
set_option maxHeartbeats 0 in
theorem PySem.Challenge.cw_echofold_k02_likeness_silence_pairs_holds : PySem.Challenge.rw_echofold_k02_likeness_silence_pairs.Holds := by
  w_on; o_law; k_head; (case hw => w_witness2)
  k_fill
  refine DL.walk (l := PySem.Challenge.rw_echofold_k02_likeness_silence_pairs) rfl rfl rfl (by first | rfl | kernel_rfl) (fun w h Y => PySem.W.km_in_of Y) ?F
  case F =>
    intro w mg h KX G
    refine' DL.Top.mk ?d_is_whole ?d_is_between ?d_is_price ?d_are_prices ?d_are_rows ?d_is_letter ?d_is_pair ?d_check_letters ?d_pen ?d_drawL ?d_pickL ?d_plainL ?d_likenessL ?d_pairsL ?d_madeL ?c_Table ?lw ?rf ?e_InvalidNumber ?e_InvalidTable ?top ?z_super ?z_ValueError ?z_sorted ?z_sum ?z_isinstance ?z_all ?z_len ?z_tuple ?z_list ?z_int ?z_bool ?z_range ?z_repr ?z_abs ?z_min ?z_max ?z_enumerate ?z_zip
    case d_is_whole =>
      refine' DL.ft_mk KX G (fun _ _ _ _ _ _ us hl => match us, hl with | [_], _ => rfl) ?a ?l ?c ?k
      (case a => k_is); (case l => k_is); (case c => k_is); (case k => k_is)
    case d_is_between =>
      refine' DL.ft_mk KX G (fun _ _ _ _ _ _ us hl => match us, hl with | [_, _, _], _ => rfl) ?a ?l ?c ?k
      (case a => k_is); (case l => k_is); (case c => k_is); (case k => k_is)
    case d_is_price =>
      refine' DL.ft_mk KX G (fun _ _ _ _ _ _ us hl => match us, hl with | [_], _ => rfl) ?a ?l ?c ?k
      (case a => k_is); (case l => k_is); (case c => k_is); (case k => k_is)
    case d_are_prices =>
      refine' DL.ft_mk KX G (fun _ _ _ _ _ _ us hl => match us, hl with | [_, _], _ => rfl) ?a ?l ?c ?k
      (case a => k_is); (case l => k_is); (case c => k_is); (case k => k_is)
    case d_are_rows =>
      refine' DL.ft_mk KX G (fun _ _ _ _ _ _ us hl => match us, hl with | [_], _ => rfl) ?a ?l ?c ?k
      (case a => k_is); (case l => k_is); (case c => k_is); (case k => k_is)
    case d_is_letter =>
      refine' DL.ft_mk KX G (fun _ _ _ _ _ _ us hl => match us, hl with | [_, _], _ => rfl) ?a ?l ?c ?k
      (case a => k_is); (case l => k_is); (case c => k_is); (case k => k_is)
    case d_is_pair =>
      refine' DL.ft_mk KX G (fun _ _ _ _ _ _ us hl => match us, hl with | [_, _], _ => rfl) ?a ?l ?c ?k
      (case a => k_is); (case l => k_is); (case c => k_is); (case k => k_is)
    case d_check_letters =>
      refine' DL.ft_mk KX G (fun _ _ _ _ _ _ us hl => match us, hl with | [_], _ => rfl) ?a ?l ?c ?k
      (case a => k_is); (case l => k_is); (case c => k_is); (case k => k_is)
    case d_pen =>
      refine' DL.ft_mk KX G (fun _ _ _ _ _ _ us hl => match us, hl with | [_], _ => rfl) ?a ?l ?c ?k
      (case a => k_is); (case l => k_is); (case c => k_is); (case k => k_is)
    case d_drawL =>
      refine' DL.ft_mk KX G (fun _ _ _ _ _ _ us hl => match us, hl with | [_, _], _ => rfl) ?a ?l ?c ?k
      (case a => k_is); (case l => k_is); (case c => k_is); (case k => k_is)
    case d_pickL =>
      refine' DL.ft_mk KX G (fun _ _ _ _ _ _ us hl => match us, hl with | [_, _], _ => rfl) ?a ?l ?c ?k
      (case a => k_is); (case l => k_is); (case c => k_is); (case k => k_is)
    case d_plainL =>
      refine' DL.ft_mk KX G (fun _ _ _ _ _ _ us hl => match us, hl with | [_], _ => rfl) ?a ?l ?c ?k
      (case a => k_is); (case l => k_is); (case c => k_is); (case k => k_is)
    case d_likenessL =>
      refine' DL.ft_mk KX G (fun _ _ _ _ _ _ us hl => match us, hl with | [_], _ => rfl) ?a ?l ?c ?k
      (case a => k_is); (case l => k_is); (case c => k_is); (case k => k_is)
    case d_pairsL =>
      refine' DL.ft_mk KX G (fun _ _ _ _ _ _ us hl => match us, hl with | [_, _], _ => rfl) ?a ?l ?c ?k
      (case a => k_is); (case l => k_is); (case c => k_is); (case k => k_is)
    case d_madeL =>
      refine' DL.ft_mk KX G (fun _ _ _ _ _ _ us hl => match us, hl with | [_, _], _ => rfl) ?a ?l ?c ?k
      (case a => k_is); (case l => k_is); (case c => k_is); (case k => k_is)
    case c_Table =>
      refine' DL.cl_Table KX G ?aC ?pg ?hd ?po ?sa ?n0 ?ga ?rd ?v0 ?v1 ?oa ?on ?ot ?om ?mk ?kc ?aI ?iI ?lI ?cI ?hI ?aP0 ?gP0 ?tP0 ?rP0 ?lP0 ?cP0 ?hP0 ?aC0 ?rC0 ?iC0 ?lC0 ?cC0 ?hC0 ?aC1 ?rC1 ?iC1 ?lC1 ?cC1 ?hC1 ?aC2 ?rC2 ?iC2 ?lC2 ?cC2 ?hC2
      (case aC => k_is); (case pg => k_is); (case hd => k_is); (case po => k_is); (case sa => k_is); (case n0 => k_is); (case ga => k_is); (case rd => k_is); (case v0 => k_is); (case v1 => k_is); (case oa => k_is); (case on => k_is); (case ot => k_is); (case om => k_is); (case mk => k_is); (case kc => k_is); (case aI => k_is); (case iI => k_is); (case lI => k_is); (case cI => k_is); (case hI => k_is); (case aP0 => k_is); (case gP0 => k_is); (case tP0 => k_is); (case rP0 => k_is); (case lP0 => k_is); (case cP0 => k_is); (case hP0 => k_is); (case aC0 => k_is); (case rC0 => k_is); (case iC0 => k_is); (case lC0 => k_is); (case cC0 => k_is); (case hC0 => k_is); (case aC1 => k_is); (case rC1 => k_is); (case iC1 => k_is); (case lC1 => k_is); (case cC1 => k_is); (case hC1 => k_is); (case aC2 => k_is); (case rC2 => k_is); (case iC2 => k_is); (case lC2 => k_is); (case cC2 => k_is); (case hC2 => k_is)
    case rf =>
      refine' DL.rdf_mk KX G ?a ?l ?c ?k
      (case a => k_is); (case l => k_is); (case c => k_is); (case k => k_is)
    case lw =>
      refine' DL.wd_mk KX G ?a ?l ?cd ?k ?lc ?hv ?nP
      (case a => k_is); (case l => k_is); (case cd => k_is); (case k => k_is); (case lc => k_is); (case hv => exact rfl); (case nP => kernel_rfl)
    case e_InvalidNumber =>
      refine' ⟨?CInvalidNumber, ?EInvalidNumber⟩
      case EInvalidNumber =>
        refine' VK.ec1_mk KX G (cn := "InvalidNumber") (x := "value") VK.xb_ValueError ?aC ?lk ?hm ?hs ?hd ?hh ?hn ?n1 ?n2 ?n3 ?n4 ?kp ?thr ?spG ?spT ?hx ?n5 ?at_ ?fn ?lf ?ci ?lc ?hv ?hf ?ll ?hp
        (case aC => k_is); (case lk => k_is); (case hm => exact rfl); (case hs => exact rfl); (case hd => exact rfl); (case hh => exact rfl); (case hn => exact rfl); (case n1 => k_is); (case n2 => k_is); (case n3 => k_is); (case n4 => k_is); (case kp => k_is); (case thr => k_is); (case spG => k_is); (case spT => k_is); (case hx => exact by decide +kernel); (case n5 => k_is); (case at_ => k_is); (case fn => k_is); (case lf => k_is); (case ci => k_is); (case lc => k_is); (case hv => exact rfl); (case hf => exact by decide +kernel); (case ll => k_is); (case hp => exact rfl)
    case e_InvalidTable =>
      refine' ⟨?CInvalidTable, ?EInvalidTable⟩
      case EInvalidTable =>
        refine' VK.ec1_mk KX G (cn := "InvalidTable") (x := "value") VK.xb_ValueError ?aC ?lk ?hm ?hs ?hd ?hh ?hn ?n1 ?n2 ?n3 ?n4 ?kp ?thr ?spG ?spT ?hx ?n5 ?at_ ?fn ?lf ?ci ?lc ?hv ?hf ?ll ?hp
        (case aC => k_is); (case lk => k_is); (case hm => exact rfl); (case hs => exact rfl); (case hd => exact rfl); (case hh => exact rfl); (case hn => exact rfl); (case n1 => k_is); (case n2 => k_is); (case n3 => k_is); (case n4 => k_is); (case kp => k_is); (case thr => k_is); (case spG => k_is); (case spT => k_is); (case hx => exact by decide +kernel); (case n5 => k_is); (case at_ => k_is); (case fn => k_is); (case lf => k_is); (case ci => k_is); (case lc => k_is); (case hv => exact rfl); (case hf => exact by decide +kernel); (case ll => k_is); (case hp => exact rfl)
    case top => decide +kernel
    case z_ValueError =>
      refine' PySem.W.mg_none_of KX G ?z
      (case z => k_is)
    case z_sorted =>
      refine' PySem.W.mg_none_of KX G ?z
      (case z => k_is)
    case z_sum =>
      refine' PySem.W.mg_none_of KX G ?z
      (case z => k_is)
    case z_isinstance =>
      refine' PySem.W.mg_none_of KX G ?z
      (case z => k_is)
    case z_all =>
      refine' PySem.W.mg_none_of KX G ?z
      (case z => k_is)
    case z_len =>
      refine' PySem.W.mg_none_of KX G ?z
      (case z => k_is)
    case z_tuple =>
      refine' PySem.W.mg_none_of KX G ?z
      (case z => k_is)
    case z_list =>
      refine' PySem.W.mg_none_of KX G ?z
      (case z => k_is)
    case z_int =>
      refine' PySem.W.mg_none_of KX G ?z
      (case z => k_is)
    case z_bool =>
      refine' PySem.W.mg_none_of KX G ?z
      (case z => k_is)
    case z_range =>
      refine' PySem.W.mg_none_of KX G ?z
      (case z => k_is)
    case z_repr =>
      refine' PySem.W.mg_none_of KX G ?z
      (case z => k_is)
    case z_abs =>
      refine' PySem.W.mg_none_of KX G ?z
      (case z => k_is)
    case z_min =>
      refine' PySem.W.mg_none_of KX G ?z
      (case z => k_is)
    case z_max =>
      refine' PySem.W.mg_none_of KX G ?z
      (case z => k_is)
    case z_enumerate =>
      refine' PySem.W.mg_none_of KX G ?z
      (case z => k_is)
    case z_zip =>
      refine' PySem.W.mg_none_of KX G ?z
      (case z => k_is)
    case z_super =>
      refine' PySem.W.mg_none_of KX G ?z
      (case z => k_is)

