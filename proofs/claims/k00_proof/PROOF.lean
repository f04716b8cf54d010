import PyProof.Rows.All
import Wide.All
import OpenK.AllK
import Wide.FinOn
import HandS.ForMost
import HandS.ForExc
import HandS.Wide
import HandS.More
import HandS.Style
import HandS.Deep
import HandS.Conv
import HandS.TupAny
import HandS.TupMul
import HandS.Zip
import HandS.TryMany
import HandS.Defaults
import PyProof.AutoSeq1
import PyProof.TypeEq
import HandS.IsInst
import HandS.RaiseMore
import PyProof.ReprRoads
import KE.KRevSl
import KE.GoesEnum
import KE.DataFind
import HandS.Iter
import HandS.Exc
import HandS.ExcIs
import KE.KExcIs
import HandS.ExcValue
import HandS.Text
import KE.KExcSuper
import HandS.ExcInit
import HandS.Words
import HandS.ExcField
import PySem.Challenge.RW_wishedtongues_k00_error_classes
set_option Elab.async false
set_option linter.all false
set_option maxRecDepth 100000
set_option maxHeartbeats 4000000
/-! DL0: plain data over the heap of the layer: what stands for what, what stays, what a frame owns. -/
namespace DL
open PySem PySem.Spec PyProof.Rows L2

/-- plain data; exc: an error object, by the name of its class and the field that it keeps -/
inductive D where
  | non | bl (b : Bool) | int (i : Int) | str (x : Str) | lst (xs : List D) | tup (xs : List D)
  /-- the script: a list that is locked -/
  | fz (xs : List D)
  | exc (c : Str) (fs : List D)
  /-- a pair that a walk gives -/
  | pr (x y : D)
  /-- a range by ones -/
  | rng (lo hi : Int)

abbrev Fz := Addr → Prop
/-- where the script stands: locked, or a part of the module -/
def SqF (K : PySem.W.Frag) (H : Hp) (a : Addr) (vs : List V) : Prop := (∃ o, H a = some (.frz o (.lst vs))) ∨
  ∃ (o : Obj) (its : Array Value) (n : Nat), K.lookup a = some o ∧ o.cls = .type "list" ∧ o.dict = none ∧ o.data = .seq its n ∧ its.size ≤ sizeLine ∧ Vals vs its.toList
theorem SqF.sq {K : PySem.W.Frag} {H : Hp} {a : Addr} {vs : List V} (s : SqF K H a vs) : SqL K H a vs := s.imp (fun ⟨o, h⟩ => .inr ⟨o, h⟩) id

/-- a tuple that is known to its object, which has no dict -/
def TpL (H : Hp) (a : Addr) (vs : List V) : Prop := ∃ o : Obj, o.dict = none ∧ H a = some (.frz o (.tup vs))
theorem TpL.sq {K : PySem.W.Frag} {H : Hp} {a : Addr} {vs : List V} (s : TpL H a vs) : SqT K H a vs := let ⟨o, _, h⟩ := s; .inl (.inr ⟨o, h⟩)
/-- an object that stands, with the dict that it keeps -/
def DictAt (H : Hp) (d : Option Addr) : Prop := ∀ dx, d = some dx → ∃ (od : Obj) (u : HO), H dx = some (.frz od u)
/-- the fields: a name, its worth, a name, .. -/
def FldV : List D → List V → List (Str × V) → Prop
  | [], vs, r => vs = [] ∧ r = []
  | .str f :: _ :: ds, vs, r => ∃ u v vs' r', vs = u :: v :: vs' ∧ r = (f, v) :: r' ∧ FldV ds vs' r'
  | _, _, _ => False
/-- .. of what is known of its fields -/
def FldOk (H : Hp) (d : Option Addr) : List D → List V → Prop
  | [], _ => DictAt H d
  | x :: fs, vs => ∃ (dx : Addr) (od : Obj) (r : List (Str × V)), d = some dx ∧ H dx = some (.frz od (.xd r)) ∧ FldV (x :: fs) vs r
theorem DictAt.none {H : Hp} : DictAt H Option.none := fun _ h => by cases h
theorem FldOk.dict {H : Hp} {d : Option Addr} : ∀ {fs : List D} {vs : List V}, FldOk H d fs vs → DictAt H d
  | [], _, h => h
  | x :: fs, vs, ⟨dx, od, r, e, h, _⟩ => fun dy ey => by rw [e] at ey; cases ey; exact ⟨_, _, h⟩
theorem FldOk.ext {H H' : Hp} {d : Option Addr} (k : ∀ a o u, H a = some (.frz o u) → H' a = some (.frz o u)) : ∀ {fs : List D} {vs : List V}, FldOk H d fs vs → FldOk H' d fs vs
  | [], _, h => fun dx e => let ⟨od, u, z⟩ := h dx e; ⟨od, u, k _ _ _ z⟩
  | x :: fs, vs, ⟨dx, od, r, e, h, z⟩ => ⟨dx, od, r, e, k _ _ _ h, z⟩
mutual
def Rep (K : PySem.W.Frag) (F : Fz) (H : Hp) : D → V → Prop
  | .non, v => v = .non
  | .bl b, v => v = .bl b
  | .int i, v => v = .int i
  | .str x, v => v = .str x
  | .lst ds, v => ∃ a vs, v = .ref a ∧ F a ∧ H a = some (.lst vs) ∧ RepL K F H ds vs
  | .tup ds, v => ∃ a vs, v = .ref a ∧ TpL H a vs ∧ RepL K F H ds vs
  | .fz ds, v => ∃ a vs, v = .ref a ∧ SqF K H a vs ∧ RepL K F H ds vs
  | .exc c fs, v => ∃ (fv : List V) (a : Addr) (o : Obj) (u : HO) (C : Addr) (d : Option Addr), RepL K F H fs fv ∧ FldOk H d fs fv ∧ v = .ref a ∧ H a = some (.frz o u) ∧ PySem.W.nsIn K mainGlobals c = some (some (.ref C)) ∧ Zc (.ref C) d o ∧ ∃ vs, o.data = Data.fields vs
  | .pr x y, v => ∃ a vx vy, v = .ref a ∧ H a = some (.tup [vx, vy]) ∧ Rep K F H x vx ∧ Rep K F H y vy
  | .rng lo hi, v => ∃ a o, v = .ref a ∧ H a = some (.frz o (.rng lo hi))
def RepL (K : PySem.W.Frag) (F : Fz) (H : Hp) : List D → List V → Prop
  | [], vs => vs = []
  | d :: ds, vs => ∃ v r, vs = v :: r ∧ Rep K F H d v ∧ RepL K F H ds r
end

/-- what is kept from (F, H) to (F', H'); O: what others own -/
structure Ext (O F : Fz) (H : Hp) (F' : Fz) (H' : Hp) : Prop where
  sub : ∀ a, F a → F' a
  fz : ∀ a o, F a → H a = some o → H' a = some o
  tp : ∀ a xs, H a = some (.tup xs) → H' a = some (.tup xs)
  fr : ∀ a o u, H a = some (.frz o u) → H' a = some (.frz o u)
  out : ∀ a, O a → H' a = H a
  outF : ∀ a, O a → F' a → F a
theorem Ext.refl {O F : Fz} {H : Hp} : Ext O F H F H := ⟨fun _ h => h, fun _ _ _ h => h, fun _ _ h => h, fun _ _ _ h => h, fun _ _ => rfl, fun _ _ h => h⟩
theorem Ext.trans {O F F1 F2 : Fz} {H H1 H2 : Hp} (a : Ext O F H F1 H1) (b : Ext O F1 H1 F2 H2) : Ext O F H F2 H2 :=
  ⟨fun x h => b.sub x (a.sub x h), fun x o h e => b.fz x o (a.sub x h) (a.fz x o h e), fun x xs e => b.tp x xs (a.tp x xs e), fun x o u e => b.fr x o u (a.fr x o u e),
   fun x h => (b.out x h).trans (a.out x h), fun x h f => a.outF x h (b.outF x h f)⟩
theorem Ext.mono {O O' F F' : Fz} {H H' : Hp} (a : Ext O F H F' H') (h : ∀ x, O' x → O x) : Ext O' F H F' H' :=
  ⟨a.sub, a.fz, a.tp, a.fr, fun x q => a.out x (h x q), fun x q => a.outF x (h x q)⟩
/-- all that was tracked is as it was -/
theorem Ext.same {O F : Fz} {H H' : Hp} (s : Same H H') (od : ∀ a, O a → H a ≠ none) : Ext O F H F H' :=
  ⟨fun _ h => h, fun a o _ e => s a o e, fun a xs e => s a _ e, fun a o u e => s a _ e, fun a h => by
    cases q : H a with
    | none => exact absurd q (od a h)
    | some o => exact s a o q, fun _ _ h => h⟩

theorem sqF_ext {K : PySem.W.Frag} {O F F' : Fz} {H H' : Hp} (e : Ext O F H F' H') {a : Addr} {vs : List V} (s : SqF K H a vs) : SqF K H' a vs := s.imp (fun ⟨o, h⟩ => ⟨o, e.fr _ _ _ h⟩) id
theorem tpL_ext {O F F' : Fz} {H H' : Hp} (e : Ext O F H F' H') {a : Addr} {vs : List V} (s : TpL H a vs) : TpL H' a vs := let ⟨o, h1, h2⟩ := s; ⟨o, h1, e.fr _ _ _ h2⟩
mutual
theorem Rep.ext {K : PySem.W.Frag} {O F F' : Fz} {H H' : Hp} (e : Ext O F H F' H') : ∀ (d : D) (v : V), Rep K F H d v → Rep K F' H' d v
  | .non, _, h => h
  | .bl _, _, h => h
  | .int _, _, h => h
  | .str _, _, h => h
  | .lst ds, v, h => by
    obtain ⟨a, vs, e1, f, s, r⟩ := h
    exact ⟨a, vs, e1, e.sub a f, e.fz a _ f s, RepL.ext e ds vs r⟩
  | .fz ds, v, h => by
    obtain ⟨a, vs, e1, s, r⟩ := h
    exact ⟨a, vs, e1, sqF_ext e s, RepL.ext e ds vs r⟩
  | .tup ds, v, h => by
    obtain ⟨a, vs, e1, s, r⟩ := h
    exact ⟨a, vs, e1, tpL_ext e s, RepL.ext e ds vs r⟩
  | .exc _ fs, v, h => by
    obtain ⟨fv, a, o, u, C, d, r0, f0, e1, s, r⟩ := h
    exact ⟨fv, a, o, u, C, d, RepL.ext e fs fv r0, f0.ext e.fr, e1, e.fr _ _ _ s, r⟩
  | .pr x y, v, h => by
    obtain ⟨a, vx, vy, e1, s, r1, r2⟩ := h
    exact ⟨a, vx, vy, e1, e.tp _ _ s, Rep.ext e x vx r1, Rep.ext e y vy r2⟩
  | .rng lo hi, v, h => by
    obtain ⟨a, o, e1, s⟩ := h
    exact ⟨a, o, e1, e.fr _ _ _ s⟩
theorem RepL.ext {K : PySem.W.Frag} {O F F' : Fz} {H H' : Hp} (e : Ext O F H F' H') : ∀ (ds : List D) (vs : List V), RepL K F H ds vs → RepL K F' H' ds vs
  | [], _, h => h
  | d :: ds, vs, h => by
    obtain ⟨v, r, e1, h1, h2⟩ := h
    exact ⟨v, r, e1, Rep.ext e d v h1, RepL.ext e ds r h2⟩
end
theorem RepL.length {K : PySem.W.Frag} {F : Fz} {H : Hp} : ∀ {ds : List D} {vs : List V}, RepL K F H ds vs → vs.length = ds.length
  | [], _, h => by rw [show _ = ([] : List V) from h]; rfl
  | d :: ds, vs, h => by
    obtain ⟨v, r, rfl, _, h2⟩ := h
    simp [RepL.length h2]
theorem RepL.nil {K : PySem.W.Frag} {F : Fz} {H : Hp} : RepL K F H [] [] := by show ([] : List V) = []; rfl
theorem RepL.cons {K : PySem.W.Frag} {F : Fz} {H : Hp} {d : D} {ds : List D} {v : V} {vs : List V} (h : Rep K F H d v) (t : RepL K F H ds vs) : RepL K F H (d :: ds) (v :: vs) := ⟨v, vs, rfl, h, t⟩
theorem RepL.append {K : PySem.W.Frag} {F : Fz} {H : Hp} : ∀ {ds es : List D} {vs ws : List V}, RepL K F H ds vs → RepL K F H es ws → RepL K F H (ds ++ es) (vs ++ ws)
  | [], _, _, _, h, k => by rw [show _ = ([] : List V) from h]; exact k
  | d :: ds, es, vs, ws, h, k => by
    obtain ⟨v, r, rfl, h1, h2⟩ := h
    exact ⟨v, r ++ ws, rfl, h1, RepL.append h2 k⟩
theorem RepL.get {K : PySem.W.Frag} {F : Fz} {H : Hp} : ∀ {ds : List D} {vs : List V} {i : Nat} {d : D}, RepL K F H ds vs → ds[i]? = some d → ∃ v, vs[i]? = some v ∧ Rep K F H d v
  | [], _, i, d, _, e => by simp at e
  | d :: ds, vs, 0, d', h, e => by
    obtain ⟨v, r, rfl, h1, h2⟩ := h
    simp at e; subst e
    exact ⟨v, rfl, h1⟩
  | d :: ds, vs, i + 1, d', h, e => by
    obtain ⟨v, r, rfl, h1, h2⟩ := h
    simp at e
    obtain ⟨v', q1, q2⟩ := RepL.get h2 e
    exact ⟨v', by simpa using q1, q2⟩
theorem RepL.get' {K : PySem.W.Frag} {F : Fz} {H : Hp} {ds : List D} {vs : List V} {i : Nat} {v : V} (h : RepL K F H ds vs) (e : vs[i]? = some v) : ∃ d, ds[i]? = some d ∧ Rep K F H d v := by
  have l := h.length
  have hi : i < ds.length := by
    rw [← l]; exact (List.getElem?_eq_some_iff.mp e).1
  obtain ⟨v', q1, q2⟩ := h.get (List.getElem?_eq_getElem hi)
  rw [e] at q1; cases q1
  exact ⟨_, List.getElem?_eq_getElem hi, q2⟩
theorem RepL.set {K : PySem.W.Frag} {F : Fz} {H : Hp} {d : D} {v : V} (q : Rep K F H d v) : ∀ {ds : List D} {vs : List V} (i : Nat), RepL K F H ds vs → RepL K F H (ds.set i d) (vs.set i v)
  | [], _, i, h => by rw [show _ = ([] : List V) from h]; exact RepL.nil
  | d' :: ds, vs, 0, h => by
    obtain ⟨v', r, rfl, h1, h2⟩ := h
    exact ⟨v, r, rfl, q, h2⟩
  | d' :: ds, vs, i + 1, h => by
    obtain ⟨v', r, rfl, h1, h2⟩ := h
    exact ⟨v', r.set i v, rfl, h1, RepL.set q i h2⟩
theorem RepL.take {K : PySem.W.Frag} {F : Fz} {H : Hp} : ∀ {ds : List D} {vs : List V} (n : Nat), RepL K F H ds vs → RepL K F H (ds.take n) (vs.take n)
  | _, _, 0, _ => by simp only [List.take_zero]; exact RepL.nil
  | [], _, n + 1, h => by rw [show _ = ([] : List V) from h]; exact RepL.nil
  | d :: ds, vs, n + 1, h => by
    obtain ⟨v, r, rfl, h1, h2⟩ := h
    exact ⟨v, r.take n, rfl, h1, RepL.take n h2⟩
theorem RepL.drop {K : PySem.W.Frag} {F : Fz} {H : Hp} : ∀ {ds : List D} {vs : List V} (n : Nat), RepL K F H ds vs → RepL K F H (ds.drop n) (vs.drop n)
  | _, _, 0, h => h
  | [], _, n + 1, h => by rw [show _ = ([] : List V) from h]; exact RepL.nil
  | d :: ds, vs, n + 1, h => by
    obtain ⟨v, r, rfl, h1, h2⟩ := h
    exact RepL.drop n h2
theorem RepL.dropLast {K : PySem.W.Frag} {F : Fz} {H : Hp} {ds : List D} {vs : List V} (h : RepL K F H ds vs) : RepL K F H ds.dropLast vs.dropLast := by
  rw [List.dropLast_eq_take, List.dropLast_eq_take, h.length]
  exact h.take _
theorem RepL.reverse {K : PySem.W.Frag} {F : Fz} {H : Hp} : ∀ {ds : List D} {vs : List V}, RepL K F H ds vs → RepL K F H ds.reverse vs.reverse
  | [], _, h => by rw [show _ = ([] : List V) from h]; exact RepL.nil
  | d :: ds, vs, h => by
    obtain ⟨v, r, rfl, h1, h2⟩ := h
    rw [List.reverse_cons, List.reverse_cons]
    exact (RepL.reverse h2).append (RepL.cons h1 RepL.nil)
theorem RepL.rep {K : PySem.W.Frag} {F : Fz} {H : Hp} {ds : List D} {vs : List V} (h : RepL K F H ds vs) : ∀ k : Nat, RepL K F H (List.replicate k ds).flatten (List.replicate k vs).flatten
  | 0 => RepL.nil
  | k + 1 => by
    rw [List.replicate_succ, List.replicate_succ, List.flatten_cons, List.flatten_cons]
    exact h.append (RepL.rep h k)

/-- a value that may be a list that is not yet still: what an operation reads -/
def RepT (K : PySem.W.Frag) (F : Fz) (H : Hp) : D → V → Prop
  | .lst ds, v => ∃ a vs, v = .ref a ∧ H a = some (.lst vs) ∧ RepL K F H ds vs
  | d, v => Rep K F H d v
theorem Rep.top {K : PySem.W.Frag} {F : Fz} {H : Hp} : ∀ {d : D} {v : V}, Rep K F H d v → RepT K F H d v
  | .lst _, _, h => let ⟨a, vs, e, _, s, r⟩ := h; ⟨a, vs, e, s, r⟩
  | .fz _, _, h => h
  | .non, _, h => h
  | .bl _, _, h => h
  | .int _, _, h => h
  | .str _, _, h => h
  | .tup _, _, h => h
  | .exc _ _, _, h => h
  | .pr _ _, _, h => h
  | .rng _ _, _, h => h

/-! ### a frame's names -/
inductive Md where
  | shr | own | bor
  deriving DecidableEq
structure Ent where
  md : Md
  d : D
abbrev DEnv := List (Option Ent)
/-- the address that the i-th name owns -/
def OwnAt (env : DEnv) (σ : L2.St) (i : Nat) (a : Addr) : Prop := ∃ (m : Md) (d : D), env[i]? = some (some (Ent.mk m d)) ∧ m ≠ Md.shr ∧ σ[i]? = some (some (.ref a))

structure StOk (K : PySem.W.Frag) (O F : Fz) (H : Hp) (σ : L2.St) (env : DEnv) : Prop where
  len : σ.length = env.length
  shr : ∀ (i : Nat) (d : D), env[i]? = some (some (Ent.mk Md.shr (d))) → ∃ v, σ[i]? = some (some v) ∧ Rep K F H d v
  own : ∀ (i : Nat) (m : Md) (d : D), env[i]? = some (some (Ent.mk m (d))) → m ≠ Md.shr → ∃ a vs ds, d = .lst ds ∧ σ[i]? = some (some (.ref a)) ∧ H a = some (.lst vs) ∧ RepL K F H ds vs ∧ ¬ F a ∧ ¬ O a
  inj : ∀ (i j : Nat) (a : Addr), OwnAt env σ i a → OwnAt env σ j a → i = j
  fdom : ∀ a, F a → H a ≠ none
  odom : ∀ a, O a → H a ≠ none

/-- a result: still, or a new list that nobody else holds -/
def REnt (K : PySem.W.Frag) (O F : Fz) (H : Hp) (σ : L2.St) (env : DEnv) (e : Ent) (v : V) : Prop :=
  match e.md with
  | .shr => Rep K F H e.d v
  | _ => ∃ a vs ds, e.d = .lst ds ∧ v = .ref a ∧ H a = some (.lst vs) ∧ RepL K F H ds vs ∧ ¬ F a ∧ ¬ O a ∧ ∀ i, ¬ OwnAt env σ i a

section
variable {K : PySem.W.Frag} {O F F' : Fz} {H H' : Hp} {σ : L2.St} {env : DEnv}
/-- all that was tracked stands, new things beside: the names as they were -/
theorem StOk.same (s : StOk K O F H σ env) (e : Same H H') : StOk K O F H' σ env where
  len := s.len
  shr := fun i d q => let ⟨v, h1, h2⟩ := s.shr i d q; ⟨v, h1, Rep.ext (Ext.same (O := O) e s.odom) d v h2⟩
  own := fun i m d q n => let ⟨a, vs, ds, h1, h2, h3, h4, h5, h6⟩ := s.own i m d q n
    ⟨a, vs, ds, h1, h2, e _ _ h3, RepL.ext (Ext.same (O := O) e s.odom) ds vs h4, h5, h6⟩
  inj := s.inj
  fdom := fun a f => by
    cases q : H a with
    | none => exact absurd q (s.fdom a f)
    | some o => rw [e a o q]; exact nofun
  odom := fun a f => by
    cases q : H a with
    | none => exact absurd q (s.odom a f)
    | some o => rw [e a o q]; exact nofun
/-- a new list that nobody holds becomes still -/
theorem freeze {e : Ent} {v : V} (s : StOk K O F H σ env) (r : REnt K O F H σ env e v) :
    ∃ F', Ext O F H F' H ∧ StOk K O F' H σ env ∧ Rep K F' H e.d v := by
  obtain ⟨m, d⟩ := e
  have own : (∃ a vs ds, d = D.lst ds ∧ v = .ref a ∧ H a = some (.lst vs) ∧ RepL K F H ds vs ∧ ¬ F a ∧ ¬ O a ∧ ∀ i, ¬ OwnAt env σ i a) →
      ∃ F', Ext O F H F' H ∧ StOk K O F' H σ env ∧ Rep K F' H d v := fun ⟨a, vs, ds, e1, e2, h, rl, nF, nO, nW⟩ => by
    subst e1 e2
    have E : Ext O F H (fun b => F b ∨ b = a) H := ⟨fun _ h => .inl h, fun _ _ _ h => h, fun _ _ h => h, fun _ _ _ h => h, fun _ _ => rfl, fun b ob q => by
      rcases q with q | q
      · exact q
      · subst q; exact absurd ob nO⟩
    refine ⟨fun b => F b ∨ b = a, E, ⟨s.len, fun i d q => let ⟨v, h1, h2⟩ := s.shr i d q; ⟨v, h1, Rep.ext E d v h2⟩, fun i m d q n => ?_, s.inj, fun b q => ?_, s.odom⟩, ?_⟩
    · obtain ⟨b, ws, es, h1, h2, h3, h4, h5, h6⟩ := s.own i m d q n
      refine ⟨b, ws, es, h1, h2, h3, RepL.ext E es ws h4, fun z => ?_, h6⟩
      rcases z with z | z
      · exact h5 z
      · subst z
        exact nW i ⟨m, d, q, n, h2⟩
    · rcases q with q | q
      · exact s.fdom b q
      · subst q; rw [h]; exact nofun
    · exact ⟨a, vs, rfl, .inr rfl, h, RepL.ext E ds vs rl⟩
  cases m with
  | shr => exact ⟨F, Ext.refl, s, r⟩
  | own => exact own r
  | bor => exact own r
/-- a name's new value -/
theorem StOk.set {e : Ent} {v : V} {i : Nat} (s : StOk K O F H σ env) (r : REnt K O F H σ env e v) (hi : i < σ.length) : StOk K O F H (σ.set i (some v)) (env.set i (some e)) := by
  have hie : i < env.length := by rw [← s.len]; exact hi
  have oa : ∀ j a, j ≠ i → OwnAt (env.set i (some e)) (σ.set i (some v)) j a → OwnAt env σ j a := fun j a hj ⟨m, d, h1, h2, h3⟩ => by
    rw [List.getElem?_set_ne (Ne.symm hj)] at h1 h3
    exact ⟨m, d, h1, h2, h3⟩
  have self : ∀ a, OwnAt (env.set i (some e)) (σ.set i (some v)) i a → v = .ref a ∧ e.md ≠ Md.shr := fun a ⟨m, d, h1, h2, h3⟩ => by
    rw [List.getElem?_set_self hie] at h1
    rw [List.getElem?_set_self hi] at h3
    cases h1
    cases h3
    exact ⟨rfl, h2⟩
  have rown : e.md ≠ Md.shr → ∃ a vs ds, e.d = .lst ds ∧ v = .ref a ∧ H a = some (.lst vs) ∧ RepL K F H ds vs ∧ ¬ F a ∧ ¬ O a ∧ ∀ i, ¬ OwnAt env σ i a := fun n => by
    obtain ⟨m, d⟩ := e
    cases m with
    | shr => exact absurd rfl n
    | own => exact r
    | bor => exact r
  refine ⟨by rw [List.length_set, List.length_set]; exact s.len, fun j d q => ?_, fun j m d q n => ?_, fun j k a h1 h2 => ?_, s.fdom, s.odom⟩
  · by_cases hj : j = i
    · subst hj
      rw [List.getElem?_set_self hie] at q
      cases q
      exact ⟨v, List.getElem?_set_self hi, r⟩
    · rw [List.getElem?_set_ne (Ne.symm hj)] at q ⊢
      exact s.shr j d q
  · by_cases hj : j = i
    · subst hj
      rw [List.getElem?_set_self hie] at q
      cases q
      obtain ⟨a, vs, ds, e1, e2, h3, h4, h5, h6, _⟩ := rown n
      exact ⟨a, vs, ds, e1, by rw [List.getElem?_set_self hi, e2], h3, h4, h5, h6⟩
    · rw [List.getElem?_set_ne (Ne.symm hj)] at q ⊢
      exact s.own j m d q n
  · by_cases hj : j = i
    · by_cases hk : k = i
      · rw [hj, hk]
      · subst hj
        obtain ⟨rfl, n⟩ := self a h1
        obtain ⟨b, _, _, _, e2, _, _, _, _, nw⟩ := rown n
        cases e2
        exact absurd (oa k a hk h2) (nw k)
    · by_cases hk : k = i
      · subst hk
        obtain ⟨rfl, n⟩ := self a h2
        obtain ⟨b, _, _, _, e2, _, _, _, _, nw⟩ := rown n
        cases e2
        exact absurd (oa j a hj h1) (nw j)
      · exact s.inj j k a (oa j a hj h1) (oa k a hk h2)
/-- a name forgotten -/
theorem StOk.drop {i : Nat} (s : StOk K O F H σ env) : StOk K O F H σ (env.set i none) := by
  have g : ∀ {j : Nat} {x : Ent}, (env.set i none)[j]? = some (some x) → env[j]? = some (some x) := fun {j x} q => by
    by_cases hj : j = i
    · subst hj
      by_cases hl : j < env.length
      · rw [List.getElem?_set_self hl] at q; cases q
      · rw [List.getElem?_eq_none (by rw [List.length_set]; omega)] at q; cases q
    · rw [List.getElem?_set_ne (Ne.symm hj)] at q; exact q
  exact ⟨by rw [List.length_set]; exact s.len, fun j d q => s.shr j d (g q), fun j m d q n => s.own j m d (g q) n, fun j k a ⟨m, d, h1, h2, h3⟩ ⟨m', d', h1', h2', h3'⟩ => s.inj j k a ⟨m, d, g h1, h2, h3⟩ ⟨m', d', g h1', h2', h3'⟩, s.fdom, s.odom⟩
/-- the list that a name owns is changed -/
theorem StOk.write {i : Nat} {m : Md} {d : D} {a : Addr} {vs ws : List V} {es : List D} (s : StOk K O F H σ env) (hi : env[i]? = some (some (Ent.mk m (d)))) (hm : m ≠ Md.shr) (ha : σ[i]? = some (some (.ref a))) (h : H a = some (.lst vs))
    (nF : ¬ F a) (nO : ¬ O a) (r : RepL K F H es ws) : StOk K O F (upd H a (.lst ws)) σ (env.set i (some (Ent.mk m (D.lst es)))) ∧ Ext O F H F (upd H a (.lst ws)) := by
  have E : Ext O F H F (upd H a (.lst ws)) := ⟨fun _ h => h, fun b o f q => by
      rw [upd_ne (fun z => by subst z; exact nF f)]; exact q, fun b xs q => by
      rw [upd_ne (fun z => by subst z; rw [h] at q; cases q)]; exact q, fun b o u q => by
      rw [upd_ne (fun z => by subst z; rw [h] at q; cases q)]; exact q, fun b ob => upd_ne (fun z => by subst z; exact nO ob), fun _ _ q => q⟩
  have hie : i < env.length := (List.getElem?_eq_some_iff.mp hi).1
  have oa : ∀ j b, OwnAt (env.set i (some (Ent.mk m (D.lst es)))) σ j b → OwnAt env σ j b := fun j b ⟨m', d', h1, h2, h3⟩ => by
    by_cases hj : j = i
    · subst hj
      rw [List.getElem?_set_self hie] at h1
      cases h1
      exact ⟨m, d, hi, hm, h3⟩
    · rw [List.getElem?_set_ne (Ne.symm hj)] at h1
      exact ⟨m', d', h1, h2, h3⟩
  refine ⟨⟨by rw [List.length_set]; exact s.len, fun j d' q => ?_, fun j m' d' q n => ?_, fun j k b h1 h2 => s.inj j k b (oa j b h1) (oa k b h2), fun b f => ?_, fun b f => ?_⟩, E⟩
  · by_cases hj : j = i
    · subst hj
      rw [List.getElem?_set_self hie] at q
      cases q
      exact absurd rfl hm
    · rw [List.getElem?_set_ne (Ne.symm hj)] at q
      obtain ⟨v, h1, h2⟩ := s.shr j d' q
      exact ⟨v, h1, Rep.ext E d' v h2⟩
  · by_cases hj : j = i
    · subst hj
      rw [List.getElem?_set_self hie] at q
      cases q
      exact ⟨a, ws, es, rfl, ha, upd_same, RepL.ext E es ws r, nF, nO⟩
    · rw [List.getElem?_set_ne (Ne.symm hj)] at q
      obtain ⟨b, xs, ds, h1, h2, h3, h4, h5, h6⟩ := s.own j m' d' q n
      have hb : b ≠ a := fun z => by
        subst z
        exact hj (s.inj j i b ⟨m', d', q, n, h2⟩ ⟨m, d, hi, hm, ha⟩)
      exact ⟨b, xs, ds, h1, h2, by rw [upd_ne hb]; exact h3, RepL.ext E ds xs h4, h5, h6⟩
  · by_cases hb : b = a
    · subst hb; rw [upd_same]; exact nofun
    · rw [upd_ne hb]; exact s.fdom b f
  · by_cases hb : b = a
    · subst hb; rw [upd_same]; exact nofun
    · rw [upd_ne hb]; exact s.odom b f
/-- a name that owned its list lets it be still -/
theorem StOk.still {i : Nat} {m : Md} {d : D} (s : StOk K O F H σ env) (hi : env[i]? = some (some (Ent.mk m (d)))) (hm : m ≠ Md.shr) :
    ∃ v F', σ[i]? = some (some v) ∧ Ext O F H F' H ∧ StOk K O F' H σ (env.set i (some (Ent.mk Md.shr (d)))) ∧ Rep K F' H d v := by
  obtain ⟨a, vs, ds, rfl, e2, h, rl, nF, nO⟩ := s.own i m d hi hm
  have s' : StOk K O F H σ (env.set i none) := s.drop
  have hie : i < env.length := (List.getElem?_eq_some_iff.mp hi).1
  have nw : ∀ j, ¬ OwnAt (env.set i none) σ j a := fun j ⟨m', d', h1, h2, h3⟩ => by
    by_cases hj : j = i
    · subst hj
      rw [List.getElem?_set_self hie] at h1; cases h1
    · rw [List.getElem?_set_ne (Ne.symm hj)] at h1
      exact hj (s.inj j i a ⟨m', d', h1, h2, h3⟩ ⟨m, _, hi, hm, e2⟩)
  obtain ⟨F', E, s2, r2⟩ := freeze (e := ⟨.own, .lst ds⟩) (v := .ref a) s' ⟨a, vs, ds, rfl, rfl, h, rl, nF, nO, nw⟩
  have hl : i < σ.length := by rw [s.len]; exact hie
  have s3 := StOk.set (e := ⟨.shr, .lst ds⟩) (v := .ref a) (i := i) s2 r2 hl
  have e3 : σ.set i (some (.ref a)) = σ := by
    apply List.ext_getElem?
    intro j
    by_cases hj : j = i
    · subst hj; rw [List.getElem?_set_self hl, e2]
    · rw [List.getElem?_set_ne (Ne.symm hj)]
  rw [e3, List.set_set] at s3
  exact ⟨.ref a, F', e2, E, s3, r2⟩
end
end DL
/-! DLK: tuples that are known to their objects. -/
namespace DL
open PySem PySem.Spec PyProof.Rows L2
section
variable {X : Cx} {pins : List (Addr × Obj)} {σ : L2.St} {H : Hp} {s : Shared}
/-- a new tuple at any free place -/
abbrev NewT (xs : List V) (H : Hp) (Q : VK) : Prop := ∀ (p : Addr) (o : Obj), o.dict = none → H p = none → Q (.ref p) (upd H p (.frz o (.tup xs)))
theorem lay_tup {us : List Value} {xs : List V} {Q : VK} (I : Inv X pins σ H s) (r : Vals xs us) (z : xs.length ≤ sizeLine) (q : NewT xs H Q) :
    EP X pins σ Q (.ref s.heap.objs.size) { s with heap := s.heap.push { cls := .type "tuple", data := .seq us.toArray } } :=
  ⟨.ref s.heap.objs.size, upd H s.heap.objs.size (.frz { cls := .type "tuple", data := .seq us.toArray } (.tup xs)),
    I.laid (t' := s.toks) (o := .frz { cls := .type "tuple", data := .seq us.toArray } (.tup xs)) (fun b u e => Heap.get?_push_of_some _ e) (Nat.le_refl _)
      ⟨Heap.get?_push_size _ rfl, z, us, r, IsTup.new _ _⟩, rfl, q _ _ rfl (I.hok.fresh (Nat.le_refl _))⟩
def tTupL (t : TA) : TE := fun σ H Q => t σ H fun xs H1 => xs.length ≤ sizeLine ∧ NewT xs H1 Q
theorem pe_tupL {es : List Expr} {t : TA} {x1} {pos : Pos} (h : PA X es t) : PE X (.Tuple es x1 pos) (tTupL t) := by
  refine ⟨fun pins s σ H Q I hq => ?_⟩
  exact wpAny_Tuple_spliced (thn (h.run pos pins s σ H _ I hq) fun us s1 ⟨xs, H1, I1, r, z, q⟩ => ⟨by rw [← r.length]; exact z, lay_tup I1 r z q⟩)
def rTupOfL (K : PySem.W.Frag) : List V → Hp → VK → Prop := fun xs H Q => ∃ p ys, xs = [.ref p] ∧ ((SqL K H p ys ∧ NewT ys H Q) ∨ (SqT K H p ys ∧ Q (.ref p) H))
theorem call_tuple_ofL : CallR X (.type "tuple") (rTupOfL X.K) := by
  intro pins s σ H xs us Q I r h
  obtain ⟨p, ys, rfl, h⟩ := h
  obtain ⟨u, rfl, rx⟩ := vals1 r
  cases rx
  rcases h with ⟨hq, q⟩ | ⟨hq, q⟩
  · obtain ⟨its, r', pl, hz⟩ := I.list hq
    have hlen := r'.length
    refine call_tuple_list pl.isList (fun h' kp => ?_) (by simp only [List.size_toArray] <;> omega)
    have I1 : Inv X pins σ H { s with heap := h' } := I.kept (t' := s.toks) kp
    exact lay_tup I1 r' hz q
  · obtain ⟨its, r', pl, hz⟩ := I.tuple hq
    exact call_tuple_same pl ⟨.ref p, H, I, rfl, q⟩
def rCatL (K : PySem.W.Frag) : R2 := fun x y H Q => ∃ a b xs ys, x = .ref a ∧ y = .ref b ∧ SqT K H a xs ∧ SqT K H b ys ∧ xs.length + ys.length ≤ sizeLine ∧
  (xs = [] → Q (.ref b) H) ∧ (xs ≠ [] → ys = [] → Q (.ref a) H) ∧ (xs ≠ [] → ys ≠ [] → NewT (xs ++ ys) H Q)
theorem op_catL : OpR X (binaryOp .Add) (rCatL X.K) := by
  intro pins s σ H x y v u Q I rx ry h
  obtain ⟨a, b, xs, ys, rfl, rfl, ha, hb, hz, q0, q1, q2⟩ := h
  cases rx
  cases ry
  obtain ⟨its, r1, p1, _⟩ := I.tuple ha
  obtain ⟨its2, r2, p2, _⟩ := I.tuple hb
  by_cases hx : xs = []
  · subst hx
    cases r1
    exact cat_tup0 p1 p2 ⟨.ref b, H, I, rfl, q0 rfl⟩
  · refine HT.cat_tup p1 p2 (fun z => hx (r1.nil_iff.mp z)) (fun z => ⟨.ref a, H, I, rfl, q1 hx (r2.nil_iff.mp z)⟩) (fun z => ?_) (by rw [← r1.length, ← r2.length]; exact hz)
    exact lay_tup I (r1.append r2) (by rw [List.length_append]; exact hz) (q2 hx fun w => z (r2.nil_iff.mpr w))
def rSlTL (K : PySem.W.Frag) : V → Option Int → Option Int → Hp → VK → Prop := fun x lo hi H Q => ∃ a xs, x = .ref a ∧ SqT K H a xs ∧
  (HT.sIx xs.length 0 lo = 0 ∧ HT.sIx xs.length xs.length hi = xs.length → Q (.ref a) H) ∧ (¬ (HT.sIx xs.length 0 lo = 0 ∧ HT.sIx xs.length xs.length hi = xs.length) → NewT (cutV xs lo hi) H Q)
theorem sl_tupL : SlR X (rSlTL X.K) := by
  intro pins s σ H x v vl vu lo hi sl Q I rx hs pl pu h
  obtain ⟨a, xs, rfl, hx, q1, q2⟩ := h
  cases rx
  obtain ⟨its, r, ht, hz⟩ := I.tuple hx
  have hlen : its.toArray.size = xs.length := by rw [List.size_toArray]; exact r.length.symm
  refine ⟨"tuple", _, PyProof.Rows.slot_tuple_getitem.lookup, ht.typeIs, ?_⟩
  by_cases hw : HT.sIx xs.length 0 lo = 0 ∧ HT.sIx xs.length xs.length hi = xs.length
  · exact getItem_tuple_whole ht hs pl pu (by rw [hlen]; exact hw) ⟨.ref a, H, I, rfl, q1 hw⟩
  · refine HT.getItem_tuple_cut ht hs pl pu (by rw [hlen]; exact hw) ?_ (by rw [hlen]; exact hz)
    rw [hlen]
    exact lay_tup I ((r.drop (HT.sIx xs.length 0 lo)).take (HT.sIx xs.length xs.length hi - HT.sIx xs.length 0 lo)) (Nat.le_trans (cutV_length xs lo hi) hz) (q2 hw)
end

/-! ### t * k -/
section
theorem tuple_mulOne (l : Addr) (items : Array Value) (n : Nat) (sl : Array (Option Value)) (dd : Option Addr) (u : Tok) :
    Meets (Builtin.«tuple.__mul__» ⟨[.ref l, .int 1 u], []⟩) (fun _ R s => s.heap.get? l = some { cls := .type "tuple", dict := dd, data := .seq items n, slots := sl } ∧ R (.ok (.ret (Value.ref l))) s) :=
  .of_wp fun prog w A R s h => by
    obtain ⟨hp, g, d, tk, os⟩ := s
    obtain ⟨hl, h⟩ := h
    have f1 := AutoSeq1.idx_int
    have c0 : (decide ((1 : Int) < -(2 ^ 63)) || decide ((1 : Int) ≥ 2 ^ 63)) = false := by decide
    have c1 : (items.isEmpty || (1 : Int) == 1) = true := by rw [Bool.or_eq_true]; right; decide
    wp_walk using wpAny_loadPart' hl
    repeat (first
      | (refine wpAny_ite_false (decide_eq_false (by rw [c0]; exact Bool.false_ne_true)) ?_; wp_walk using wpAny_loadPart' hl)
      | (refine wpAny_ite_true (decide_eq_true (by exact c1)) ?_; wp_walk using wpAny_loadPart' hl))
    exact ⟨_, rfl, h⟩
theorem tuple_mulNone (l : Addr) (items : Array Value) (n : Nat) (sl : Array (Option Value)) (dd : Option Addr) (x : Int) (u : Tok) (c0 : (decide (x < -(2 ^ 63)) || decide (x ≥ 2 ^ 63)) = false) (c1 : (items.isEmpty || x == 1) = false) (c2 : (decide (x ≤ 0) || items.isEmpty) = true) :
    Meets (Builtin.«tuple.__mul__» ⟨[.ref l, .int x u], []⟩) (fun _ R s => s.heap.get? l = some { cls := .type "tuple", dict := dd, data := .seq items n, slots := sl } ∧
      R (.ok (.ret (Value.ref s.heap.objs.size))) { s with heap := s.heap.push { cls := Value.type "tuple", data := Data.seq #[] }, toks := s.toks }) :=
  .of_wp fun prog w A R s h => by
    obtain ⟨hp, g, d, tk, os⟩ := s
    obtain ⟨hl, h⟩ := h
    have f1 := AutoSeq1.idx_int
    wp_walk using wpAny_loadPart' hl
    repeat (first
      | (refine wpAny_ite_false (decide_eq_false (by rw [c0]; exact Bool.false_ne_true)) ?_; wp_walk using wpAny_loadPart' hl)
      | (refine wpAny_ite_false (decide_eq_false (by rw [c1]; exact Bool.false_ne_true)) ?_; wp_walk using wpAny_loadPart' hl)
      | (refine wpAny_ite_true (decide_eq_true (by exact c2)) ?_; wp_walk using wpAny_loadPart' hl))
    exact ⟨_, rfl, h⟩
variable {X : Cx}
def rRepL (K : PySem.W.Frag) : R2 := fun x y H Q => ∃ l k xs, x = .ref l ∧ y = .int k ∧ SqT K H l xs ∧ xs ≠ [] ∧ 0 ≤ k ∧ k ≤ 1000 ∧ xs.length ≤ 1000 ∧ (k = 1 → Q (.ref l) H) ∧ (k ≠ 1 → NewT (List.replicate k.toNat xs).flatten H Q)
theorem op_repL : OpR X (binaryOp .Mult) (rRepL X.K) := by
  intro pins s σ H x y v u Q I rx ry h
  obtain ⟨l, k, xs, rfl, rfl, hT, hne, h1, h2, hz, qa, q⟩ := h
  cases rx
  obtain ⟨t, rfl⟩ := ry
  obtain ⟨its, r, ⟨⟨cls, dd, data, sl⟩, ho, hc, n, hd⟩, hs⟩ := I.tuple hT
  simp only at hc hd
  subst hc hd
  have hle : its.length = xs.length := r.length.symm
  have hn : its ≠ [] := fun e => hne (by
    rw [e] at hle
    exact List.eq_nil_of_length_eq_zero hle.symm)
  have hi : its.toArray.isEmpty = false := by
    cases its with
    | nil => exact absurd rfl hn
    | cons a b => rfl
  have hsz0 : its.toArray.size = xs.length := by rw [List.size_toArray, hle]
  have hm : ((its.toArray.size : Nat) : Int) * k ≤ 1000000 := by
    rw [hsz0]
    have a1 : ((xs.length : Nat) : Int) * k ≤ 1000 * k := Int.mul_le_mul_of_nonneg_right (by omega) (by omega)
    omega
  have flen : (List.replicate k.toNat its).flatten.length ≤ sizeLine := by
    rw [PyProof.Rows.lm_len_rep_flat, hle, sizeLine_eq]
    have a1 : k.toNat * xs.length ≤ 1000 * 1000 := Nat.mul_le_mul (by omega) hz
    omega
  have flen2 : (List.replicate k.toNat xs).flatten.length ≤ sizeLine := by
    rw [PyProof.Rows.lm_len_rep_flat, sizeLine_eq]
    have a1 : k.toNat * xs.length ≤ 1000 * 1000 := Nat.mul_le_mul (by omega) hz
    omega
  have c0 : (decide (k < -(2 ^ 63)) || decide (k ≥ 2 ^ 63)) = false := by
    rw [decide_eq_false (by omega), decide_eq_false (by omega)] <;> rfl
  refine wpAny_binaryOp_repeat_ref (T := "tuple") (U := "int") (by decide) ⟨_, ho, rfl⟩ (fun s' => typeIs_int s' k t) noFill_tuple_mul F.fills_int_mul F.slot_int_rmul repeat_tuple F.slot_int_index.lookup
    (call_meets F.slot_int_rmul (typeIs_int s k t) F.entry_int_rmul (F.args_int_rmul_2 _ _) (int_rmul_tuple k t l its.toArray n dd sl)
      ⟨ho, rfl, ⟨_, ho, rfl⟩, ?_⟩)
  by_cases hk1 : k = 1
  · subst hk1
    exact call_meets F.slot_tuple_mul ⟨_, ho, rfl⟩ F.entry_tuple_mul (F.args_tuple_mul_2 _ _) (tuple_mulOne l its.toArray n sl dd t) ⟨ho, .ref l, H, I, rfl, qa rfl⟩
  · have c1 : (its.toArray.isEmpty || k == 1) = false := by
      rw [hi, Bool.false_or]
      exact beq_eq_false_iff_ne.mpr hk1
    by_cases hk0 : k = 0
    · subst hk0
      refine call_meets F.slot_tuple_mul ⟨_, ho, rfl⟩ F.entry_tuple_mul (F.args_tuple_mul_2 _ _) (tuple_mulNone l its.toArray n sl dd 0 t c0 c1 (by rw [hi]; decide)) ⟨ho, ?_⟩
      exact lay_tup (us := []) (xs := []) I .nil (by show 0 ≤ sizeLine; exact Nat.zero_le _) (q hk1)
    · have c2 : (decide (k ≤ 0) || its.toArray.isEmpty) = false := by
        rw [hi, Bool.or_false]
        exact decide_eq_false (by omega)
      have c4 : Builtin.Tuple.tupleTooMany (((its.toArray.size : Nat) : Int) * k) = false := by
        unfold Builtin.Tuple.tupleTooMany
        rw [sizeLine_eq]
        exact decide_eq_false (by omega)
      refine call_meets F.slot_tuple_mul ⟨_, ho, rfl⟩ F.entry_tuple_mul (F.args_tuple_mul_2 _ _) (tuple_mulW l its.toArray n dd sl k t c0 c1 c2 (by omega) c4 (by rw [size_rep, List.size_toArray]; exact flen)) ⟨ho, ?_⟩
      rw [size_rep]
      exact lay_tup I (r.rep k.toNat) flen2 (q hk1)
end
end DL
/-! DL1: what an expression, a test, a statement is worth over plain data (D), and the tie to the layer's readings. -/
namespace DL
open PySem PySem.Spec PyProof.Rows L2

structure Xc where
  c : Str
  fs : List D
inductive R (α : Type) where
  | ok (a : α) (e : DEnv) | err (x : Xc) (e : DEnv) | bad
def R.bind {α β : Type} (r : R α) (f : α → DEnv → R β) : R β := match r with
  | .ok a e => f a e
  | .err x e => .err x e
  | .bad => .bad
abbrev DE := DEnv → R Ent
abbrev DT := DEnv → R Bool
inductive Fl where
  | nx | brk | cnt | ret (e : Ent)
abbrev DS := DEnv → R Fl

/-- how the raised error stands -/
def ExcRep (mg : Str → Option Value) (F : Fz) (H : Hp) (x : Xc) (cls : Value) (d : Option Addr) : Prop :=
  ∃ C, mg x.c = some (.ref C) ∧ cls = .ref C ∧ x.fs = [] ∧ d = none

section
variable (X : Cx) (W : WX)
/-- what must hold behind, by what the data say -/
def EGoal (O F : Fz) (σ : L2.St) (H : Hp) (Q : VK) : R Ent → Prop
  | .ok r env' => ∀ F' H' v, Ext O F H F' H' → StOk X.K O F' H' σ env' → REnt X.K O F' H' σ env' r v → Q v H'
  | .err x env' => ∀ F' H' cls d, Ext O F H F' H' → StOk X.K O F' H' σ env' → ExcRep X.mg F' H' x cls d → W cls d σ H'
  | .bad => False
def ESem (t : TE) (m : DE) : Prop := ∀ O F σ H env Q, StOk X.K O F H σ env → EGoal X W O F σ H Q (m env) → t σ H Q
def TGoal (O F : Fz) (σ : L2.St) (H : Hp) (Q : Bool → Hp → Prop) : R Bool → Prop
  | .ok b env' => ∀ F' H', Ext O F H F' H' → StOk X.K O F' H' σ env' → Q b H'
  | .err x env' => ∀ F' H' cls d, Ext O F H F' H' → StOk X.K O F' H' σ env' → ExcRep X.mg F' H' x cls d → W cls d σ H'
  | .bad => False
def TSem (t : TT) (m : DT) : Prop := ∀ O F σ H env Q, StOk X.K O F H σ env → TGoal X W O F σ H Q (m env) → t σ H Q
abbrev Bs := Nat → Bool
/-- the names that stay what they are -/
def Keeps (B : Bs) (σ σ' : L2.St) : Prop := σ'.length = σ.length ∧ ∀ i, B i = true → σ'[i]? = σ[i]?
def SGoal (B : Bs) (O F : Fz) (σ : L2.St) (H : Hp) (Dn : Ends) : R Fl → Prop
  | .ok .nx env' => ∀ F' H' σ', Ext O F H F' H' → StOk X.K O F' H' σ' env' → Keeps B σ σ' → Dn.nx σ' H'
  | .ok .brk env' => ∀ F' H' σ', Ext O F H F' H' → StOk X.K O F' H' σ' env' → Keeps B σ σ' → Dn.bk σ' H'
  | .ok .cnt env' => ∀ F' H' σ', Ext O F H F' H' → StOk X.K O F' H' σ' env' → Keeps B σ σ' → Dn.ct σ' H'
  | .ok (.ret e) env' => ∀ F' H' σ' v, Ext O F H F' H' → StOk X.K O F' H' σ' env' → Keeps B σ σ' → REnt X.K O F' H' σ' env' e v → Dn.rt v H'
  | .err x env' => ∀ F' H' σ' cls d, Ext O F H F' H' → StOk X.K O F' H' σ' env' → Keeps B σ σ' → ExcRep X.mg F' H' x cls d → W cls d σ' H'
  | .bad => False
def SSem (B : Bs) (t : TS) (m : DS) : Prop := ∀ O F σ H env Dn, StOk X.K O F H σ env → SGoal X W B O F σ H Dn (m env) → t Dn σ H

def DEv (e : Expr) (m : DE) : Prop := ∃ t, PE X e t ∧ ESem X W t m
def DTst (e : Expr) (m : DT) : Prop := ∃ t, PT X e t ∧ TSem X W t m
def DTw (e : Expr) (m : DT) : Prop := ∃ t, PW X e t ∧ TSem X W t m
def DSt (B : Bs) (st : Stmt) (m : DS) : Prop := ∃ t, PS X st t ∧ SSem X W B t m
def DSs (B : Bs) (sts : List Stmt) (m : DS) : Prop := ∃ t, PSs X sts t ∧ SSem X W B t m
end

section
variable {X : Cx} {W : WX} {O F F1 : Fz} {σ σ1 : L2.St} {H H1 : Hp} {B : Bs}
theorem EGoal.step {Q : VK} (e : Ext O F H F1 H1) : ∀ {r : R Ent}, EGoal X W O F σ H Q r → EGoal X W O F1 σ H1 Q r
  | .ok _ _, h => fun F' H' v e' s r => h F' H' v (e.trans e') s r
  | .err _ _, h => fun F' H' c d e' s r => h F' H' c d (e.trans e') s r
  | .bad, h => h
theorem TGoal.step {Q : Bool → Hp → Prop} (e : Ext O F H F1 H1) : ∀ {r : R Bool}, TGoal X W O F σ H Q r → TGoal X W O F1 σ H1 Q r
  | .ok _ _, h => fun F' H' e' s => h F' H' (e.trans e') s
  | .err _ _, h => fun F' H' c d e' s r => h F' H' c d (e.trans e') s r
  | .bad, h => h
theorem Keeps.refl : Keeps B σ σ := ⟨rfl, fun _ _ => rfl⟩
theorem Keeps.trans {σ2 : L2.St} (a : Keeps B σ σ1) (b : Keeps B σ1 σ2) : Keeps B σ σ2 := ⟨b.1.trans a.1, fun i h => (b.2 i h).trans (a.2 i h)⟩
theorem SGoal.step {Dn : Ends} (e : Ext O F H F1 H1) (k : Keeps B σ σ1) : ∀ {r : R Fl}, SGoal X W B O F σ H Dn r → SGoal X W B O F1 σ1 H1 Dn r
  | .ok .nx _, h => fun F' H' σ' e' s k' => h F' H' σ' (e.trans e') s (k.trans k')
  | .ok .brk _, h => fun F' H' σ' e' s k' => h F' H' σ' (e.trans e') s (k.trans k')
  | .ok .cnt _, h => fun F' H' σ' e' s k' => h F' H' σ' (e.trans e') s (k.trans k')
  | .ok (.ret _) _, h => fun F' H' σ' v e' s k' r => h F' H' σ' v (e.trans e') s (k.trans k') r
  | .err _ _, h => fun F' H' σ' c d e' s k' r => h F' H' σ' c d (e.trans e') s (k.trans k') r
  | .bad, h => h
end

/-! ### names and constants -/
def dC (d : D) : DE := fun env => .ok ⟨.shr, d⟩ env
/-- a name's value, handed on: what it owned is still from now on -/
def dVar (i : Nat) : DE := fun env => match env[i]? with
  | some (some e) => .ok ⟨.shr, e.d⟩ (env.set i (some ⟨.shr, e.d⟩))
  | _ => .bad
section
variable {X : Cx} {W : WX}
theorem set_self {env : DEnv} {i : Nat} {e : Ent} (h : env[i]? = some (some e)) : env.set i (some e) = env := by
  apply List.ext_getElem?
  intro j
  by_cases hj : j = i
  · subst hj
    rw [List.getElem?_set_self (List.getElem?_eq_some_iff.mp h).1, h]
  · rw [List.getElem?_set_ne (Ne.symm hj)]
theorem sem_c {d : D} {v : V} (h : ∀ K F H, Rep K F H d v) : ESem X W (tC v) (dC d) := fun O F σ H env Q s g => g F H v Ext.refl s (h _ _ _)
theorem e_int {i : Int} {j pos} : DEv X W (.Constant (.int i) j pos) (dC (.int i)) := ⟨_, pe_int, sem_c fun _ _ _ => rfl⟩
theorem e_bl {b : Bool} {j pos} : DEv X W (.Constant (.bool b) j pos) (dC (.bl b)) := ⟨_, pe_bl, sem_c fun _ _ _ => rfl⟩
theorem e_non {j pos} : DEv X W (.Constant .none j pos) (dC .non) := ⟨_, pe_non, sem_c fun _ _ _ => rfl⟩
theorem e_str {x j pos} : DEv X W (.Constant (.str x) j pos) (dC (.str x)) := ⟨_, pe_str, sem_c fun _ _ _ => rfl⟩
theorem sem_var {i : Nat} : ESem X W (tVar i) (dVar i) := fun O F σ H env Q s g => by
  unfold dVar at g
  cases q : env[i]? with
  | none => rw [q] at g; exact g.elim
  | some o =>
    cases o with
    | none => rw [q] at g; exact g.elim
    | some e =>
      rw [q] at g
      obtain ⟨m, d⟩ := e
      by_cases hm : m = Md.shr
      · subst hm
        obtain ⟨v, h1, h2⟩ := s.shr i d q
        refine ⟨v, h1, g F H v Ext.refl ?_ h2⟩
        rw [set_self q]
        exact s
      · obtain ⟨v, F', h1, E, s', r⟩ := s.still q hm
        exact ⟨v, h1, g F' H v E s' r⟩
theorem e_var (i : Nat) {x : Str} {pos : Pos} (hN : X.N[i]? = some x := by rfl) (hv : Vis X.env.scope x := by first | exact Or.inl rfl | exact Or.inr (Or.inl rfl) | exact Or.inr (Or.inr rfl)) (hd : (x == ("__debug__" : Str)) = false := by decide)
    (hcd : (x == ("__classdict__" : Str)) = false := by decide) : DEv X W (.Name x pos) (dVar i) := ⟨_, pe_var hN hv hd hcd, sem_var⟩
/-- a module's constant -/
theorem e_gint {x : Str} {i : Int} {t : Tok} {pos : Pos} (hg : Gl X x) (hm : X.mg x = some (.int i t)) (hd : (x == ("__debug__" : Str)) = false := by decide) : DEv X W (.Name x pos) (dC (.int i)) := ⟨_, pe_glob (v := .int i) hg hm ⟨_, rfl⟩ hd, sem_c fun _ _ _ => rfl⟩
end

/-! ### operands -/
inductive Opd where
  /-- a value, reckoned -/
  | v (m : DE)
  /-- the list that a name holds, read where the operation is done -/
  | s (i : Nat)
inductive AV where
  | d (x : D) | s (i : Nat)
def evOs : List Opd → DEnv → R (List AV)
  | [], env => .ok [] env
  | .v m :: os, env => (m env).bind fun r env1 => (evOs os env1).bind fun avs env2 => .ok (.d r.d :: avs) env2
  | .s i :: os, env => match env[i]? with
    | some (some _) => (evOs os env).bind fun avs env2 => .ok (.s i :: avs) env2
    | _ => .bad
@[simp] def getAV (env : DEnv) : AV → Option D
  | .d x => some x
  | .s i => match env[i]? with
    | some (some e) => some e.d
    | _ => none
@[simp] def getAVs (env : DEnv) : List AV → Option (List D)
  | [] => some []
  | a :: as => match getAV env a, getAVs env as with
    | some d, some ds => some (d :: ds)
    | _, _ => none
def AVs (K : PySem.W.Frag) (F : Fz) (H : Hp) (σ : L2.St) : List AV → List V → Prop
  | [], vs => vs = []
  | .d x :: as, vs => ∃ v r, vs = v :: r ∧ Rep K F H x v ∧ AVs K F H σ as r
  | .s i :: as, vs => ∃ v r, vs = v :: r ∧ σ[i]? = some (some v) ∧ AVs K F H σ as r
theorem AVs.ext {K : PySem.W.Frag} {O F F' : Fz} {H H' : Hp} {σ : L2.St} (e : Ext O F H F' H') : ∀ {as : List AV} {vs : List V}, AVs K F H σ as vs → AVs K F' H' σ as vs
  | [], _, h => h
  | .d x :: as, vs, ⟨v, r, e1, h1, h2⟩ => ⟨v, r, e1, Rep.ext e x v h1, AVs.ext e h2⟩
  | .s i :: as, vs, ⟨v, r, e1, h1, h2⟩ => ⟨v, r, e1, h1, AVs.ext e h2⟩
/-- read at the state behind -/
def RepTs (K : PySem.W.Frag) (F : Fz) (H : Hp) : List D → List V → Prop
  | [], vs => vs = []
  | d :: ds, vs => ∃ v r, vs = v :: r ∧ RepT K F H d v ∧ RepTs K F H ds r
theorem StOk.top {K : PySem.W.Frag} {O F : Fz} {H : Hp} {σ : L2.St} {env : DEnv} {i : Nat} {e : Ent} (s : StOk K O F H σ env) (h : env[i]? = some (some e)) : ∃ v, σ[i]? = some (some v) ∧ RepT K F H e.d v := by
  obtain ⟨m, d⟩ := e
  by_cases hm : m = Md.shr
  · subst hm
    obtain ⟨v, h1, h2⟩ := s.shr i d h
    exact ⟨v, h1, h2.top⟩
  · obtain ⟨a, vs, ds, rfl, h1, h2, h3, _⟩ := s.own i m d h hm
    exact ⟨.ref a, h1, a, vs, rfl, h2, h3⟩
theorem AVs.tops {K : PySem.W.Frag} {O F : Fz} {H : Hp} {σ : L2.St} {env : DEnv} (s : StOk K O F H σ env) : ∀ {as : List AV} {vs : List V} {ds : List D}, AVs K F H σ as vs → getAVs env as = some ds → RepTs K F H ds vs
  | [], _, _, h, g => by cases g; exact h
  | .d x :: as, vs, ds, ⟨v, r, e1, h1, h2⟩, g => by
    simp only [getAVs, getAV] at g
    cases q : getAVs env as with
    | none => rw [q] at g; cases g
    | some es =>
      rw [q] at g; cases g
      exact ⟨v, r, e1, h1.top, AVs.tops s h2 q⟩
  | .s i :: as, vs, ds, ⟨v, r, e1, h1, h2⟩, g => by
    simp only [getAVs, getAV] at g
    cases q1 : env[i]? with
    | none => rw [q1] at g; cases g
    | some o =>
      cases o with
      | none => rw [q1] at g; cases g
      | some e =>
        rw [q1] at g
        cases q : getAVs env as with
        | none => rw [q] at g; cases g
        | some es =>
          rw [q] at g; cases g
          obtain ⟨v', z1, z2⟩ := s.top q1
          rw [h1] at z1; cases z1
          exact ⟨v, r, e1, z2, AVs.tops s h2 q⟩

section
variable (X : Cx) (W : WX)
def AGoal (O F : Fz) (σ : L2.St) (H : Hp) (Q : List V → Hp → Prop) : R (List AV) → Prop
  | .ok avs env' => ∀ F' H' vs, Ext O F H F' H' → StOk X.K O F' H' σ env' → AVs X.K F' H' σ avs vs → Q vs H'
  | .err x env' => ∀ F' H' cls d, Ext O F H F' H' → StOk X.K O F' H' σ env' → ExcRep X.mg F' H' x cls d → W cls d σ H'
  | .bad => False
def ASem (t : TA) (os : List Opd) : Prop := ∀ O F σ H env Q, StOk X.K O F H σ env → AGoal X W O F σ H Q (evOs os env) → t σ H Q
/-- one operand -/
def OSem (t : TE) : Opd → Prop
  | .v m => ESem X W t m
  | .s i => t = tVar i
def DOp (e : Expr) (o : Opd) : Prop := ∃ t, PE X e t ∧ OSem X W t o
def DAs (es : List Expr) (os : List Opd) : Prop := ∃ t, PA X es t ∧ ASem X W t os
end
section
variable {X : Cx} {W : WX}
theorem o_v {e : Expr} {m : DE} (h : DEv X W e m) : DOp X W e (.v m) := h
theorem o_s (i : Nat) {x : Str} {pos : Pos} (hN : X.N[i]? = some x := by rfl) (hv : Vis X.env.scope x := by first | exact Or.inl rfl | exact Or.inr (Or.inl rfl) | exact Or.inr (Or.inr rfl)) (hd : (x == ("__debug__" : Str)) = false := by decide)
    (hcd : (x == ("__classdict__" : Str)) = false := by decide) : DOp X W (.Name x pos) (.s i) := ⟨_, pe_var hN hv hd hcd, rfl⟩
theorem AGoal.step {O F F1 : Fz} {σ : L2.St} {H H1 : Hp} {Q : List V → Hp → Prop} (e : Ext O F H F1 H1) : ∀ {r : R (List AV)}, AGoal X W O F σ H Q r → AGoal X W O F1 σ H1 Q r
  | .ok _ _, h => fun F' H' vs e' s r => h F' H' vs (e.trans e') s r
  | .err _ _, h => fun F' H' c d e' s r => h F' H' c d (e.trans e') s r
  | .bad, h => h
theorem asem_nil : ASem X W tNil [] := fun O F σ H env Q s g => g F H [] Ext.refl s rfl
theorem asem_cons {te : TE} {t : TA} {o : Opd} {os : List Opd} (ho : OSem X W te o) (ht : ASem X W t os) : ASem X W (tCons te t) (o :: os) := fun O F σ H env Q s g => by
  cases o with
  | v m =>
    refine ho O F σ H env _ s ?_
    unfold evOs at g
    cases q : m env with
    | bad => rw [q] at g; exact g.elim
    | err x e =>
      rw [q] at g
      exact fun F' H' c d e' s' r => g F' H' c d e' s' r
    | ok r env1 =>
      rw [q] at g
      intro F1 H1 v E1 s1 r1
      obtain ⟨F2, E2, s2, r2⟩ := freeze s1 r1
      refine ht O F2 σ H1 env1 _ s2 ?_
      simp only [R.bind] at g
      cases q2 : evOs os env1 with
      | bad => rw [q2] at g; exact g.elim
      | err x e =>
        rw [q2] at g
        exact fun F' H' c d e' s' r => g F' H' c d ((E1.trans E2).trans e') s' r
      | ok avs env2 =>
        rw [q2] at g
        intro F3 H3 vs E3 s3 r3
        exact g F3 H3 (v :: vs) ((E1.trans E2).trans E3) s3 ⟨v, vs, rfl, Rep.ext E3 r.d v r2, r3⟩
  | s i =>
    obtain rfl : te = tVar i := ho
    unfold evOs at g
    show ∃ v, σ[i]? = some (some v) ∧ t σ H fun xs H2 => Q (v :: xs) H2
    cases q : env[i]? with
    | none => rw [q] at g; exact g.elim
    | some oe =>
      cases oe with
      | none => rw [q] at g; exact g.elim
      | some e =>
        rw [q] at g
        obtain ⟨v, hv, _⟩ := s.top q
        refine ⟨v, hv, ht O F σ H env _ s ?_⟩
        cases q2 : evOs os env with
        | bad => rw [q2] at g; exact g.elim
        | err x e =>
          rw [q2] at g
          exact fun F' H' c d e' s' r => g F' H' c d e' s' r
        | ok avs env2 =>
          rw [q2] at g
          intro F3 H3 vs E3 s3 r3
          exact g F3 H3 (v :: vs) E3 s3 ⟨v, vs, rfl, hv, r3⟩
end
end DL
/-! DL2: operations on data, displays, comparisons, tests. -/
namespace DL
open PySem PySem.Spec PyProof.Rows L2

section
variable {X : Cx} {W : WX}
theorem a_nil : DAs X W [] [] := ⟨_, pa_nil, asem_nil⟩
theorem a_cons {e : Expr} {es : List Expr} {o : Opd} {os : List Opd} (ho : DOp X W e o) (ht : DAs X W es os)
    (hs : starEach (e :: es) X.env = (false, eval e X.env) :: starEach es X.env := by rfl) : DAs X W (e :: es) (o :: os) := by
  obtain ⟨te, he, se⟩ := ho
  obtain ⟨t, h, s⟩ := ht
  exact ⟨_, pa_cons he h hs, asem_cons se s⟩
end

/-! ### operations -/
/-- what an operation gives: a value of the data, or a new list -/
inductive PR where
  | d (x : D) | nl (xs : List D)
def PR.ent : PR → Ent
  | .d x => ⟨.shr, x⟩
  | .nl xs => ⟨.own, .lst xs⟩
def PRep (K : PySem.W.Frag) (F : Fz) (H H' : Hp) : PR → V → Prop
  | .d x, v => Rep K F H' x v
  | .nl xs, v => ∃ p vs, v = .ref p ∧ H p = none ∧ H' p = some (.lst vs) ∧ RepL K F H' xs vs
abbrev Pr := List D → Option PR
def dPrim (p : Pr) (os : List Opd) : DE := fun env => (evOs os env).bind fun avs env1 => match (getAVs env1 avs).bind p with
  | some r => .ok r.ent env1
  | none => .bad
abbrev Rl := List V → Hp → VK → Prop
/-- the rule r of the values gives what p says of the data -/
def PrimR (K : PySem.W.Frag) (p : Pr) (r : Rl) : Prop := ∀ (F : Fz) (H : Hp) (ds : List D) (vs : List V) (Q : VK) (pr : PR), (∀ a, F a → H a ≠ none) → RepTs K F H ds vs → p ds = some pr →
  (∀ H' v, Same H H' → PRep K F H H' pr v → Q v H') → r vs H Q
section
variable {X : Cx} {W : WX}
theorem prep_ent {K : PySem.W.Frag} {O F : Fz} {H H' : Hp} {σ : L2.St} {env : DEnv} {pr : PR} {v : V} (s : StOk K O F H σ env) (h : PRep K F H H' pr v) : REnt K O F H' σ env pr.ent v := by
  cases pr with
  | d x => exact h
  | nl xs =>
    obtain ⟨p, vs, e, hn, h1, h2⟩ := h
    refine ⟨p, vs, xs, rfl, e, h1, h2, fun f => s.fdom p f hn, fun f => s.odom p f hn, fun i ⟨m, d, q1, q2, q3⟩ => ?_⟩
    obtain ⟨a, ws, _, _, e2, e3, _⟩ := s.own i m d q1 q2
    rw [q3] at e2; cases e2
    rw [hn] at e3; cases e3
theorem sem_prim {ta : TA} {os : List Opd} {p : Pr} {r : Rl} (ha : ASem X W ta os) (hp : PrimR X.K p r) : ESem X W (fun σ H Q => ta σ H fun vs H1 => r vs H1 Q) (dPrim p os) := fun O F σ H env Q s g => by
  refine ha O F σ H env _ s ?_
  unfold dPrim at g
  cases q : evOs os env with
  | bad => rw [q] at g; exact g.elim
  | err x e =>
    rw [q] at g
    exact g
  | ok avs env1 =>
    rw [q] at g
    simp only [R.bind] at g
    intro F1 H1 vs E1 s1 r1
    cases q2 : getAVs env1 avs with
    | none => rw [q2] at g; exact g.elim
    | some ds =>
      rw [q2] at g
      simp only [Option.bind] at g
      cases q3 : p ds with
      | none => rw [q3] at g; exact g.elim
      | some pr =>
        rw [q3] at g
        refine hp F1 H1 ds vs Q pr s1.fdom (AVs.tops s1 r1 q2) q3 fun H' v sm pv => ?_
        exact g F1 H' v (E1.trans (Ext.same sm s1.odom)) (s1.same sm) (prep_ent s1 pv)
def two (r : R2) : Rl := fun vs H Q => match vs with
  | [x, y] => r x y H Q
  | _ => False
def one (r : V → Hp → VK → Prop) : Rl := fun vs H Q => match vs with
  | [x] => r x H Q
  | _ => False
theorem asem1 {ta : TE} {oa : Opd} (ha : OSem X W ta oa) : ASem X W (tCons ta tNil) [oa] := asem_cons ha asem_nil
theorem asem2 {ta tb : TE} {oa ob : Opd} (ha : OSem X W ta oa) (hb : OSem X W tb ob) : ASem X W (tCons ta (tCons tb tNil)) [oa, ob] := asem_cons ha (asem_cons hb asem_nil)
theorem e_op {op : Operator} {r : R2} {p : Pr} {a b : Expr} {oa ob : Opd} {pos : Pos} (ho : OpR X (binaryOp op) r) (hp : PrimR X.K p (two r)) (ha : DOp X W a oa) (hb : DOp X W b ob) : DEv X W (.BinOp a op b pos) (dPrim p [oa, ob]) := by
  obtain ⟨ta, h1, s1⟩ := ha
  obtain ⟨tb, h2, s2⟩ := hb
  exact ⟨_, pe_op ho h1 h2, sem_prim (asem2 s1 s2) hp⟩
theorem e_un {op : UnaryOp} {r : V → Hp → VK → Prop} {p : Pr} {a : Expr} {oa : Opd} {pos : Pos} (ho : UnR X (unaryOp op) r) (hp : PrimR X.K p (one r)) (ha : DOp X W a oa) : DEv X W (.UnaryOp op a pos) (dPrim p [oa]) := by
  obtain ⟨ta, h1, s1⟩ := ha
  exact ⟨_, pe_un ho h1, sem_prim (asem1 s1) hp⟩
theorem e_cmp {op : CmpOp} {r : R2} {p : Pr} {a b : Expr} {oa ob : Opd} {pos : Pos} (ho : OpR X (compareOp op) r) (hp : PrimR X.K p (two r)) (ha : DOp X W a oa) (hb : DOp X W b ob) (hm : behindInMarks op b = false) : DEv X W (.Compare a [op] [b] pos) (dPrim p [oa, ob]) := by
  obtain ⟨ta, h1, s1⟩ := ha
  obtain ⟨tb, h2, s2⟩ := hb
  exact ⟨_, pe_cmpR ho h1 h2 hm, sem_prim (asem2 s1 s2) hp⟩
theorem e_ix {r : R2} {p : Pr} {a b : Expr} {oa ob : Opd} {pos : Pos} (ho : IxR X r) (hp : PrimR X.K p (two r)) (ha : DOp X W a oa) (hb : DOp X W b ob) (hs : PlainIx b) : DEv X W (.Subscript a b pos) (dPrim p [oa, ob]) := by
  obtain ⟨ta, h1, s1⟩ := ha
  obtain ⟨tb, h2, s2⟩ := hb
  exact ⟨_, pe_ix ho h1 h2 hs, sem_prim (asem2 s1 s2) hp⟩
theorem e_callB {x : Str} {id : String} {r : Rl} {p : Pr} {e : Expr} {es : List Expr} {os : List Opd} {p1 pos : Pos} (hc : CallR X (.builtin id) r) (hp : PrimR X.K p r) (hg : Gl X x) (hm : X.mg x = none) (hv : bootBuiltins x = some (.builtin id)) (ha : DAs X W (e :: es) os)
    (hn : x ≠ "__name__" := by decide) (hdb : (x == ("__debug__" : Str)) = false := by decide)
    (he : starEach (e :: es) X.env = (false, eval e X.env) :: starEach es X.env := by rfl) (hpl : (backTo pos (starEach es X.env)).any (·.1) = false := by rfl) : DEv X W (.Call (.Name x p1) (e :: es) [] pos) (dPrim p os) := by
  obtain ⟨t, h, s⟩ := ha
  exact ⟨_, pe_callB hc hg hm hv h hn hdb he hpl, sem_prim s hp⟩
theorem e_callTy {x : Str} {T : String} {r : Rl} {p : Pr} {e : Expr} {es : List Expr} {os : List Opd} {p1 pos : Pos} (hc : CallR X (.type T) r) (hp : PrimR X.K p r) (hg : Gl X x) (hm : X.mg x = none) (hv : bootBuiltins x = some (.type T)) (ha : DAs X W (e :: es) os)
    (hn : x ≠ "__name__" := by decide) (hdb : (x == ("__debug__" : Str)) = false := by decide)
    (he : starEach (e :: es) X.env = (false, eval e X.env) :: starEach es X.env := by rfl) (hpl : (backTo pos (starEach es X.env)).any (·.1) = false := by rfl) : DEv X W (.Call (.Name x p1) (e :: es) [] pos) (dPrim p os) := by
  obtain ⟨t, h, s⟩ := ha
  exact ⟨_, pe_callTy hc hg hm hv h hn hdb he hpl, sem_prim s hp⟩
end

/-! ### displays -/
def pTup : Pr := fun ds => if ds.length ≤ sizeLine then some (.d (.tup ds)) else none
def pLst : Pr := fun ds => if ds.length ≤ sizeLine then some (.nl ds) else none
/-- operands that are all values (a name that owns its list is handed on still) -/
def allV : List Opd → Bool
  | [] => true
  | .v _ :: os => allV os
  | .s _ :: _ => false
theorem same_new {H : Hp} {p : Addr} {o : HO} (h : H p = none) : Same H (upd H p o) := fun b x e => by
  rw [upd_ne (ne_of_none e h)]
  exact e
theorem repL_same {K : PySem.W.Frag} {F : Fz} {H H' : Hp} (e : Same H H') {ds : List D} {vs : List V} (h : RepL K F H ds vs) : RepL K F H' ds vs := RepL.ext (Ext.same (O := fun _ => False) e fun _ z => z.elim) ds vs h
theorem rep_same {K : PySem.W.Frag} {F : Fz} {H H' : Hp} (e : Same H H') {d : D} {v : V} (h : Rep K F H d v) : Rep K F H' d v := Rep.ext (Ext.same (O := fun _ => False) e fun _ z => z.elim) d v h
section
variable {X : Cx} {W : WX}
theorem AVs.vals {K : PySem.W.Frag} {F : Fz} {H : Hp} {σ : L2.St} {env : DEnv} : ∀ {os : List Opd} {avs : List AV} {env0 : DEnv} {vs : List V} {ds : List D}, allV os = true → evOs os env0 = .ok avs env → AVs K F H σ avs vs → getAVs env avs = some ds → RepL K F H ds vs := by
  have key : ∀ {os : List Opd} {avs : List AV} {env0 env1 : DEnv}, allV os = true → evOs os env0 = .ok avs env1 → ∃ xs : List D, avs = xs.map AV.d := by
    intro os
    induction os with
    | nil => intro avs env0 env1 _ h; cases h; exact ⟨[], rfl⟩
    | cons o os ih =>
      intro avs env0 env1 ha h
      cases o with
      | s i => cases ha
      | v m =>
        unfold evOs at h
        cases q : m env0 with
        | bad => rw [q] at h; cases h
        | err x e => rw [q] at h; cases h
        | ok r e1 =>
          rw [q] at h
          simp only [R.bind] at h
          cases q2 : evOs os e1 with
          | bad => rw [q2] at h; cases h
          | err x e => rw [q2] at h; cases h
          | ok as e2 =>
            rw [q2] at h
            cases h
            obtain ⟨xs, rfl⟩ := ih ha q2
            exact ⟨r.d :: xs, rfl⟩
  intro os avs env0 vs ds ha h hv hg
  obtain ⟨xs, rfl⟩ := key ha h
  clear h ha
  induction xs generalizing vs ds with
  | nil => cases hg; exact hv
  | cons x xs ih =>
    obtain ⟨v, r, rfl, h1, h2⟩ := hv
    simp only [List.map_cons, getAVs, getAV] at hg
    cases q : getAVs env (xs.map AV.d) with
    | none => rw [q] at hg; cases hg
    | some es =>
      rw [q] at hg; cases hg
      exact RepL.cons h1 (ih h2 q)
theorem sem_disp {ta : TA} {os : List Opd} {p : Pr} {r : Rl} (ha : ASem X W ta os) (hv : allV os = true)
    (hp : ∀ (F : Fz) (H : Hp) (ds : List D) (vs : List V) (Q : VK) (pr : PR), RepL X.K F H ds vs → p ds = some pr → (∀ H' v, Same H H' → PRep X.K F H H' pr v → Q v H') → r vs H Q) :
    ESem X W (fun σ H Q => ta σ H fun vs H1 => r vs H1 Q) (dPrim p os) := fun O F σ H env Q s g => by
  refine ha O F σ H env _ s ?_
  unfold dPrim at g
  cases q : evOs os env with
  | bad => rw [q] at g; exact g.elim
  | err x e => rw [q] at g; exact g
  | ok avs env1 =>
    rw [q] at g
    simp only [R.bind] at g
    intro F1 H1 vs E1 s1 r1
    cases q2 : getAVs env1 avs with
    | none => rw [q2] at g; exact g.elim
    | some ds =>
      rw [q2] at g
      simp only [Option.bind] at g
      cases q3 : p ds with
      | none => rw [q3] at g; exact g.elim
      | some pr =>
        rw [q3] at g
        refine hp F1 H1 ds vs Q pr (AVs.vals hv q r1 q2) q3 fun H' v sm pv => ?_
        exact g F1 H' v (E1.trans (Ext.same sm s1.odom)) (s1.same sm) (prep_ent s1 pv)
theorem e_tup {es : List Expr} {os : List Opd} {x1} {pos : Pos} (ha : DAs X W es os) (hv : allV os = true := by rfl) : DEv X W (.Tuple es x1 pos) (dPrim pTup os) := by
  obtain ⟨t, h, s⟩ := ha
  refine ⟨_, pe_tupL h, sem_disp s hv fun F H ds vs Q pr r e q => ?_⟩
  unfold pTup at e
  split at e
  · rename_i hl
    cases e
    refine ⟨by rw [r.length]; exact hl, fun p o hd hp => q _ _ (same_new hp) ?_⟩
    exact ⟨p, vs, rfl, ⟨o, hd, upd_same⟩, repL_same (same_new hp) r⟩
  · cases e
theorem e_lst {es : List Expr} {os : List Opd} {pos : Pos} (ha : DAs X W es os) (hv : allV os = true := by rfl) : DEv X W (.List es pos) (dPrim pLst os) := by
  obtain ⟨t, h, s⟩ := ha
  refine ⟨_, pe_lst h, sem_disp s hv fun F H ds vs Q pr r e q => ?_⟩
  unfold pLst at e
  split at e
  · rename_i hl
    cases e
    refine ⟨by rw [r.length]; exact hl, fun p hp => q _ _ (same_new hp) ?_⟩
    exact ⟨p, vs, rfl, hp, upd_same, repL_same (same_new hp) r⟩
  · cases e
end

/-! ### tests -/
section
variable {X : Cx} {W : WX}
/-- a value that is True or False, as a test -/
def dTst (m : DE) : DT := fun env => (m env).bind fun r env1 => match r with
  | ⟨.shr, .bl b⟩ => .ok b env1
  | _ => .bad
theorem sem_tst {t : TE} {m : DE} (h : ESem X W t m) {tt : TT} (ht : ∀ σ H Q, (t σ H fun x H1 => ∃ c, x = .bl c ∧ Q c H1) → tt σ H Q) : TSem X W tt (dTst m) := fun O F σ H env Q s g => by
  refine ht σ H Q (h O F σ H env _ s ?_)
  unfold dTst at g
  cases q : m env with
  | bad => rw [q] at g; exact g.elim
  | err x e => rw [q] at g; exact g
  | ok r env1 =>
    rw [q] at g
    simp only [R.bind] at g
    intro F1 H1 v E1 s1 r1
    obtain ⟨md, d⟩ := r
    cases md with
    | shr =>
      cases d with
      | bl b => exact ⟨b, r1, g F1 H1 E1 s1⟩
      | _ => exact g.elim
    | _ => exact g.elim
theorem t_val {e : Expr} {m : DE} (h : DEv X W e m) (he : ∀ whole, isTrue e X.env whole = (do let v ← whole; standAt e.pos; holding [v] (truthy v)) := by intro _; rfl) : DTst X W e (dTst m) := by
  obtain ⟨t, h1, s⟩ := h
  exact ⟨_, pt_val h1 he, sem_tst s fun σ H Q q => q⟩
theorem t_cmp {op : CmpOp} {r : R2} {p : Pr} {a b : Expr} {oa ob : Opd} {pos : Pos} (ho : OpR X (compareOp op) r) (hp : PrimR X.K p (two r)) (ha : DOp X W a oa) (hb : DOp X W b ob) (hm : behindInMarks op b = false) : DTst X W (.Compare a [op] [b] pos) (dTst (dPrim p [oa, ob])) := by
  obtain ⟨ta, h1, s1⟩ := ha
  obtain ⟨tb, h2, s2⟩ := hb
  exact ⟨_, pt_cmpR ho h1 h2 hm, sem_tst (sem_prim (asem2 s1 s2) hp) fun σ H Q q => q⟩
def dAnd (a b : DT) : DT := fun env => (a env).bind fun c env1 => if c = true then b env1 else .ok false env1
def dOr (a b : DT) : DT := fun env => (a env).bind fun c env1 => if c = true then .ok true env1 else b env1
def dNot (a : DT) : DT := fun env => (a env).bind fun c env1 => .ok (!c) env1
theorem sem_and {t u : TT} {a b : DT} (ha : TSem X W t a) (hb : TSem X W u b) : TSem X W (tAnd t u) (dAnd a b) := fun O F σ H env Q s g => by
  refine ha O F σ H env _ s ?_
  unfold dAnd at g
  cases q : a env with
  | bad => rw [q] at g; exact g.elim
  | err x e => rw [q] at g; exact g
  | ok c env1 =>
    rw [q] at g
    simp only [R.bind] at g
    intro F1 H1 E1 s1
    cases c with
    | true => exact hb O F1 σ H1 env1 Q s1 (TGoal.step E1 g)
    | false => exact g F1 H1 E1 s1
theorem sem_or {t u : TT} {a b : DT} (ha : TSem X W t a) (hb : TSem X W u b) : TSem X W (tOr t u) (dOr a b) := fun O F σ H env Q s g => by
  refine ha O F σ H env _ s ?_
  unfold dOr at g
  cases q : a env with
  | bad => rw [q] at g; exact g.elim
  | err x e => rw [q] at g; exact g
  | ok c env1 =>
    rw [q] at g
    simp only [R.bind] at g
    intro F1 H1 E1 s1
    cases c with
    | true => exact g F1 H1 E1 s1
    | false => exact hb O F1 σ H1 env1 Q s1 (TGoal.step E1 g)
theorem sem_not {t : TT} {a : DT} (ha : TSem X W t a) : TSem X W (tNot t) (dNot a) := fun O F σ H env Q s g => by
  refine ha O F σ H env _ s ?_
  unfold dNot at g
  cases q : a env with
  | bad => rw [q] at g; exact g.elim
  | err x e => rw [q] at g; exact g
  | ok c env1 =>
    rw [q] at g
    exact fun F1 H1 E1 s1 => g F1 H1 E1 s1
theorem w_and1 {a : Expr} {m : DT} {pos : Pos} (h : DTst X W a m) : DTw X W (.BoolOp .And [a] pos) m := let ⟨t, h1, s⟩ := h; ⟨t, pw_and1 h1, s⟩
theorem w_or1 {a : Expr} {m : DT} {pos : Pos} (h : DTst X W a m) : DTw X W (.BoolOp .Or [a] pos) m := let ⟨t, h1, s⟩ := h; ⟨t, pw_or1 h1, s⟩
theorem w_and {a b : Expr} {rest : List Expr} {m n : DT} {pos : Pos} (h : DTst X W a m) (k : DTw X W (.BoolOp .And (b :: rest) pos) n) : DTw X W (.BoolOp .And (a :: b :: rest) pos) (dAnd m n) := let ⟨_, h1, s⟩ := h; let ⟨_, h2, s2⟩ := k; ⟨_, pw_and h1 h2, sem_and s s2⟩
theorem w_or {a b : Expr} {rest : List Expr} {m n : DT} {pos : Pos} (h : DTst X W a m) (k : DTw X W (.BoolOp .Or (b :: rest) pos) n) : DTw X W (.BoolOp .Or (a :: b :: rest) pos) (dOr m n) := let ⟨_, h1, s⟩ := h; let ⟨_, h2, s2⟩ := k; ⟨_, pw_or h1 h2, sem_or s s2⟩
theorem t_w {e : Expr} {m : DT} (h : DTw X W e m) : DTst X W e m := let ⟨t, h1, s⟩ := h; ⟨t, h1.pt, s⟩
theorem t_not {a : Expr} {m : DT} {pos : Pos} (h : DTst X W a m) : DTst X W (.UnaryOp .Not a pos) (dNot m) := let ⟨_, h1, s⟩ := h; ⟨_, pt_not h1, sem_not s⟩
/-! values: and, or, not, if else -/
/-- a test's answer as a value -/
def dB (m : DT) : DE := fun env => (m env).bind fun b env1 => .ok ⟨.shr, .bl b⟩ env1
def dAndV (a : DT) (b : DE) : DE := fun env => (a env).bind fun c env1 => if c = true then b env1 else .ok ⟨.shr, .bl false⟩ env1
def dOrV (a : DT) (b : DE) : DE := fun env => (a env).bind fun c env1 => if c = true then .ok ⟨.shr, .bl true⟩ env1 else b env1
def dIf (c : DT) (a b : DE) : DE := fun env => (c env).bind fun k env1 => if k = true then a env1 else b env1
theorem sem_andV {t u : TE} {a b : DE} (ha : ESem X W t a) (hb : ESem X W u b) : ESem X W (tAndV t u) (dAndV (dTst a) b) := fun O F σ H env Q s g => by
  refine sem_tst (tt := fun σ H Q' => t σ H fun x H1 => ∃ c, x = .bl c ∧ Q' c H1) ha (fun σ H Q q => q) O F σ H env (fun c H1 => if c = true then u σ H1 Q else Q (.bl false) H1) s ?_
  unfold dAndV at g
  cases q : dTst a env with
  | bad => rw [q] at g; exact g.elim
  | err x e => rw [q] at g; exact g
  | ok c env1 =>
    rw [q] at g
    simp only [R.bind] at g
    intro F1 H1 E1 s1
    cases c with
    | true => exact hb O F1 σ H1 env1 Q s1 (EGoal.step E1 g)
    | false => exact g F1 H1 _ E1 s1 rfl
theorem sem_orV {t u : TE} {a b : DE} (ha : ESem X W t a) (hb : ESem X W u b) : ESem X W (tOrV t u) (dOrV (dTst a) b) := fun O F σ H env Q s g => by
  refine sem_tst (tt := fun σ H Q' => t σ H fun x H1 => ∃ c, x = .bl c ∧ Q' c H1) ha (fun σ H Q q => q) O F σ H env (fun c H1 => if c = true then Q (.bl true) H1 else u σ H1 Q) s ?_
  unfold dOrV at g
  cases q : dTst a env with
  | bad => rw [q] at g; exact g.elim
  | err x e => rw [q] at g; exact g
  | ok c env1 =>
    rw [q] at g
    simp only [R.bind] at g
    intro F1 H1 E1 s1
    cases c with
    | true => exact g F1 H1 _ E1 s1 rfl
    | false => exact hb O F1 σ H1 env1 Q s1 (EGoal.step E1 g)
theorem sem_notV {t : TE} {a : DE} (ha : ESem X W t a) : ESem X W (tNotV t) (dB (dNot (dTst a))) := fun O F σ H env Q s g => by
  refine sem_tst (tt := fun σ H Q' => t σ H fun x H1 => ∃ c, x = .bl c ∧ Q' c H1) ha (fun σ H Q q => q) O F σ H env (fun c H1 => Q (.bl (!c)) H1) s ?_
  unfold dB dNot at g
  cases q : dTst a env with
  | bad => rw [q] at g; exact g.elim
  | err x e => rw [q] at g; exact g
  | ok c env1 =>
    rw [q] at g
    exact fun F1 H1 E1 s1 => g F1 H1 _ E1 s1 rfl
theorem e_one {op} {a : Expr} {m : DE} {pos : Pos} (h : DEv X W a m) : DEv X W (.BoolOp op [a] pos) m := let ⟨_, h1, s⟩ := h; ⟨_, pe_one h1, s⟩
theorem e_and {a b : Expr} {rest : List Expr} {m n : DE} {pos : Pos} (h : DEv X W a m) (k : DEv X W (.BoolOp .And (b :: rest) pos) n) : DEv X W (.BoolOp .And (a :: b :: rest) pos) (dAndV (dTst m) n) := let ⟨_, h1, s⟩ := h; let ⟨_, h2, s2⟩ := k; ⟨_, pe_and h1 h2, sem_andV s s2⟩
theorem e_or {a b : Expr} {rest : List Expr} {m n : DE} {pos : Pos} (h : DEv X W a m) (k : DEv X W (.BoolOp .Or (b :: rest) pos) n) : DEv X W (.BoolOp .Or (a :: b :: rest) pos) (dOrV (dTst m) n) := let ⟨_, h1, s⟩ := h; let ⟨_, h2, s2⟩ := k; ⟨_, pe_or h1 h2, sem_orV s s2⟩
theorem e_not {a : Expr} {m : DE} {pos : Pos} (h : DEv X W a m) : DEv X W (.UnaryOp .Not a pos) (dB (dNot (dTst m))) := let ⟨_, h1, s⟩ := h; ⟨_, pe_not h1, sem_notV s⟩
theorem e_if {c a b : Expr} {mc : DT} {ma mb : DE} {pos : Pos} (hc : DTst X W c mc) (ha : DEv X W a ma) (hb : DEv X W b mb) : DEv X W (.IfExp c a b pos) (dIf mc ma mb) := by
  obtain ⟨tc, h1, s1⟩ := hc
  obtain ⟨ta, h2, s2⟩ := ha
  obtain ⟨tb, h3, s3⟩ := hb
  refine ⟨_, pe_ifExp h1 h2 h3, fun O F σ H env Q s g => ?_⟩
  refine s1 O F σ H env _ s ?_
  unfold dIf at g
  cases q : mc env with
  | bad => rw [q] at g; exact g.elim
  | err x e => rw [q] at g; exact g
  | ok c env1 =>
    rw [q] at g
    simp only [R.bind] at g
    intro F1 H1 E1 s1'
    cases c with
    | true => exact s2 O F1 σ H1 env1 Q s1' (EGoal.step E1 g)
    | false => exact s3 O F1 σ H1 env1 Q s1' (EGoal.step E1 g)
/-- a op1 b op2 c -/
def dChain (p p' : Pr) (oa ob oc : Opd) : DE := fun env => (evOs [oa, ob] env).bind fun avs env1 => match avs, (getAVs env1 avs).bind p with
  | [_, .d y], some (.d (.bl k)) => if k = true then dPrim p' [.v (dC y), oc] env1 else .ok ⟨.shr, .bl false⟩ env1
  | _, _ => .bad
theorem sem_chain {r r' : R2} {p p' : Pr} {ta tb tc : TE} {oa ob oc : Opd} (h1 : PrimR X.K p (two r)) (h2 : PrimR X.K p' (two r')) (ha : OSem X W ta oa) (hb : OSem X W tb ob) (hc : OSem X W tc oc) : ESem X W (tChain r r' ta tb tc) (dChain p p' oa ob oc) := fun O F σ H env Q s g => by
  have main := asem2 ha hb O F σ H env (fun vs H2 => match vs with
    | [x, y] => r x y H2 fun z H3 => ∃ k, z = .bl k ∧ (if k = true then tc σ H3 fun w' H4 => r' y w' H4 Q else Q (.bl false) H3)
    | _ => False) s
  refine main ?_
  clear main
  unfold dChain at g
  cases q : evOs [oa, ob] env with
  | bad => rw [q] at g; exact g.elim
  | err x e => rw [q] at g; exact g
  | ok avs env1 =>
    rw [q] at g
    simp only [R.bind] at g
    intro F1 H1 vs E1 s1 r1
    split at g
    · rename_i _ _ a1 y k heq2
      obtain ⟨v1, rest, rfl, r1'⟩ : ∃ v1 rest, vs = v1 :: rest ∧ ∃ v2, rest = [v2] ∧ Rep X.K F1 H1 y v2 := by
        cases a1 with
        | d x => obtain ⟨v, r, e1, _, v2, r2, e2, h3, h4⟩ := r1; exact ⟨v, r, e1, v2, by rw [e2, show r2 = [] from h4], h3⟩
        | s i => obtain ⟨v, r, e1, _, v2, r2, e2, h3, h4⟩ := r1; exact ⟨v, r, e1, v2, by rw [e2, show r2 = [] from h4], h3⟩
      obtain ⟨v2, rfl, ry⟩ := r1'
      cases q2 : getAVs env1 [a1, .d y] with
      | none => rw [q2] at heq2; cases heq2
      | some ds =>
        rw [q2] at heq2
        refine h1 F1 H1 ds [v1, v2] _ _ s1.fdom (AVs.tops s1 r1 q2) heq2 fun H' v sm pv => ?_
        refine ⟨k, pv, ?_⟩
        have s2 : StOk X.K O F1 H' σ env1 := s1.same sm
        have E2 : Ext O F H F1 H' := E1.trans (Ext.same sm s1.odom)
        have ry' : Rep X.K F1 H' y v2 := rep_same sm ry
        cases k with
        | false => exact iteF (g F1 H' _ E2 s2 rfl)
        | true =>
          refine iteT ?_
          have m2 := asem1 hc O F1 σ H' env1 (fun vs H4 => match vs with
            | [w'] => r' v2 w' H4 Q
            | _ => False) s2
          refine m2 ?_
          clear m2
          simp only [if_true] at g
          unfold dPrim at g
          simp only [evOs, dC, R.bind] at g
          cases q4 : evOs [oc] env1 with
          | bad => rw [q4] at g; exact g.elim
          | err x e => rw [q4] at g; exact fun F' H'' c d e' s' r => g F' H'' c d (E2.trans e') s' r
          | ok avs4 env4 =>
            skip
            rw [q4] at g
            simp only [] at g
            intro F5 H5 vs5 E5 s5 r5
            cases q5 : getAVs env4 avs4 with
            | none => simp only [getAVs, getAV, q5] at g; exact g.elim
            | some ds5 =>
              simp only [getAVs, getAV, q5, Option.bind] at g
              cases q6 : p' (y :: ds5) with
              | none => rw [q6] at g; exact g.elim
              | some pr =>
                rw [q6] at g
                have tops5 := AVs.tops s5 r5 q5
                have full : RepTs X.K F5 H5 (y :: ds5) (v2 :: vs5) := ⟨v2, vs5, rfl, (Rep.ext E5 y v2 ry').top, tops5⟩
                have fin := h2 F5 H5 (y :: ds5) (v2 :: vs5) Q pr s5.fdom full q6 fun H6 v6 sm6 pv6 => g F5 H6 v6 ((E2.trans E5).trans (Ext.same sm6 s5.odom)) (s5.same sm6) (prep_ent s5 pv6)
                match vs5, fin with
                | [w'], fin => exact fin
                | [], fin => exact fin
                | _ :: _ :: _, fin => exact fin
    · exact g.elim
theorem e_chain {op op' : CmpOp} {r r' : R2} {p p' : Pr} {a b c : Expr} {oa ob oc : Opd} {pos : Pos} (ho : OpR X (compareOp op) r) (ho' : OpR X (compareOp op') r') (h1 : PrimR X.K p (two r)) (h2 : PrimR X.K p' (two r')) (ha : DOp X W a oa) (hb : DOp X W b ob) (hc : DOp X W c oc)
    (hm : lastMarks [op, op'] [b, c] = false := by with_unfolding_all rfl) : DEv X W (.Compare a [op, op'] [b, c] pos) (dChain p p' oa ob oc) := by
  obtain ⟨ta, k1, s1⟩ := ha
  obtain ⟨tb, k2, s2⟩ := hb
  obtain ⟨tc, k3, s3⟩ := hc
  exact ⟨_, pe_chain ho ho' k1 k2 k3 hm, sem_chain h1 h2 s1 s2 s3⟩
theorem t_chain {op op' : CmpOp} {r r' : R2} {p p' : Pr} {a b c : Expr} {oa ob oc : Opd} {pos : Pos} (ho : OpR X (compareOp op) r) (ho' : OpR X (compareOp op') r') (h1 : PrimR X.K p (two r)) (h2 : PrimR X.K p' (two r')) (ha : DOp X W a oa) (hb : DOp X W b ob) (hc : DOp X W c oc)
    (hm : lastMarks [op, op'] [b, c] = false := by with_unfolding_all rfl) : DTst X W (.Compare a [op, op'] [b, c] pos) (dTst (dChain p p' oa ob oc)) := by
  obtain ⟨ta, k1, s1⟩ := ha
  obtain ⟨tb, k2, s2⟩ := hb
  obtain ⟨tc, k3, s3⟩ := hc
  exact ⟨_, pt_chain ho ho' k1 k2 k3 hm, sem_tst (sem_chain h1 h2 s1 s2 s3) fun σ H Q q => q⟩
end
end DL
/-! DL3: statements, loops. -/
namespace DL
open PySem PySem.Spec PyProof.Rows L2

def dNext : DS := fun env => .ok .nx env
def dSeq (a b : DS) : DS := fun env => match a env with
  | .ok .nx env1 => b env1
  | r => r
def dDrop (m : DE) : DS := fun env => (m env).bind fun _ env1 => .ok .nx env1
def dRet (m : DE) : DS := fun env => (m env).bind fun r env1 => .ok (.ret r) env1
/-- return x, x a name: what it owns goes along -/
def dRetV (i : Nat) : DS := fun env => match env[i]? with
  | some (some e) => .ok (.ret e) (env.set i none)
  | _ => .bad
def dIfS (c : DT) (a b : DS) : DS := fun env => (c env).bind fun k env1 => if k = true then a env1 else b env1
def dSet (i : Nat) (m : DE) : DS := fun env => (m env).bind fun r env1 => .ok .nx (env1.set i (some r))
def dNever : DS := fun _ => .bad
def dBrk : DS := fun env => .ok .brk env
def dCnt : DS := fun env => .ok .cnt env

section
variable {X : Cx} {W : WX} {B : Bs}
theorem keeps_set {σ : L2.St} {i : Nat} {o : Option V} (h : B i = false) : Keeps B σ (σ.set i o) := ⟨List.length_set, fun j hj => by
  exact List.getElem?_set_ne (fun (e : i = j) => by rw [← e, h] at hj; cases hj)⟩
theorem ss_nil : DSs X W B [] dNext := ⟨_, pss_nil, fun O F σ H env Dn s g => g F H σ Ext.refl s Keeps.refl⟩
theorem sem_seq {t u : TS} {a b : DS} (h1 : SSem X W B t a) (h2 : SSem X W B u b) : SSem X W B (tSeq t u) (dSeq a b) := fun O F σ H env Dn s g => by
  refine h1 O F σ H env { Dn with nx := u Dn } s ?_
  unfold dSeq at g
  cases q : a env with
  | bad => rw [q] at g; exact g.elim
  | err x e => rw [q] at g; exact g
  | ok fl env1 =>
    rw [q] at g
    cases fl with
    | nx => exact fun F1 H1 σ1 E1 s1 k1 => h2 O F1 σ1 H1 env1 Dn s1 (SGoal.step E1 k1 g)
    | brk => exact g
    | cnt => exact g
    | ret e => exact g
theorem ss_cons {st : Stmt} {rest : List Stmt} {a b : DS} (h1 : DSt X W B st a) (h2 : DSs X W B rest b) : DSs X W B (st :: rest) (dSeq a b) := let ⟨_, p, s⟩ := h1; let ⟨_, p2, s2⟩ := h2; ⟨_, pss_cons p p2, sem_seq s s2⟩
theorem ss_one {st : Stmt} {a : DS} (h1 : DSt X W B st a) : DSs X W B [st] a := let ⟨_, p, s⟩ := h1; ⟨_, pss_one p, s⟩
theorem s_pass {pos : Pos} : DSt X W B (.Pass pos) dNext := ⟨_, ps_pass, fun O F σ H env Dn s g => g F H σ Ext.refl s Keeps.refl⟩
theorem s_brk {pos : Pos} : DSt X W B (.Break pos) dBrk := ⟨_, ps_break, fun O F σ H env Dn s g => g F H σ Ext.refl s Keeps.refl⟩
theorem s_cnt {pos : Pos} : DSt X W B (.Continue pos) dCnt := ⟨_, ps_continue, fun O F σ H env Dn s g => g F H σ Ext.refl s Keeps.refl⟩
theorem s_never {st : Stmt} : DSt X W B st dNever := ⟨_, ps_never, fun O F σ H env Dn s g => g.elim⟩
theorem s_doc {x j pos pos'} : DSt X W B (.Expr (.Constant (.str x) j pos) pos') dNext := ⟨_, ps_doc, fun O F σ H env Dn s g => g F H σ Ext.refl s Keeps.refl⟩
theorem s_expr {e : Expr} {m : DE} {pos : Pos} (h : DEv X W e m) (hs : swapsWith e none pos.line X.env = pure false := by rfl) : DSt X W B (.Expr e pos) (dDrop m) := by
  obtain ⟨t, h1, s1⟩ := h
  refine ⟨_, ps_expr h1 hs, fun O F σ H env Dn s g => s1 O F σ H env _ s ?_⟩
  unfold dDrop at g
  cases q : m env with
  | bad => rw [q] at g; exact g.elim
  | err x e => rw [q] at g; exact fun F' H' c d e' s' r => g F' H' σ c d e' s' Keeps.refl r
  | ok r env1 => rw [q] at g; exact fun F1 H1 v E1 s1 r1 => g F1 H1 σ E1 s1 Keeps.refl
theorem s_ret {e : Expr} {m : DE} {pos : Pos} (h : DEv X W e m) : DSt X W B (.Return (some e) pos) (dRet m) := by
  obtain ⟨t, h1, s1⟩ := h
  refine ⟨_, ps_ret h1, fun O F σ H env Dn s g => s1 O F σ H env _ s ?_⟩
  unfold dRet at g
  cases q : m env with
  | bad => rw [q] at g; exact g.elim
  | err x e => rw [q] at g; exact fun F' H' c d e' s' r => g F' H' σ c d e' s' Keeps.refl r
  | ok r env1 => rw [q] at g; exact fun F1 H1 v E1 s1 r1 => g F1 H1 σ v E1 s1 Keeps.refl r1
theorem s_retN {pos : Pos} : DSt X W B (.Return none pos) (dRet (dC .non)) := ⟨_, ps_retN, fun O F σ H env Dn s g => g F H σ .non Ext.refl s Keeps.refl rfl⟩
theorem s_retV (i : Nat) {x : Str} {p pos : Pos} (hN : X.N[i]? = some x := by rfl) (hv : Vis X.env.scope x := by first | exact Or.inl rfl | exact Or.inr (Or.inl rfl) | exact Or.inr (Or.inr rfl)) (hd : (x == ("__debug__" : Str)) = false := by decide)
    (hcd : (x == ("__classdict__" : Str)) = false := by decide) : DSt X W B (.Return (some (.Name x p)) pos) (dRetV i) := by
  refine ⟨_, ps_ret (pe_var hN hv hd hcd), fun O F σ H env Dn s g => ?_⟩
  unfold dRetV at g
  cases q : env[i]? with
  | none => rw [q] at g; exact g.elim
  | some o =>
    cases o with
    | none => rw [q] at g; exact g.elim
    | some e =>
      rw [q] at g
      obtain ⟨m, d⟩ := e
      have hie : i < env.length := (List.getElem?_eq_some_iff.mp q).1
      by_cases hm : m = Md.shr
      · subst hm
        obtain ⟨v, h1, h2⟩ := s.shr i d q
        exact ⟨v, h1, g F H σ v Ext.refl s.drop Keeps.refl h2⟩
      · obtain ⟨a, vs, ds, rfl, e2, h, rl, nF, nO⟩ := s.own i m d q hm
        refine ⟨.ref a, e2, g F H σ (.ref a) Ext.refl s.drop Keeps.refl ?_⟩
        have nw : ∀ j, ¬ OwnAt (env.set i none) σ j a := fun j ⟨m', d', h1, h2, h3⟩ => by
          by_cases hj : j = i
          · subst hj
            rw [List.getElem?_set_self hie] at h1; cases h1
          · rw [List.getElem?_set_ne (Ne.symm hj)] at h1
            exact hj (s.inj j i a ⟨m', d', h1, h2, h3⟩ ⟨m, _, q, hm, e2⟩)
        cases m with
        | shr => exact absurd rfl hm
        | own => exact ⟨a, vs, ds, rfl, rfl, h, rl, nF, nO, nw⟩
        | bor => exact ⟨a, vs, ds, rfl, rfl, h, rl, nF, nO, nw⟩
theorem s_if {c : Expr} {a b : List Stmt} {mc : DT} {ma mb : DS} {pos : Pos} (hc : DTst X W c mc) (ha : DSs X W B a ma) (hb : DSs X W B b mb) : DSt X W B (.If c a b pos) (dIfS mc ma mb) := by
  obtain ⟨tc, h1, s1⟩ := hc
  obtain ⟨ta, h2, s2⟩ := ha
  obtain ⟨tb, h3, s3⟩ := hb
  refine ⟨_, ps_if h1 h2 h3, fun O F σ H env Dn s g => s1 O F σ H env _ s ?_⟩
  unfold dIfS at g
  cases q : mc env with
  | bad => rw [q] at g; exact g.elim
  | err x e => rw [q] at g; exact fun F' H' c d e' s' r => g F' H' σ c d e' s' Keeps.refl r
  | ok c env1 =>
    rw [q] at g
    simp only [R.bind] at g
    intro F1 H1 E1 s1'
    cases c with
    | true => exact s2 O F1 σ H1 env1 Dn s1' (SGoal.step E1 Keeps.refl g)
    | false => exact s3 O F1 σ H1 env1 Dn s1' (SGoal.step E1 Keeps.refl g)
theorem st_len {K : PySem.W.Frag} {O F : Fz} {H : Hp} {σ : L2.St} {env : DEnv} {i : Nat} (s : StOk K O F H σ env) (h : i < env.length) : i < σ.length := by rw [s.len]; exact h
/-- a store beyond the names is nothing -/
theorem set_far {α : Type} {l : List α} {i : Nat} {x : α} (h : ¬ i < l.length) : l.set i x = l := List.set_eq_of_length_le (by omega)
theorem StOk.store {K : PySem.W.Frag} {O F : Fz} {H : Hp} {σ : L2.St} {env : DEnv} {e : Ent} {v : V} {i : Nat} (s : StOk K O F H σ env) (r : REnt K O F H σ env e v) : StOk K O F H (σ.set i (some v)) (env.set i (some e)) := by
  by_cases h : i < σ.length
  · exact s.set r h
  · rw [set_far h, set_far (by rw [← s.len]; exact h)]
    exact s
theorem sem_set {t : TE} {m : DE} {i : Nat} (h : ESem X W t m) (hB : B i = false) : SSem X W B (tAsg t (gName i)) (dSet i m) := fun O F σ H env Dn s g => by
  refine h O F σ H env _ s ?_
  unfold dSet at g
  cases q : m env with
  | bad => rw [q] at g; exact g.elim
  | err x e => rw [q] at g; exact fun F' H' c d e' s' r => g F' H' σ c d e' s' Keeps.refl r
  | ok r env1 =>
    rw [q] at g
    exact fun F1 H1 v E1 s1 r1 => g F1 H1 (σ.set i (some v)) E1 (s1.store r1) (keeps_set hB)
theorem s_set (i : Nat) {x : Str} {e : Expr} {m : DE} {pos' pos : Pos} (hN : X.N.Nodup) (h : DEv X W e m) (hi : X.N[i]? = some x := by rfl) (hx : Loc X.env.scope x := by first | exact Or.inl rfl | exact Or.inr rfl) (hB : B i = false := by rfl)
    (hs : swapsWith e (some (.Name x pos')) pos.line X.env = pure false := by rfl) (hf : X.fn x = true ∨ X.env.scope.names.lookup x = some .local := by first | exact .inl rfl | exact .inr rfl | assumption) : DSt X W B (.Assign [.Name x pos'] e pos) (dSet i m) := by
  obtain ⟨t, h1, s1⟩ := h
  exact ⟨_, ps_set hN hi hx h1 hs hf, sem_set s1 hB⟩

/-! ### while -/
def dWhile (c : DT) (body : DS) : Nat → DS
  | 0, _ => .bad
  | n + 1, env => (c env).bind fun k env1 => if k = true then (match body env1 with
      | .ok .nx env2 => dWhile c body n env2
      | .ok .cnt env2 => dWhile c body n env2
      | .ok .brk env2 => .ok .nx env2
      | r => r) else .ok .nx env1
theorem s_while (n : Nat) {c : Expr} {body : List Stmt} {mc : DT} {mb : DS} {pos : Pos} (hp : PassesOwn (model X.prog X.w) X.A X.env X.xe) (hc : DTst X W c mc) (hb : DSs X W B body mb) : DSt X W B (.While c body [] pos) (dWhile mc mb n) := by
  obtain ⟨tc, h1, s1⟩ := hc
  obtain ⟨tb, h2, s2⟩ := hb
  refine ⟨_, ps_while hp h1 h2, fun O F σ H env Dn s g => ?_⟩
  refine ⟨fun m σ1 H1 => ∃ F1 env1, Ext O F H F1 H1 ∧ StOk X.K O F1 H1 σ1 env1 ∧ Keeps B σ σ1 ∧ SGoal X W B O F1 σ1 H1 Dn (dWhile mc mb m env1), ⟨n, F, env, Ext.refl, s, Keeps.refl, g⟩, ?_⟩
  rintro m σ1 H1 ⟨F1, env1, E1, s1', k1, g1⟩
  cases m with
  | zero => exact g1.elim
  | succ m =>
    refine s1 O F1 σ1 H1 env1 _ s1' ?_
    unfold dWhile at g1
    cases q : mc env1 with
    | bad => rw [q] at g1; exact g1.elim
    | err x e => rw [q] at g1; exact fun F' H' c d e' s' r => g1 F' H' σ1 c d e' s' Keeps.refl r
    | ok k env2 =>
      rw [q] at g1
      simp only [R.bind] at g1
      intro F2 H2 E2 s2'
      cases k with
      | false => exact g1 F2 H2 σ1 E2 s2' Keeps.refl
      | true =>
        refine iteT ⟨fun σ' H' => ∃ F3 env3, Ext O F H F3 H' ∧ StOk X.K O F3 H' σ' env3 ∧ Keeps B σ σ' ∧ SGoal X W B O F3 σ' H' Dn (dWhile mc mb m env3), fun σ' H' z => ⟨m, Nat.lt_succ_self m, z⟩, ?_⟩
        refine s2 O F2 σ1 H2 env2 _ s2' ?_
        simp only [if_true] at g1
        cases q3 : mb env2 with
        | bad => rw [q3] at g1; exact g1.elim
        | err x e => rw [q3] at g1; exact fun F' H' σ' c d e' s' k' r => g1 F' H' σ' c d (E2.trans e') s' k' r
        | ok fl env3 =>
          rw [q3] at g1
          cases fl with
          | nx => exact fun F3 H3 σ3 E3 s3 k3 => ⟨F3, env3, (E1.trans E2).trans E3, s3, k1.trans k3, SGoal.step (E2.trans E3) k3 g1⟩
          | cnt => exact fun F3 H3 σ3 E3 s3 k3 => ⟨F3, env3, (E1.trans E2).trans E3, s3, k1.trans k3, SGoal.step (E2.trans E3) k3 g1⟩
          | brk => exact fun F3 H3 σ3 E3 s3 k3 => g1 F3 H3 σ3 (E2.trans E3) s3 k3
          | ret e => exact fun F3 H3 σ3 v E3 s3 k3 r => g1 F3 H3 σ3 v (E2.trans E3) s3 k3 r

/-! ### targets -/
/-- a target's store of an item -/
abbrev DG := D → DEnv → Option DEnv
def GSem (X : Cx) (B : Bs) (g : TG) (m : DG) : Prop := ∀ O F σ H env (d : D) (v : V) env' Q, StOk X.K O F H σ env → Rep X.K F H d v → m d env = some env' →
  (∀ σ', StOk X.K O F H σ' env' → Keeps B σ σ' → Q σ' H) → g v σ H Q
def GsSem (X : Cx) (B : Bs) (g : TGs) (m : List D → DEnv → Option DEnv) : Prop := ∀ O F σ H env (ds : List D) (vs : List V) env' Q, StOk X.K O F H σ env → RepL X.K F H ds vs → m ds env = some env' →
  (∀ σ', StOk X.K O F H σ' env' → Keeps B σ σ' → Q σ' H) → g vs σ H Q
def DTg (X : Cx) (B : Bs) (tg : Expr) (m : DG) : Prop := ∃ g, PG X tg g ∧ GSem X B g m
def DTgs (X : Cx) (B : Bs) (tgs : List Expr) (m : List D → DEnv → Option DEnv) : Prop := ∃ g, PGs X tgs g ∧ GsSem X B g m
def gSet (i : Nat) : DG := fun d env => some (env.set i (some ⟨.shr, d⟩))
theorem gsem_name {i : Nat} (hB : B i = false) : GSem X B (gName i) (gSet i) := fun O F σ H env d v env' Q s r e k => by
  cases e
  exact k _ (s.store (e := ⟨.shr, d⟩) r) (keeps_set hB)
theorem g_name (i : Nat) {x : Str} {pos : Pos} (hN : X.N.Nodup) (hi : X.N[i]? = some x := by rfl) (hx : Loc X.env.scope x := by first | exact Or.inl rfl | exact Or.inr rfl) (hB : B i = false := by rfl)
    (hf : X.fn x = true ∨ X.env.scope.names.lookup x = some .local := by first | exact .inl rfl | exact .inr rfl | assumption) : DTg X B (.Name x pos) (gSet i) := ⟨_, pg_name hN hi hx hf, gsem_name hB⟩
def gsNil : List D → DEnv → Option DEnv := fun ds env => match ds with
  | [] => some env
  | _ => none
def gsCons (a : DG) (b : List D → DEnv → Option DEnv) : List D → DEnv → Option DEnv := fun ds env => match ds with
  | d :: ds => (a d env).bind (b ds)
  | [] => none
def gTupD (n : Nat) (m : List D → DEnv → Option DEnv) : DG := fun d env => match d with
  | .tup ds => if ds.length = n then m ds env else none
  | .pr x y => if n = 2 then m [x, y] env else none
  | _ => none
theorem gs_nil : DTgs X B [] gsNil := ⟨_, pgs_nil, fun O F σ H env ds vs env' Q s r e k => by
  cases ds with
  | nil => cases e; exact ⟨r, k σ s Keeps.refl⟩
  | cons _ _ => cases e⟩
theorem gs_cons {e : Expr} {es : List Expr} {a : DG} {b : List D → DEnv → Option DEnv} (h1 : DTg X B e a) (h2 : DTgs X B es b)
    (hs : (assignEach (e :: es) X.env).map (·.2) = assign e X.env :: (assignEach es X.env).map (·.2) := by rfl) : DTgs X B (e :: es) (gsCons a b) := by
  obtain ⟨g1, p1, s1⟩ := h1
  obtain ⟨g2, p2, s2⟩ := h2
  refine ⟨_, pgs_cons p1 p2 hs, fun O F σ H env ds vs env' Q s r e k => ?_⟩
  cases ds with
  | nil => cases e
  | cons d ds =>
    obtain ⟨v, r', rfl, h1, h2⟩ := r
    simp only [gsCons] at e
    cases q : a d env with
    | none => rw [q] at e; cases e
    | some env1 =>
      rw [q] at e
      refine ⟨v, r', rfl, s1 O F σ H env d v env1 _ s h1 q fun σ1 st1 k1 => ?_⟩
      exact s2 O F σ1 H env1 ds r' env' Q st1 h2 e fun σ2 st2 k2 => k σ2 st2 (k1.trans k2)
theorem g_tup {es : List Expr} {k : Nat} {pos : Pos} {n : Nat} {m : List D → DEnv → Option DEnv} (hc : X.calm = true) (h : DTgs X B es m)
    (hn : (assignEach es X.env).length = n := by rfl) (hst : (assignEach es X.env).findIdx? (·.1) = none := by rfl) : DTg X B (.Tuple es k pos) (gTupD n m) := by
  obtain ⟨g, p, s⟩ := h
  refine ⟨_, pg_tup hc p hn hst, fun O F σ H env d v env' Q st r e q => ?_⟩
  cases d with
  | tup ds =>
    obtain ⟨a, vs, rfl, ha, rl⟩ := r
    simp only [gTupD] at e
    split at e
    · rename_i hl
      exact ⟨a, vs, rfl, ha.sq, by rw [rl.length]; exact hl, s O F σ H env ds vs env' Q st rl e q⟩
    · cases e
  | pr x y =>
    obtain ⟨a, vx, vy, rfl, ha, r1, r2⟩ := r
    simp only [gTupD] at e
    split at e
    · rename_i hl
      subst hl
      exact ⟨a, [vx, vy], rfl, SqT.of ha, rfl, s O F σ H env [x, y] [vx, vy] env' Q st (RepL.cons r1 (RepL.cons r2 RepL.nil)) e q⟩
    · cases e
  | _ => cases e

/-! ### what is walked -/
/-- the turns give the items xs -/
def Walks (K : PySem.W.Frag) (O F : Fz) (H : Hp) (J : It) (xs : List D) : Prop := ∀ F' H', Ext O F H F' H' → (∀ a, O a → H' a ≠ none) → ∀ i,
  (∀ d, xs[i]? = some d → J.go i H' ∧ ∀ x H'', J.yld i H' x H'' → Same H' H'' ∧ Rep K F' H'' d x) ∧ (xs[i]? = none → J.stop i H')
abbrev DI := DEnv → R (List D)
def ISem (X : Cx) (W : WX) (wi : TI) (m : DI) : Prop := ∀ O F σ H env (R' : It → Hp → Prop), StOk X.K O F H σ env → (match m env with
  | .ok xs env' => ∀ F' H' J, Ext O F H F' H' → StOk X.K O F' H' σ env' → Walks X.K O F' H' J xs → R' J H'
  | .err x env' => ∀ F' H' cls d, Ext O F H F' H' → StOk X.K O F' H' σ env' → ExcRep X.mg F' H' x cls d → W cls d σ H'
  | .bad => False) → wi σ H R'
def DIt (X : Cx) (W : WX) (tg iter : Expr) (m : DI) : Prop := ∃ wi, PI X tg iter wi ∧ ISem X W wi m
def dFor (g : DG) (body : DS) : List D → DS
  | [], env => .ok .nx env
  | x :: xs, env => match g x env with
    | none => .bad
    | some env1 => match body env1 with
      | .ok .nx env2 => dFor g body xs env2
      | .ok .cnt env2 => dFor g body xs env2
      | .ok .brk env2 => .ok .nx env2
      | r => r
def dForI (it : DI) (g : DG) (body : DS) : DS := fun env => (it env).bind fun xs env1 => dFor g body xs env1
theorem s_for {tg iter : Expr} {body : List Stmt} {mi : DI} {g : DG} {mb : DS} {pos : Pos} (hp : PassesOwn (model X.prog X.w) X.A X.env X.xe) (hc : X.calm = true) (hi : DIt X W tg iter mi) (hg : DTg X B tg g) (hb : DSs X W B body mb)
    (hs : ∀ x, foldedSetIterable iter X.env x = pure x := by intro _; rfl) :
    DSt X W B (.For tg iter body [] pos) (dForI mi g mb) := by
  obtain ⟨wi, p1, s1⟩ := hi
  obtain ⟨tgg, p2, s2⟩ := hg
  obtain ⟨tb, p3, s3⟩ := hb
  refine ⟨_, ps_for hp hc p1 p2 p3 hs, fun O F σ H env Dn s g0 => ?_⟩
  refine s1 O F σ H env _ s ?_
  unfold dForI at g0
  cases q : mi env with
  | bad => rw [q] at g0; exact g0.elim
  | err x e => rw [q] at g0; exact fun F' H' c d e' s' r => g0 F' H' σ c d e' s' Keeps.refl r
  | ok xs env1 =>
    rw [q] at g0
    simp only [R.bind] at g0
    intro F1 H1 J E1 st1 wk
    refine ⟨fun i m σ' H' => ∃ F' env', m = xs.length - i ∧ i ≤ xs.length ∧ Ext O F1 H1 F' H' ∧ StOk X.K O F' H' σ' env' ∧ Keeps B σ σ' ∧ SGoal X W B O F' σ' H' Dn (dFor g mb (xs.drop i) env'),
      ⟨xs.length, F1, env1, by simp, Nat.zero_le _, Ext.refl, st1, Keeps.refl, by rw [List.drop_zero]; exact SGoal.step E1 Keeps.refl g0⟩, ?_⟩
    rintro i m σ' H' ⟨F', env', rfl, hi, E', st', k', g'⟩
    obtain ⟨w1, w2⟩ := wk F' H' E' st'.odom i
    cases hx : xs[i]? with
    | none =>
      left
      refine ⟨w2 hx, ?_⟩
      rw [List.drop_eq_nil_of_le (List.getElem?_eq_none_iff.mp hx)] at g'
      exact g' F' H' σ' Ext.refl st' Keeps.refl
    | some d =>
      right
      obtain ⟨go, yl⟩ := w1 d hx
      have hlt : i < xs.length := (List.getElem?_eq_some_iff.mp hx).1
      have hdrop : xs.drop i = d :: xs.drop (i + 1) := by
        rw [List.drop_eq_getElem_cons hlt]
        rw [List.getElem?_eq_getElem hlt] at hx
        rw [Option.some.inj hx]
      rw [hdrop] at g'
      refine ⟨go, fun σ3 H3 => ∃ F3 env3, Ext O F1 H1 F3 H3 ∧ StOk X.K O F3 H3 σ3 env3 ∧ Keeps B σ σ3 ∧ SGoal X W B O F3 σ3 H3 Dn (dFor g mb (xs.drop (i + 1)) env3), ?_, fun x H2 hy => ?_⟩
      · rintro σ3 H3 ⟨F3, env3, E3, st3, k3, g3⟩
        exact ⟨xs.length - (i + 1), by omega, F3, env3, rfl, hlt, E3, st3, k3, g3⟩
      · obtain ⟨sm, rx⟩ := yl x H2 hy
        have E2 : Ext O F' H' F' H2 := Ext.same sm st'.odom
        have st2 := st'.same sm
        unfold dFor at g'
        cases q2 : g d env' with
        | none => rw [q2] at g'; exact g'.elim
        | some env2 =>
          rw [q2] at g'
          simp only [] at g'
          refine s2 O F' σ' H2 env' d x env2 _ st2 rx q2 fun σ4 st4 k4 => ?_
          refine s3 O F' σ4 H2 env2 _ st4 ?_
          cases q3 : mb env2 with
          | bad => rw [q3] at g'; exact g'.elim
          | err y e => rw [q3] at g'; exact fun F5 H5 σ5 c d e5 s5 k5 r => g' F5 H5 σ5 c d (E2.trans e5) s5 (k4.trans k5) r
          | ok fl env5 =>
            rw [q3] at g'
            cases fl with
            | nx => exact fun F5 H5 σ5 E5 s5 k5 => ⟨F5, env5, (E'.trans E2).trans E5, s5, (k'.trans k4).trans k5, SGoal.step (E2.trans E5) (k4.trans k5) g'⟩
            | cnt => exact fun F5 H5 σ5 E5 s5 k5 => ⟨F5, env5, (E'.trans E2).trans E5, s5, (k'.trans k4).trans k5, SGoal.step (E2.trans E5) (k4.trans k5) g'⟩
            | brk => exact fun F5 H5 σ5 E5 s5 k5 => g' F5 H5 σ5 (E2.trans E5) s5 (k4.trans k5)
            | ret e => exact fun F5 H5 σ5 v E5 s5 k5 r => g' F5 H5 σ5 v (E2.trans E5) s5 (k4.trans k5) r
end
end DL
/-! DL4: what is walked, comprehensions, calls of defs. -/
namespace DL
open PySem PySem.Spec PyProof.Rows L2

section
variable {X : Cx} {W : WX} {B : Bs}
/-! ### walks -/
def dSeqOf : D → Option (List D)
  | .lst xs => some xs
  | .tup xs => some xs
  | .fz xs => some xs
  | _ => none
@[simp] theorem seq_lst (xs : List D) : dSeqOf (.lst xs) = some xs := rfl
@[simp] theorem seq_tup (xs : List D) : dSeqOf (.tup xs) = some xs := rfl
@[simp] theorem seq_fz (xs : List D) : dSeqOf (.fz xs) = some xs := rfl
def iSeq (m : DE) : DI := fun env => (m env).bind fun r env1 => match dSeqOf r.d with
  | some xs => .ok xs env1
  | none => .bad
theorem walks_list {K : PySem.W.Frag} {O F : Fz} {H : Hp} {a : Addr} {vs : List V} {xs : List D} (hl : ∀ F' H', Ext O F H F' H' → SqL K H' a vs) (hr : RepL K F H xs vs) : Walks K O F H (Itl K a) xs := fun F' H' E od i => by
  have q := hl F' H' E
  refine ⟨fun d hx => ?_, fun hx => ?_⟩
  · obtain ⟨v, hv, r⟩ := (RepL.ext E xs vs hr).get hx
    refine ⟨⟨vs, v, q, hv⟩, fun x H'' y => ?_⟩
    obtain ⟨e, y⟩ := y
    subst e
    have := y vs q
    rw [hv] at this
    cases this
    exact ⟨Same.refl _, r⟩
  · have h1 := List.getElem?_eq_none_iff.mp hx
    exact ⟨vs, q, by rw [hr.length]; exact h1⟩
theorem walks_tup {K : PySem.W.Frag} {O F : Fz} {H : Hp} {a : Addr} {vs : List V} {xs : List D} (ht : TpL H a vs) (hr : RepL K F H xs vs) : Walks K O F H (Itt K a) xs := fun F' H' E od i => by
  have q : SqT K H' a vs := (tpL_ext E ht).sq
  refine ⟨fun d hx => ?_, fun hx => ?_⟩
  · obtain ⟨v, hv, r⟩ := (RepL.ext E xs vs hr).get hx
    refine ⟨⟨vs, v, q, hv⟩, fun x H'' y => ?_⟩
    obtain ⟨e, y⟩ := y
    subst e
    have := y vs q
    rw [hv] at this
    cases this
    exact ⟨Same.refl _, r⟩
  · have h1 := List.getElem?_eq_none_iff.mp hx
    exact ⟨vs, q, by rw [hr.length]; exact h1⟩
/-- the items' places are known ahead: t gives one value for all wants -/
theorem pi_sq {tg l : Expr} {tl : TE} (hl : PE X l tl) : PI X tg l (fun σ H R => tl σ H fun x H1 => ∃ a, x = .ref a ∧ (((∃ xs, SqL X.K H1 a xs) ∧ R (Itl X.K a) H1) ∨ ((∃ xs, SqT X.K H1 a xs) ∧ R (Itt X.K a) H1))) := by
  refine ⟨fun pins s σ H R I h => ?_⟩
  refine thn (hl.run pins s σ H _ I h) fun u s1 ⟨x, H1, I1, rx, a, ex, q⟩ => ?_
  subst ex
  have ru : u = Value.ref a := rx
  subst ru
  rcases q with ⟨⟨xs, hq⟩, q⟩ | ⟨⟨xs, hq⟩, q⟩
  · obtain ⟨its, rv, p, hz⟩ := I1.list hq
    obtain ⟨o, n, ho, hcl, hdi, hd⟩ := id p
    refine wpAny_pyIter_list p.isList ?_
    have I2 : Inv X pins σ H1 { s1 with heap := s1.heap.push { cls := .type "list_iterator", data := .fields #[.ref a, rawInt 0] } } := I1.kept (t' := s1.toks) fun b ob z => Heap.get?_push_of_some _ z
    refine ⟨s1.heap.objs.size, [s1.heap.objs.size], _, _, H1, rfl, I2, turn_list a s1.heap.objs.size, ⟨_, Heap.get?_push_size _ rfl, rfl, rfl⟩, fun b hb => ?_, q⟩
    have e : b = s1.heap.objs.size := by simpa using hb
    subst e
    exact I1.fpOk (Nat.le_refl _) (I1.hok.fresh (Nat.le_refl _))
  · obtain ⟨its, rv, p, hz⟩ := I1.tuple hq
    refine wpAny_pyIter_tuple p ?_
    have I2 : Inv X pins σ H1 { s1 with heap := s1.heap.push { cls := .type "tuple_iterator", data := .fields #[.ref a, rawInt 0] } } := I1.kept (t' := s1.toks) fun b ob z => Heap.get?_push_of_some _ z
    refine ⟨s1.heap.objs.size, [s1.heap.objs.size], _, _, H1, rfl, I2, turn_tuple a s1.heap.objs.size, ⟨_, Heap.get?_push_size _ rfl, rfl, rfl⟩, fun b hb => ?_, q⟩
    have e : b = s1.heap.objs.size := by simpa using hb
    subst e
    exact I1.fpOk (Nat.le_refl _) (I1.hok.fresh (Nat.le_refl _))
theorem it_seq {tg e : Expr} {m : DE} (h : DEv X W e m) : DIt X W tg e (iSeq m) := by
  obtain ⟨t, p, s⟩ := h
  refine ⟨_, pi_sq p, fun O F σ H env R' st g => ?_⟩
  refine s O F σ H env _ st ?_
  unfold iSeq at g
  cases q : m env with
  | bad => rw [q] at g; exact g.elim
  | err x e => rw [q] at g; exact g
  | ok r env1 =>
    rw [q] at g
    simp only [R.bind] at g
    intro F1 H1 v E1 s1 r1
    obtain ⟨F2, E2, s2, r2⟩ := freeze s1 r1
    obtain ⟨md, d⟩ := r
    cases d with
    | lst xs =>
      obtain ⟨a, vs, rfl, fa, ha, rl⟩ := r2
      have q : SqL X.K H1 a vs := SqL.of ha
      refine ⟨a, rfl, .inl ⟨⟨vs, q⟩, g F2 H1 _ (E1.trans E2) s2 (walks_list (fun F' H' E => SqL.of (E.fz a _ fa ha)) rl)⟩⟩
    | tup xs =>
      obtain ⟨a, vs, rfl, ha, rl⟩ := r2
      exact ⟨a, rfl, .inr ⟨⟨vs, ha.sq⟩, g F2 H1 _ (E1.trans E2) s2 (walks_tup ha rl)⟩⟩
    | fz xs =>
      obtain ⟨a, vs, rfl, ha, rl⟩ := r2
      exact ⟨a, rfl, .inl ⟨⟨vs, ha.sq⟩, g F2 H1 _ (E1.trans E2) s2 (walks_list (fun F' H' E => (sqF_ext E ha).sq) rl)⟩⟩
    | _ => exact g.elim

/-! range -/
def rngD (lo : Int) : Nat → List D
  | 0 => []
  | n + 1 => .int lo :: rngD (lo + 1) n
theorem rngD_get (lo : Int) (n i : Nat) : (rngD lo n)[i]? = if i < n then some (.int (lo + i)) else none := by
  induction n generalizing lo i with
  | zero => simp [rngD]
  | succ n ih =>
    cases i with
    | zero => simp [rngD]
    | succ i =>
      rw [rngD, List.getElem?_cons_succ, ih]
      by_cases h : i < n
      · rw [if_pos h, if_pos (by omega)]
        have : lo + 1 + (i : Int) = lo + ((i + 1 : Nat) : Int) := by omega
        rw [this]
      · rw [if_neg h, if_neg (by omega)]
theorem rngD_len (lo : Int) (n : Nat) : (rngD lo n).length = n := by
  induction n generalizing lo with
  | zero => rfl
  | succ n ih => rw [rngD, List.length_cons, ih]
theorem walks_rng {K : PySem.W.Frag} {O F : Fz} {H : Hp} {lo : Int} {n : Nat} : Walks K O F H (Itr lo n) (rngD lo n) := fun F' H' E od i => by
  rw [rngD_get]
  by_cases h : i < n
  · rw [if_pos h]
    refine ⟨fun d hd => ⟨h, fun x H'' y => ?_⟩, fun z => nomatch z⟩
    obtain ⟨e, e2⟩ := y
    cases hd
    subst e e2
    exact ⟨Same.refl _, rfl⟩
  · rw [if_neg h]
    exact ⟨fun d z => (nomatch z), fun _ => by show n ≤ i; omega⟩
/-- the same by a step -/
def rngC (lo c : Int) : Nat → List D
  | 0 => []
  | n + 1 => .int lo :: rngC (lo + c) c n
theorem rngC_get (lo c : Int) (n i : Nat) : (rngC lo c n)[i]? = if i < n then some (.int (lo + (i : Nat) * c)) else none := by
  induction n generalizing lo i with
  | zero => simp [rngC]
  | succ n ih =>
    cases i with
    | zero => simp [rngC]
    | succ i =>
      rw [rngC, List.getElem?_cons_succ, ih]
      by_cases h : i < n
      · rw [if_pos h, if_pos (by omega)]
        have : lo + c + (i : Int) * c = lo + ((i + 1 : Nat) : Int) * c := by
          have : ((i + 1 : Nat) : Int) = (i : Int) + 1 := by omega
          rw [this, Int.add_mul]
          omega
        rw [this]
      · rw [if_neg h, if_neg (by omega)]
theorem walks_rngC {K : PySem.W.Frag} {O F : Fz} {H : Hp} {lo c : Int} {n : Nat} : Walks K O F H (Itc lo c n) (rngC lo c n) := fun F' H' E od i => by
  rw [rngC_get]
  by_cases h : i < n
  · rw [if_pos h]
    refine ⟨fun d hd => ⟨h, fun x H'' y => ?_⟩, fun z => nomatch z⟩
    obtain ⟨e, e2⟩ := y
    cases hd
    subst e e2
    exact ⟨Same.refl _, rfl⟩
  · rw [if_neg h]
    exact ⟨fun d z => (nomatch z), fun _ => by show n ≤ i; omega⟩
def small62 (i : Int) : Bool := decide (-(2 ^ 62) ≤ i) && decide (i < 2 ^ 62)
theorem small62_of {i : Int} (h : small62 i = true) : -(2 ^ 62) ≤ i ∧ i < 2 ^ 62 := by
  unfold small62 at h
  rw [Bool.and_eq_true] at h
  exact ⟨of_decide_eq_true h.1, of_decide_eq_true h.2⟩
def rng1 (ds : List D) : Option (List D) := match ds with
  | [.int j] => if small62 j = true then some (rngD 0 j.toNat) else none
  | _ => none
def rng2 (ds : List D) : Option (List D) := match ds with
  | [.int i, .int j] => if small62 i = true then (if small62 j = true then some (rngD i (j - i).toNat) else none) else none
  | _ => none
/-- downwards by ones -/
def rng3 (ds : List D) : Option (List D) := match ds with
  | [.int i, .int j, .int c] => if c = -1 then (if small62 i = true then (if small62 j = true then some (rngC i (-1) (i - j).toNat) else none) else none) else none
  | _ => none
def iArgs (p : List D → Option (List D)) (os : List Opd) : DI := fun env => (evOs os env).bind fun avs env1 => match (getAVs env1 avs).bind p with
  | some xs => .ok xs env1
  | none => .bad
/-- from the arguments' reading -/
theorem isem_args {ta : TA} {os : List Opd} {p : List D → Option (List D)} {r : List V → Hp → (It → Hp → Prop) → Prop} (ha : ASem X W ta os)
    (hr : ∀ (O F : Fz) (H : Hp) (ds : List D) (vs : List V) (xs : List D) (R' : It → Hp → Prop), RepTs X.K F H ds vs → p ds = some xs → (∀ J, Walks X.K O F H J xs → R' J H) → r vs H R') :
    ISem X W (fun σ H R' => ta σ H fun vs H1 => r vs H1 R') (iArgs p os) := fun O F σ H env R' st g => by
  refine ha O F σ H env _ st ?_
  unfold iArgs at g
  cases q : evOs os env with
  | bad => rw [q] at g; exact g.elim
  | err x e => rw [q] at g; exact g
  | ok avs env1 =>
    rw [q] at g
    simp only [R.bind] at g
    intro F1 H1 vs E1 s1 r1
    cases q2 : getAVs env1 avs with
    | none => rw [q2] at g; exact g.elim
    | some ds =>
      rw [q2] at g
      simp only [Option.bind] at g
      cases q3 : p ds with
      | none => rw [q3] at g; exact g.elim
      | some xs =>
        rw [q3] at g
        exact hr O F1 H1 ds vs xs R' (AVs.tops s1 r1 q2) q3 fun J w => g F1 H1 J E1 s1 w
theorem it_rng1 {tg a : Expr} {os : List Opd} {p pos : Pos} (hg : Gl X "range") (hm : X.mg "range" = none) (ha : DAs X W [a] os) (hs : starEach [a] X.env = [(false, eval a X.env)] := by rfl) : DIt X W tg (.Call (.Name "range" p) [a] [] pos) (iArgs rng1 os) := by
  obtain ⟨t, h, s⟩ := ha
  refine ⟨_, pi_range1 hg hm h hs, isem_args s fun O F H ds vs xs R' r e k => ?_⟩
  unfold rng1 at e
  split at e
  · split at e
    · rename_i j hj
      cases e
      obtain ⟨v, _, rfl, rv, rfl⟩ := r
      cases rv
      obtain ⟨h1, h2⟩ := small62_of hj
      exact ⟨j, rfl, h1, h2, k _ walks_rng⟩
    · cases e
  · cases e
theorem it_rng2 {tg a b : Expr} {os : List Opd} {p pos : Pos} (hg : Gl X "range") (hm : X.mg "range" = none) (ha : DAs X W [a, b] os) (hs : starEach [a, b] X.env = [(false, eval a X.env), (false, eval b X.env)] := by rfl) (hs2 : starEach [b] X.env = [(false, eval b X.env)] := by rfl) : DIt X W tg (.Call (.Name "range" p) [a, b] [] pos) (iArgs rng2 os) := by
  obtain ⟨t, h, s⟩ := ha
  refine ⟨_, pi_range2 hg hm h hs hs2, isem_args s fun O F H ds vs xs R' r e k => ?_⟩
  unfold rng2 at e
  split at e
  · rename_i i j
    split at e
    · rename_i hi
      split at e
      · rename_i hj
        cases e
        obtain ⟨v, _, rfl, rv, v2, _, rfl, rv2, rfl⟩ := r
        cases rv
        cases rv2
        obtain ⟨h1, h2⟩ := small62_of hi
        obtain ⟨h3, h4⟩ := small62_of hj
        exact ⟨i, j, rfl, ⟨h1, h2, h3, h4⟩, k _ walks_rng⟩
      · cases e
    · cases e
  · cases e
theorem it_rng3 {tg a b c : Expr} {os : List Opd} {p pos : Pos} (hg : Gl X "range") (hm : X.mg "range" = none) (ha : DAs X W [a, b, c] os)
    (hs : starEach [a, b, c] X.env = (false, eval a X.env) :: starEach [b, c] X.env := by rfl) (hpl : (backTo pos (starEach [b, c] X.env)).any (·.1) = false := by rfl) : DIt X W tg (.Call (.Name "range" p) [a, b, c] [] pos) (iArgs rng3 os) := by
  obtain ⟨t, h, s⟩ := ha
  refine ⟨_, pi_range3 hg hm h hs hpl, isem_args s fun O F H ds vs xs R' r e k => ?_⟩
  unfold rng3 at e
  split at e
  · rename_i i j c
    split at e
    · rename_i hc
      subst hc
      split at e
      · rename_i hi
        split at e
        · rename_i hj
          cases e
          obtain ⟨v, _, rfl, rv, v2, _, rfl, rv2, v3, _, rfl, rv3, rfl⟩ := r
          cases rv
          cases rv2
          cases rv3
          obtain ⟨h1, h2⟩ := small62_of hi
          obtain ⟨h3, h4⟩ := small62_of hj
          exact ⟨i, j, -1, (i - j).toNat, rfl, RgC.neg h1 h2 h3 h4, k _ walks_rngC⟩
        · cases e
      · cases e
    · cases e
  · cases e
/-! enumerate of a list, zip of two lists or two tuples: new pairs -/
def enumD (i : Nat) : List D → List D
  | [] => []
  | x :: xs => .pr (.int (i : Nat)) x :: enumD (i + 1) xs
theorem enumD_get (i : Nat) (xs : List D) (j : Nat) : (enumD i xs)[j]? = xs[j]?.map fun x => D.pr (.int ((i + j : Nat) : Int)) x := by
  induction xs generalizing i j with
  | nil => simp [enumD]
  | cons x xs ih =>
    cases j with
    | zero => simp [enumD]
    | succ j =>
      rw [enumD, List.getElem?_cons_succ, List.getElem?_cons_succ, ih]
      have : i + 1 + j = i + (j + 1) := by omega
      rw [this]
def zipD : List D → List D → List D
  | x :: xs, y :: ys => .pr x y :: zipD xs ys
  | _, _ => []
theorem zipD_get : ∀ (xs ys : List D) (j : Nat), (zipD xs ys)[j]? = (match xs[j]?, ys[j]? with
    | some x, some y => some (D.pr x y)
    | _, _ => none)
  | [], ys, j => by simp [zipD]
  | x :: xs, [], j => by
    cases q : (x :: xs)[j]? <;> simp [zipD]
  | x :: xs, y :: ys, 0 => by simp [zipD]
  | x :: xs, y :: ys, j + 1 => by
    rw [zipD, List.getElem?_cons_succ, List.getElem?_cons_succ, List.getElem?_cons_succ]
    exact zipD_get xs ys j
theorem walks_enum {K : PySem.W.Frag} {O F : Fz} {H : Hp} {a : Addr} {vs : List V} {xs : List D} (hl : ∀ F' H', Ext O F H F' H' → SqL K H' a vs) (hr : RepL K F H xs vs) : Walks K O F H (Ite K a) (enumD 0 xs) := fun F' H' E od i => by
  have q := hl F' H' E
  have rl := RepL.ext E xs vs hr
  rw [enumD_get]
  refine ⟨fun d hx => ?_, fun hx => ?_⟩
  · cases hx' : xs[i]? with
    | none => rw [hx'] at hx; cases hx
    | some x =>
      rw [hx'] at hx
      simp only [Option.map_some] at hx
      cases hx
      obtain ⟨v, hv, r⟩ := rl.get hx'
      refine ⟨⟨vs, v, q, hv⟩, fun y H'' z => ?_⟩
      obtain ⟨T, v2, rfl, hT, rfl, hy⟩ := z
      have := hy vs q
      rw [hv] at this
      cases this
      refine ⟨same_new hT, T, .int (i : Nat), v, rfl, upd_same, ?_⟩
      have e0 : ((0 + i : Nat) : Int) = ((i : Nat) : Int) := by rw [Nat.zero_add]
      rw [e0]
      exact ⟨rfl, rep_same (same_new hT) r⟩
  · cases hx' : xs[i]? with
    | none => exact ⟨vs, q, by rw [hr.length]; exact List.getElem?_eq_none_iff.mp hx'⟩
    | some x => rw [hx'] at hx; cases hx
theorem walks_zip {K : PySem.W.Frag} {O F : Fz} {H : Hp} {a b : Addr} {vs ws : List V} {xs ys : List D} (hl : ∀ F' H', Ext O F H F' H' → SqL K H' a vs) (hl2 : ∀ F' H', Ext O F H F' H' → SqL K H' b ws) (hr : RepL K F H xs vs) (hr2 : RepL K F H ys ws) :
    Walks K O F H (Itz K a b) (zipD xs ys) := fun F' H' E od i => by
  have q := hl F' H' E
  have q2 := hl2 F' H' E
  have rl := RepL.ext E xs vs hr
  have rl2 := RepL.ext E ys ws hr2
  rw [zipD_get]
  cases hx : xs[i]? with
  | none => exact ⟨fun d z => (nomatch z), fun _ => ⟨vs, ws, q, q2, .inl (by rw [hr.length]; exact List.getElem?_eq_none_iff.mp hx)⟩⟩
  | some x =>
    cases hy : ys[i]? with
    | none => exact ⟨fun d z => (nomatch z), fun _ => ⟨vs, ws, q, q2, .inr (by rw [hr2.length]; exact List.getElem?_eq_none_iff.mp hy)⟩⟩
    | some y =>
      refine ⟨fun d z => ?_, fun z => (nomatch z)⟩
      cases z
      obtain ⟨v, hv, r⟩ := rl.get hx
      obtain ⟨w, hw, r2⟩ := rl2.get hy
      refine ⟨⟨vs, ws, v, w, q, q2, hv, hw⟩, fun u H'' z => ?_⟩
      obtain ⟨T, v2, w2, rfl, hT, rfl, e1, e2⟩ := z
      have e1 := e1 vs q
      have e2 := e2 ws q2
      rw [hv] at e1; rw [hw] at e2
      cases e1; cases e2
      exact ⟨same_new hT, T, v, w, rfl, upd_same, rep_same (same_new hT) r, rep_same (same_new hT) r2⟩
theorem walks_zipT {K : PySem.W.Frag} {O F : Fz} {H : Hp} {a b : Addr} {vs ws : List V} {xs ys : List D} (ha : TpL H a vs) (hb : TpL H b ws) (hr : RepL K F H xs vs) (hr2 : RepL K F H ys ws) :
    Walks K O F H (RZ.ItzT K a b) (zipD xs ys) := fun F' H' E od i => by
  have q : SqT K H' a vs := (tpL_ext E ha).sq
  have q2 : SqT K H' b ws := (tpL_ext E hb).sq
  have rl := RepL.ext E xs vs hr
  have rl2 := RepL.ext E ys ws hr2
  rw [zipD_get]
  cases hx : xs[i]? with
  | none => exact ⟨fun d z => (nomatch z), fun _ => ⟨vs, ws, q, q2, .inl (by rw [hr.length]; exact List.getElem?_eq_none_iff.mp hx)⟩⟩
  | some x =>
    cases hy : ys[i]? with
    | none => exact ⟨fun d z => (nomatch z), fun _ => ⟨vs, ws, q, q2, .inr (by rw [hr2.length]; exact List.getElem?_eq_none_iff.mp hy)⟩⟩
    | some y =>
      refine ⟨fun d z => ?_, fun z => (nomatch z)⟩
      cases z
      obtain ⟨v, hv, r⟩ := rl.get hx
      obtain ⟨w, hw, r2⟩ := rl2.get hy
      refine ⟨⟨vs, ws, v, w, q, q2, hv, hw⟩, fun u H'' z => ?_⟩
      obtain ⟨T, v2, w2, rfl, hT, rfl, e1, e2⟩ := z
      have e1 := e1 vs q
      have e2 := e2 ws q2
      rw [hv] at e1; rw [hw] at e2
      cases e1; cases e2
      exact ⟨same_new hT, T, v, w, rfl, upd_same, rep_same (same_new hT) r, rep_same (same_new hT) r2⟩
/-- from arguments that are all still -/
theorem isem_vals {ta : TA} {os : List Opd} {p : List D → Option (List D)} {r : List V → Hp → (It → Hp → Prop) → Prop} (ha : ASem X W ta os) (hv : allV os = true)
    (hr : ∀ (O F : Fz) (H : Hp) (ds : List D) (vs : List V) (xs : List D) (R' : It → Hp → Prop), RepL X.K F H ds vs → p ds = some xs → (∀ J, Walks X.K O F H J xs → R' J H) → r vs H R') :
    ISem X W (fun σ H R' => ta σ H fun vs H1 => r vs H1 R') (iArgs p os) := fun O F σ H env R' st g => by
  refine ha O F σ H env _ st ?_
  unfold iArgs at g
  cases q : evOs os env with
  | bad => rw [q] at g; exact g.elim
  | err x e => rw [q] at g; exact g
  | ok avs env1 =>
    rw [q] at g
    simp only [R.bind] at g
    intro F1 H1 vs E1 s1 r1
    cases q2 : getAVs env1 avs with
    | none => rw [q2] at g; exact g.elim
    | some ds =>
      rw [q2] at g
      simp only [Option.bind] at g
      cases q3 : p ds with
      | none => rw [q3] at g; exact g.elim
      | some xs =>
        rw [q3] at g
        exact hr O F1 H1 ds vs xs R' (AVs.vals hv q r1 q2) q3 fun J w => g F1 H1 J E1 s1 w
def enum1 (ds : List D) : Option (List D) := match ds with
  | [.lst xs] => some (enumD 0 xs)
  | _ => none
def zip2 (ds : List D) : Option (List D) := match ds with
  | [.lst xs, .lst ys] => some (zipD xs ys)
  | [.tup xs, .tup ys] => some (zipD xs ys)
  | _ => none
theorem it_enum {e : Expr} {os : List Opd} {p pos tpos : Pos} {elts : List Expr} {kk : Nat} (hg : Gl X "enumerate") (hm : X.mg "enumerate" = none) (ha : DAs X W [e] os) (hs : starEach [e] X.env = [(false, eval e X.env)] := by rfl) (hv : allV os = true := by rfl) :
    DIt X W (.Tuple elts kk tpos) (.Call (.Name "enumerate" p) [e] [] pos) (iArgs enum1 os) := by
  obtain ⟨t, h, s⟩ := ha
  refine ⟨_, pi_enum hg hm h hs, isem_vals s hv fun O F H ds vs xs R' r e k => ?_⟩
  unfold enum1 at e
  split at e
  · cases e
    obtain ⟨v, _, rfl, ⟨a, ws, rfl, fa, ha, rl⟩, rfl⟩ := r
    exact ⟨a, ws, rfl, SqL.of ha, k _ (walks_enum (fun F' H' E => SqL.of (E.fz a _ fa ha)) rl)⟩
  · cases e
theorem it_zip {e e2 : Expr} {os : List Opd} {p pos tpos : Pos} {elts : List Expr} {kk : Nat} (hg : Gl X "zip") (hm : X.mg "zip" = none) (ha : DAs X W [e, e2] os)
    (hs : starEach [e, e2] X.env = (false, eval e X.env) :: starEach [e2] X.env := by rfl) (hpl : (backTo pos (starEach [e2] X.env)).any (·.1) = false := by rfl) (hv : allV os = true := by rfl) :
    DIt X W (.Tuple elts kk tpos) (.Call (.Name "zip" p) [e, e2] [] pos) (iArgs zip2 os) := by
  obtain ⟨t, h, s⟩ := ha
  refine ⟨_, RZ.pi_zipA hg hm h hs hpl, isem_vals s hv fun O F H ds vs xs R' r e k => ?_⟩
  unfold zip2 at e
  split at e
  · cases e
    obtain ⟨v, _, rfl, ⟨a, ws, rfl, fa, ha, rl⟩, v2, _, rfl, ⟨b, zs, rfl, fb, hb, rl2⟩, rfl⟩ := r
    exact ⟨a, b, ws, zs, rfl, .inl ⟨SqL.of ha, SqL.of hb, k _ (walks_zip (fun F' H' E => SqL.of (E.fz a _ fa ha)) (fun F' H' E => SqL.of (E.fz b _ fb hb)) rl rl2)⟩⟩
  · cases e
    obtain ⟨v, _, rfl, ⟨a, ws, rfl, ha, rl⟩, v2, _, rfl, ⟨b, zs, rfl, hb, rl2⟩, rfl⟩ := r
    exact ⟨a, b, ws, zs, rfl, .inr ⟨ha.sq, hb.sq, k _ (walks_zipT ha hb rl rl2)⟩⟩
  · cases e
end
end DL
/-! DL5: comprehensions. -/
namespace DL
open PySem PySem.Spec PyProof.Rows L2

section
variable {X : Cx} {W : WX} {B : Bs}
/-! ### one reading for all contexts -/
def tOfE (X : Cx) (W : WX) (m : DE) : TE := fun σ H Q => ∃ O F env, StOk X.K O F H σ env ∧ EGoal X W O F σ H Q (m env)
def tOfT (X : Cx) (W : WX) (m : DT) : TT := fun σ H Q => ∃ O F env, StOk X.K O F H σ env ∧ TGoal X W O F σ H Q (m env)
theorem DEv.pe {e : Expr} {m : DE} (h : DEv X W e m) : PE X e (tOfE X W m) := by
  obtain ⟨t, p, s⟩ := h
  exact ⟨fun pins s0 σ H Q I ⟨O, F, env, st, g⟩ => p.run pins s0 σ H Q I (s O F σ H env Q st g)⟩
theorem DTst.pt {e : Expr} {m : DT} (h : DTst X W e m) : PT X e (tOfT X W m) := by
  obtain ⟨t, p, s⟩ := h
  exact ⟨fun pins s0 σ H Q I ⟨O, F, env, st, g⟩ => p.run pins s0 σ H Q I (s O F σ H env Q st g)⟩
def tOfG (X : Cx) (B : Bs) (m : DG) : TG := fun v σ H Q => ∃ O F env d env', StOk X.K O F H σ env ∧ Rep X.K F H d v ∧ m d env = some env' ∧ ∀ σ', StOk X.K O F H σ' env' → Keeps B σ σ' → Q σ' H
theorem DTg.pg {e : Expr} {m : DG} (h : DTg X B e m) : PG X e (tOfG X B m) := by
  obtain ⟨g, p, s⟩ := h
  exact ⟨fun pins s0 σ H v u Q I r ⟨O, F, env, d, env', st, rd, e, k⟩ => p.run pins s0 σ H v u Q I r (s O F σ H env d v env' Q st rd e k)⟩

/-! ### comprehensions -/
@[simp] def wipeD (env : DEnv) : List Nat → DEnv
  | [] => env
  | v :: vs => (wipeD env vs).set v none
@[simp] def keepEnt : Option (Option Ent) → Option Ent
  | some (some ⟨.shr, d⟩) => some ⟨.shr, d⟩
  | _ => none
/-- the outer values of the comprehension's own names come back -/
@[simp] def backD (env0 env : DEnv) : List Nat → DEnv
  | [] => env
  | v :: vs => (backD env0 env vs).set v (keepEnt env0[v]?)
def dLoop (vs : List Nat) (g : DG) (c : DT) (e : DE) : List D → List D → DEnv → R (List D)
  | [], acc, env => .ok acc env
  | x :: xs, acc, env => match g x env with
    | none => .bad
    | some env1 => match c env1 with
      | .ok true env2 => (match e env2 with
        | .ok r env3 => if acc.length < sizeLine then dLoop vs g c e xs (acc ++ [r.d]) (wipeD env3 vs) else .bad
        | _ => .bad)
      | .ok false env2 => dLoop vs g c e xs acc (wipeD env2 vs)
      | _ => .bad
def dComp (vs : List Nat) (it : DI) (g : DG) (c : DT) (e : DE) : DE := fun env => (it env).bind fun xs env1 => match dLoop vs g c e xs [] (wipeD env1 vs) with
  | .ok acc env2 => .ok ⟨.own, .lst acc⟩ (backD env1 env2 vs)
  | _ => .bad
def dYes : DT := fun env => .ok true env
def notIn (vs : List Nat) : Bs := fun i => !vs.contains i
theorem wipeD_get {env : DEnv} {i : Nat} {x : Ent} : ∀ {vs : List Nat}, (wipeD env vs)[i]? = some (some x) → env[i]? = some (some x) ∧ i ∉ vs
  | [], h => ⟨h, by simp⟩
  | v :: vs, h => by
    unfold wipeD at h
    by_cases hi : v = i
    · subst hi
      by_cases hv : v < (wipeD env vs).length
      · rw [List.getElem?_set_self hv] at h; cases h
      · rw [List.getElem?_eq_none (by simpa using hv)] at h; cases h
    · rw [List.getElem?_set_ne hi] at h
      obtain ⟨h1, h2⟩ := wipeD_get h
      exact ⟨h1, by simp only [List.mem_cons, not_or]; exact ⟨fun e => hi e.symm, h2⟩⟩
theorem wipeD_length (env : DEnv) : ∀ vs : List Nat, (wipeD env vs).length = env.length
  | [] => rfl
  | v :: vs => by unfold wipeD; rw [List.length_set, wipeD_length env vs]
theorem backD_length (env0 env : DEnv) : ∀ vs : List Nat, (backD env0 env vs).length = env.length
  | [] => rfl
  | v :: vs => by unfold backD; rw [List.length_set, backD_length env0 env vs]
theorem backD_get {env0 env : DEnv} {i : Nat} {x : Ent} : ∀ {vs : List Nat}, (backD env0 env vs)[i]? = some (some x) → (i ∉ vs ∧ env[i]? = some (some x)) ∨ (i ∈ vs ∧ x.md = .shr ∧ env0[i]? = some (some x))
  | [], h => .inl ⟨by simp, h⟩
  | v :: vs, h => by
    unfold backD at h
    by_cases hi : v = i
    · subst hi
      by_cases hv : v < (backD env0 env vs).length
      · rw [List.getElem?_set_self hv] at h
        right
        cases q : env0[v]? with
        | none => rw [q] at h; cases h
        | some o =>
          cases o with
          | none => rw [q] at h; cases h
          | some e =>
            rw [q] at h
            obtain ⟨m, d⟩ := e
            cases m with
            | shr =>
              simp only [keepEnt] at h
              cases h
              exact ⟨by simp, rfl, rfl⟩
            | own => cases h
            | bor => cases h
      · rw [List.getElem?_eq_none (by simpa using hv)] at h; cases h
    · rw [List.getElem?_set_ne hi] at h
      rcases backD_get h with ⟨h1, h2⟩ | ⟨h1, h2⟩
      · exact .inl ⟨by simp only [List.mem_cons, not_or]; exact ⟨fun e => hi e.symm, h1⟩, h2⟩
      · exact .inr ⟨List.mem_cons_of_mem _ h1, h2⟩
theorem wipe_get {σ : L2.St} {i : Nat} : ∀ {vs : List Nat}, i ∉ vs → (wipe σ vs)[i]? = σ[i]? := fun h => wipe_out h
/-- within: the names of the comprehension are empty -/
theorem StOk.wiped {K : PySem.W.Frag} {O F : Fz} {H : Hp} {σ : L2.St} {env : DEnv} (s : StOk K O F H σ env) (vs : List Nat) : StOk K O F H (wipe σ vs) (wipeD env vs) where
  len := by rw [wipe_length, wipeD_length]; exact s.len
  shr := fun i d q => by
    obtain ⟨q1, q2⟩ := wipeD_get q
    obtain ⟨v, h1, h2⟩ := s.shr i d q1
    exact ⟨v, by rw [wipe_get q2]; exact h1, h2⟩
  own := fun i m d q n => by
    obtain ⟨q1, q2⟩ := wipeD_get q
    obtain ⟨a, ws, ds, h1, h2, h3⟩ := s.own i m d q1 n
    exact ⟨a, ws, ds, h1, by rw [wipe_get q2]; exact h2, h3⟩
  inj := fun i j a ⟨m, d, h1, h2, h3⟩ ⟨m', d', k1, k2, k3⟩ => by
    obtain ⟨q1, q2⟩ := wipeD_get h1
    obtain ⟨q3, q4⟩ := wipeD_get k1
    rw [wipe_get q2] at h3
    rw [wipe_get q4] at k3
    exact s.inj i j a ⟨m, d, q1, h2, h3⟩ ⟨m', d', q3, k2, k3⟩
  fdom := s.fdom
  odom := s.odom
theorem wipe_len {σ : L2.St} (vs : List Nat) : (wipe σ vs).length = σ.length := wipe_length σ vs
/-- back: from a state whose own names are empty -/
theorem StOk.back {K : PySem.W.Frag} {O F0 F : Fz} {H0 H : Hp} {σ : L2.St} {env0 env : DEnv} {vs : List Nat} (s0 : StOk K O F0 H0 σ env0) (s : StOk K O F H (wipe σ vs) env) (e : Ext O F0 H0 F H) (hw : ∀ i ∈ vs, ∀ x, env[i]? ≠ some (some x)) : StOk K O F H σ (backD env0 env vs) where
  len := by rw [backD_length, ← s.len, wipe_length]
  shr := fun i d q => by
    rcases backD_get q with ⟨q1, q2⟩ | ⟨q1, _, q2⟩
    · obtain ⟨v, h1, h2⟩ := s.shr i d q2
      rw [wipe_get q1] at h1
      exact ⟨v, h1, h2⟩
    · obtain ⟨v, h1, h2⟩ := s0.shr i d q2
      exact ⟨v, h1, Rep.ext e d v h2⟩
  own := fun i m d q n => by
    rcases backD_get q with ⟨q1, q2⟩ | ⟨q1, z, q2⟩
    · obtain ⟨a, ws, ds, h1, h2, h3⟩ := s.own i m d q2 n
      rw [wipe_get q1] at h2
      exact ⟨a, ws, ds, h1, h2, h3⟩
    · exact absurd z n
  inj := fun i j a ⟨m, d, h1, h2, h3⟩ ⟨m', d', k1, k2, k3⟩ => by
    rcases backD_get h1 with ⟨q1, q2⟩ | ⟨q1, z, q2⟩
    · rcases backD_get k1 with ⟨r1, r2⟩ | ⟨r1, z, r2⟩
      · exact s.inj i j a ⟨m, d, q2, h2, by rw [wipe_get q1]; exact h3⟩ ⟨m', d', r2, k2, by rw [wipe_get r1]; exact k3⟩
      · exact absurd z k2
    · exact absurd z h2
  fdom := s.fdom
  odom := s.odom
/-- what others own is changed by them -/
theorem StOk.outw {K : PySem.W.Frag} {O F : Fz} {H : Hp} {σ : L2.St} {env : DEnv} {p : Addr} {us ws : List V} (s : StOk K O F H σ env) (hO : O p) (hF : ¬ F p) (h : H p = some (.lst us)) :
    StOk K O F (upd H p (.lst ws)) σ env ∧ ∀ O', (∀ a, O' a → a ≠ p) → Ext O' F H F (upd H p (.lst ws)) := by
  have E : ∀ O', (∀ a, O' a → a ≠ p) → Ext O' F H F (upd H p (.lst ws)) := fun O' ho => ⟨fun _ h => h, fun b o f q => by
      rw [upd_ne (fun z => by subst z; exact hF f)]; exact q, fun b xs q => by
      rw [upd_ne (fun z => by subst z; rw [h] at q; cases q)]; exact q, fun b o u q => by
      rw [upd_ne (fun z => by subst z; rw [h] at q; cases q)]; exact q, fun b ob => upd_ne (ho b ob), fun _ _ q => q⟩
  have E0 := E (fun _ => False) fun _ z => z.elim
  refine ⟨⟨s.len, fun i d q => let ⟨v, h1, h2⟩ := s.shr i d q; ⟨v, h1, Rep.ext E0 d v h2⟩, fun i m d q n => ?_, s.inj, fun b f => ?_, fun b f => ?_⟩, E⟩
  · obtain ⟨a, xs, ds, h1, h2, h3, h4, h5, h6⟩ := s.own i m d q n
    have hb : a ≠ p := fun z => by subst z; exact h6 hO
    exact ⟨a, xs, ds, h1, h2, by rw [upd_ne hb]; exact h3, RepL.ext E0 ds xs h4, h5, h6⟩
  · by_cases hb : b = p
    · subst hb; rw [upd_same]; exact nofun
    · rw [upd_ne hb]; exact s.fdom b f
  · by_cases hb : b = p
    · subst hb; rw [upd_same]; exact nofun
    · rw [upd_ne hb]; exact s.odom b f
theorem StOk.weak {K : PySem.W.Frag} {O O' F : Fz} {H : Hp} {σ : L2.St} {env : DEnv} (s : StOk K O F H σ env) (h : ∀ a, O' a → O a) : StOk K O' F H σ env :=
  ⟨s.len, s.shr, fun i m d q n => let ⟨a, vs, ds, h1, h2, h3, h4, h5, h6⟩ := s.own i m d q n; ⟨a, vs, ds, h1, h2, h3, h4, h5, fun z => h6 (h a z)⟩, s.inj, s.fdom, fun a q => s.odom a (h a q)⟩
theorem keeps_wipe {vs : List Nat} {σ σ' : L2.St} (k : Keeps (notIn vs) σ σ') : wipe σ' vs = wipe σ vs := by
  have hl := k.1
  apply List.ext_getElem?
  intro i
  by_cases hi : i ∈ vs
  · have none_at : ∀ τ : L2.St, (wipe τ vs)[i]? = none ∨ (wipe τ vs)[i]? = some none := fun τ => by
      cases q : (wipe τ vs)[i]? with
      | none => exact .inl rfl
      | some o =>
        cases o with
        | none => exact .inr rfl
        | some x => exact absurd hi (wipe_some q).2
    by_cases hlt : i < σ.length
    · have h1 : i < (wipe σ vs).length := by rw [wipe_length]; exact hlt
      have h2 : i < (wipe σ' vs).length := by rw [wipe_length, hl]; exact hlt
      rcases none_at σ with a | a
      · rw [List.getElem?_eq_getElem h1] at a; cases a
      · rcases none_at σ' with b | b
        · rw [List.getElem?_eq_getElem h2] at b; cases b
        · rw [a, b]
    · have z1 : (wipe σ' vs).length ≤ i := by rw [wipe_length]; omega
      have z2 : (wipe σ vs).length ≤ i := by rw [wipe_length]; omega
      rw [List.getElem?_eq_none z1, List.getElem?_eq_none z2]
  · rw [wipe_get hi, wipe_get hi]
    exact k.2 i (by unfold notIn; rw [Bool.not_eq_true']; exact Bool.eq_false_iff.mpr fun z => hi (by simpa using z))
theorem wipe_wipe {σ : L2.St} : ∀ (vs : List Nat), wipe (wipe σ vs) vs = wipe σ vs := fun vs => by
  apply List.ext_getElem?
  intro i
  by_cases hi : i ∈ vs
  · have none_at : ∀ τ : L2.St, (wipe τ vs)[i]? = none ∨ (wipe τ vs)[i]? = some none := fun τ => by
      cases q : (wipe τ vs)[i]? with
      | none => exact .inl rfl
      | some o =>
        cases o with
        | none => exact .inr rfl
        | some x => exact absurd hi (wipe_some q).2
    by_cases hlt : i < σ.length
    · have h1 : i < (wipe σ vs).length := by rw [wipe_length]; exact hlt
      have h2 : i < (wipe (wipe σ vs) vs).length := by rw [wipe_length]; exact h1
      rcases none_at σ with a | a
      · rw [List.getElem?_eq_getElem h1] at a; cases a
      · rcases none_at (wipe σ vs) with b | b
        · rw [List.getElem?_eq_getElem h2] at b; cases b
        · rw [a, b]
    · rw [List.getElem?_eq_none (by rw [wipe_length, wipe_length]; omega), List.getElem?_eq_none (by rw [wipe_length]; omega)]
  · rw [wipe_get hi]
theorem wipeD_none {env : DEnv} {vs : List Nat} : ∀ i ∈ vs, ∀ x, (wipeD env vs)[i]? ≠ some (some x) := fun i hi x q => (wipeD_get q).2 hi

theorem sem_comp {vs : List Nat} {wi : TI} {mi : DI} {g : DG} {mc : DT} {me : DE} (hi : ISem X W wi mi) :
    ESem X W (tLc wi (tOfG X (notIn vs) g) (tOfT X (fun _ _ _ _ => False) mc) (tOfE X (fun _ _ _ _ => False) me) vs) (dComp vs mi g mc me) := fun O F σ H env Q st g0 => by
  refine hi O F σ H env _ st ?_
  unfold dComp at g0
  cases q : mi env with
  | bad => rw [q] at g0; exact g0.elim
  | err x e => rw [q] at g0; exact g0
  | ok xs env1 =>
    rw [q] at g0
    simp only [R.bind] at g0
    intro F1 H1 J E1 st1 wk Dl hD
    cases q2 : dLoop vs g mc me xs [] (wipeD env1 vs) with
    | bad => rw [q2] at g0; exact g0.elim
    | err x e => rw [q2] at g0; exact g0.elim
    | ok acc env2 =>
      rw [q2] at g0
      simp only [] at g0
      have smD : Same H1 (upd H1 Dl (.lst [])) := same_new hD
      have stD : StOk X.K O F1 (upd H1 Dl (.lst [])) σ env1 := st1.same smD
      have ED : Ext O F1 H1 F1 (upd H1 Dl (.lst [])) := Ext.same smD st1.odom
      have nF1 : ¬ F1 Dl := fun f => st1.fdom Dl f hD
      have nO : ¬ O Dl := fun f => st1.odom Dl f hD
      have nOw : ∀ i, ¬ OwnAt env1 σ i Dl := fun i ⟨m, d, h1, h2, h3⟩ => by
        obtain ⟨a, ws, _, _, e2, e3, _⟩ := st1.own i m d h1 h2
        rw [h3] at e2; cases e2
        rw [hD] at e3; cases e3
      -- within, the new list is another's
      let O' : Fz := fun a => O a ∨ a = Dl
      have stI : StOk X.K O' F1 (upd H1 Dl (.lst [])) (wipe σ vs) (wipeD env1 vs) := by
        have s2 := stD.wiped vs
        refine ⟨s2.len, s2.shr, fun i m d q n => ?_, s2.inj, s2.fdom, fun a h => ?_⟩
        · obtain ⟨a, ws, ds, h1, h2, h3, h4, h5, h6⟩ := s2.own i m d q n
          refine ⟨a, ws, ds, h1, h2, h3, h4, h5, fun z => ?_⟩
          rcases z with z | z
          · exact h6 z
          · subst z
            obtain ⟨q1, q2⟩ := wipeD_get q
            rw [wipe_get q2] at h2
            exact nOw i ⟨m, d, q1, n, h2⟩
        · rcases h with h | h
          · exact s2.odom a h
          · subst h; rw [upd_same]; exact nofun
      refine ⟨fun i m H' => ∃ F' env' accD accV, m = xs.length - i ∧ i ≤ xs.length ∧ Ext O F1 H1 F' H' ∧ StOk X.K O' F' H' (wipe σ vs) env' ∧ H' Dl = some (.lst accV) ∧ RepL X.K F' H' accD accV ∧ ¬ F' Dl ∧
          (∀ i ∈ vs, ∀ x, env'[i]? ≠ some (some x)) ∧ dLoop vs g mc me (xs.drop i) accD env' = .ok acc env2,
        ⟨xs.length, F1, wipeD env1 vs, [], [], by simp, Nat.zero_le _, ED, stI, upd_same, RepL.nil, nF1, wipeD_none, by rw [List.drop_zero]; exact q2⟩, ?_⟩
      rintro i m H' ⟨F', env', accD, accV, rfl, hi', E', st', hDl, rl, nF', nv, hl⟩
      obtain ⟨w1, w2⟩ := wk F' H' E' (st'.weak (O' := O) fun a h => .inl h).odom i
      cases hx : xs[i]? with
      | none =>
        left
        refine ⟨w2 hx, ?_⟩
        rw [List.drop_eq_nil_of_le (List.getElem?_eq_none_iff.mp hx)] at hl
        cases hl
        have sto := st'.weak (O' := O) fun a h => .inl h
        have sb := StOk.back st1 sto E' nv
        refine g0 F' H' (.ref Dl) (E1.trans E') sb ⟨Dl, accV, acc, rfl, rfl, hDl, rl, nF', nO, fun j ⟨m, d, h1, h2, h3⟩ => ?_⟩
        rcases backD_get h1 with ⟨q1, q2⟩ | ⟨q1, z, q2⟩
        · obtain ⟨a, ws, ds, _, k2, _, _, _, k6⟩ := st'.own j m d q2 h2
          rw [wipe_get q1, h3] at k2
          cases k2
          exact k6 (.inr rfl)
        · exact h2 z
      | some d =>
        right
        obtain ⟨go, yl⟩ := w1 d hx
        have hlt : i < xs.length := (List.getElem?_eq_some_iff.mp hx).1
        have hdrop : xs.drop i = d :: xs.drop (i + 1) := by
          rw [List.drop_eq_getElem_cons hlt]
          rw [List.getElem?_eq_getElem hlt] at hx
          rw [Option.some.inj hx]
        rw [hdrop] at hl
        unfold dLoop at hl
        refine ⟨go, fun H3 => ∃ F3 env3 accD accV, Ext O F1 H1 F3 H3 ∧ StOk X.K O' F3 H3 (wipe σ vs) env3 ∧ H3 Dl = some (.lst accV) ∧ RepL X.K F3 H3 accD accV ∧ ¬ F3 Dl ∧
            (∀ i ∈ vs, ∀ x, env3[i]? ≠ some (some x)) ∧ dLoop vs g mc me (xs.drop (i + 1)) accD env3 = .ok acc env2, ?_, fun x H2 hy => ?_⟩
        · rintro H3 ⟨F3, env3, aD, aV, E3, st3, h3, r3, n3, v3, l3⟩
          exact ⟨xs.length - (i + 1), by omega, F3, env3, aD, aV, rfl, hlt, E3, st3, h3, r3, n3, v3, l3⟩
        · obtain ⟨sm, rx⟩ := yl x H2 hy
          have E2 : Ext O' F' H' F' H2 := Ext.same sm st'.odom
          have st2 := st'.same sm
          cases q3 : g d env' with
          | none => rw [q3] at hl; cases hl
          | some env3 =>
            rw [q3] at hl
            simp only [] at hl
            refine ⟨O', F', env', d, env3, st2, rx, q3, fun σ2 s3 k3 => ?_⟩
            refine ⟨by rw [keeps_wipe k3, wipe_wipe], ?_⟩
            have hw2 : wipe σ2 vs = wipe σ vs := by rw [keeps_wipe k3, wipe_wipe]
            have hD2 : H2 Dl = some (.lst accV) := sm _ _ hDl
            have rl2 : RepL X.K F' H2 accD accV := repL_same sm rl
            refine ⟨O', F', env3, s3, ?_⟩
            cases q4 : mc env3 with
            | bad => rw [q4] at hl; cases hl
            | err x e => rw [q4] at hl; cases hl
            | ok b env4 =>
              rw [q4] at hl
              intro F4 H4 E4 s4
              have hD4 : H4 Dl = some (.lst accV) := (E4.out Dl (.inr rfl)).trans hD2
              have nF4 : ¬ F4 Dl := fun z => nF' (E4.outF Dl (.inr rfl) z)
              have EO : ∀ a, O a → O' a := fun a h => .inl h
              cases b with
              | false =>
                refine iteF ?_
                have s5 := s4.wiped vs
                rw [hw2] at s5
                exact ⟨F4, wipeD env4 vs, accD, accV, (E'.trans (E2.mono EO)).trans (E4.mono EO), s5, hD4, RepL.ext E4 accD accV rl2, nF4, wipeD_none, hl⟩
              | true =>
                refine iteT ?_
                refine ⟨O', F4, env4, s4, ?_⟩
                simp only [] at hl
                cases q5 : me env4 with
                | bad => rw [q5] at hl; cases hl
                | err x e => rw [q5] at hl; cases hl
                | ok r env5 =>
                  rw [q5] at hl
                  simp only [] at hl
                  intro F5 H5 v E5 s5 r5
                  split at hl
                  · rename_i hsz
                    obtain ⟨F6, E6, s6, r6⟩ := freeze s5 r5
                    have hD5 : H5 Dl = some (.lst accV) := (E5.out Dl (.inr rfl)).trans hD4
                    have nF6 : ¬ F6 Dl := fun z => nF4 (E5.outF Dl (.inr rfl) (E6.outF Dl (.inr rfl) z))
                    have rl6 : RepL X.K F6 H5 accD accV := RepL.ext (E4.trans (E5.trans E6)) accD accV rl2
                    have hlen : accV.length = accD.length := rl6.length
                    obtain ⟨s7, E7⟩ := s6.outw (ws := accV ++ [v]) (.inr rfl) nF6 hD5
                    have E7' := E7 O fun a h z => nO (z ▸ h)
                    have s8 := s7.wiped vs
                    rw [hw2] at s8
                    have rl8 : RepL X.K F6 (upd H5 Dl (.lst (accV ++ [v]))) (accD ++ [r.d]) (accV ++ [v]) := RepL.ext E7' _ _ (rl6.append (RepL.cons r6 RepL.nil))
                    refine ⟨accV, hD5, by rw [hlen]; exact hsz, F6, wipeD env5 vs, accD ++ [r.d], accV ++ [v], ?_, s8, upd_same, rl8, nF6, wipeD_none, hl⟩
                    exact (((E'.trans (E2.mono EO)).trans (E4.mono EO)).trans ((E5.trans E6).mono EO)).trans E7'
                  · cases hl
/-- the block's context -/
abbrev InBlk (X : Cx) (scope : Scope) (P : Cx → Prop) : Prop := ∀ (s : Shared) (H : Hp) (C : Addr) (cl : List (Str × Addr)) (fp : List Addr), P (X.blk s H scope (compEnvC scope cl C X.env) fp)
abbrev W0 : WX := fun _ _ _ _ => False
theorem e_comp {elt tg iter : Expr} {scope : Scope} {own : List (Str × Nat)} {vs : List Nat} {pos : Pos} {mi : DI} {g : DG} {me : DE} (hc : X.calm = true) (hN : X.N.Nodup) (ok : BlkOk X.N X.env.scope scope own) (hi : DIt X W tg iter mi)
    (hg : InBlk X scope fun Y => DTg Y (notIn vs) tg g) (he : InBlk X scope fun Y => DEv Y W0 elt me) (hs : ∀ x, foldedSetIterable iter X.env x = pure x := by intro _; rfl) (hvs : own.map (·.2) = vs := by rfl) :
    DEv X W (.ListComp elt [⟨tg, iter, [], 0⟩] scope pos) (dComp vs mi g dYes me) := by
  subst hvs
  obtain ⟨wi, p, s⟩ := hi
  refine ⟨_, pe_lc hc hN p ok (fun s H C cl fp => (hg s H C cl fp).pg) (tt := tOfT X W0 dYes) (fun s H C cl fp => ?_) (fun s H C cl fp => (he s H C cl fp).pe) hs, sem_comp s⟩
  exact ⟨fun pins s0 σ H' Q I ⟨O, F, env, st, g0⟩ => pts_nil.run pins s0 σ H' Q I (g0 F H' Ext.refl st)⟩
theorem e_compIf {elt tg iter cond : Expr} {scope : Scope} {own : List (Str × Nat)} {vs : List Nat} {pos : Pos} {mi : DI} {g : DG} {mc : DT} {me : DE} (hc : X.calm = true) (hN : X.N.Nodup) (ok : BlkOk X.N X.env.scope scope own) (hi : DIt X W tg iter mi)
    (hg : InBlk X scope fun Y => DTg Y (notIn vs) tg g) (ht : InBlk X scope fun Y => DTst Y W0 cond mc) (he : InBlk X scope fun Y => DEv Y W0 elt me) (hs : ∀ x, foldedSetIterable iter X.env x = pure x := by intro _; rfl) (hvs : own.map (·.2) = vs := by rfl) :
    DEv X W (.ListComp elt [⟨tg, iter, [cond], 0⟩] scope pos) (dComp vs mi g mc me) := by
  subst hvs
  obtain ⟨wi, p, s⟩ := hi
  exact ⟨_, pe_lc hc hN p ok (fun s H C cl fp => (hg s H C cl fp).pg) (fun s H C cl fp => pts_one (ht s H C cl fp).pt) (fun s H C cl fp => (he s H C cl fp).pe) hs, sem_comp s⟩
/-- name = [..] -/
theorem s_setComp (i : Nat) {y : Str} {py : Pos} {elt tg iter : Expr} {scope : Scope} {own : List (Str × Nat)} {vs : List Nat} {pos spos : Pos} {mi : DI} {g : DG} {me : DE} (hc : X.calm = true) (hN : X.N.Nodup) (ok : BlkOk X.N X.env.scope scope own) (hi : DIt X W tg iter mi)
    (hg : InBlk X scope fun Y => DTg Y (notIn vs) tg g) (he : InBlk X scope fun Y => DEv Y W0 elt me)
    (hsw : swapsWith (.ListComp elt [⟨tg, iter, [], 0⟩] scope pos) (some (.Name y py)) spos.line X.env = pure true)
    (hy : X.N[i]? = some y := by rfl) (hyl : X.env.scope.names.lookup y = some .local := by rfl) (hB : B i = false := by rfl) (hs : ∀ x, foldedSetIterable iter X.env x = pure x := by intro _; rfl) (hvs : own.map (·.2) = vs := by rfl) :
    DSt X W B (.Assign [.Name y py] (.ListComp elt [⟨tg, iter, [], 0⟩] scope pos) spos) (dSet i (dComp vs mi g dYes me)) := by
  subst hvs
  obtain ⟨wi, p, s⟩ := hi
  refine ⟨_, ps_setLc hc hN hy hyl hsw p ok (fun s H C cl fp => (hg s H C cl fp).pg) (tt := tOfT X W0 dYes) (fun s H C cl fp => ?_) (fun s H C cl fp => (he s H C cl fp).pe) hs, sem_set (sem_comp s) hB⟩
  exact ⟨fun pins s0 σ H' Q I ⟨O, F, env, st, g0⟩ => pts_nil.run pins s0 σ H' Q I (g0 F H' Ext.refl st)⟩
theorem s_setCompIf (i : Nat) {y : Str} {py : Pos} {elt tg iter cond : Expr} {scope : Scope} {own : List (Str × Nat)} {vs : List Nat} {pos spos : Pos} {mi : DI} {g : DG} {mc : DT} {me : DE} (hc : X.calm = true) (hN : X.N.Nodup) (ok : BlkOk X.N X.env.scope scope own) (hi : DIt X W tg iter mi)
    (hg : InBlk X scope fun Y => DTg Y (notIn vs) tg g) (ht : InBlk X scope fun Y => DTst Y W0 cond mc) (he : InBlk X scope fun Y => DEv Y W0 elt me)
    (hsw : swapsWith (.ListComp elt [⟨tg, iter, [cond], 0⟩] scope pos) (some (.Name y py)) spos.line X.env = pure true)
    (hy : X.N[i]? = some y := by rfl) (hyl : X.env.scope.names.lookup y = some .local := by rfl) (hB : B i = false := by rfl) (hs : ∀ x, foldedSetIterable iter X.env x = pure x := by intro _; rfl) (hvs : own.map (·.2) = vs := by rfl) :
    DSt X W B (.Assign [.Name y py] (.ListComp elt [⟨tg, iter, [cond], 0⟩] scope pos) spos) (dSet i (dComp vs mi g mc me)) := by
  subst hvs
  obtain ⟨wi, p, s⟩ := hi
  exact ⟨_, ps_setLc hc hN hy hyl hsw p ok (fun s H C cl fp => (hg s H C cl fp).pg) (fun s H C cl fp => pts_one (ht s H C cl fp).pt) (fun s H C cl fp => (he s H C cl fp).pe) hs, sem_set (sem_comp s) hB⟩
end
end DL
/-! DLG: the layer's promises where it is known besides that nothing is being written out (repr) around. -/
namespace DL
open PySem PySem.Spec PyProof.Rows L2

structure GRoom (k : Nat) (A : Around) : Prop where
  room : Room k A
  gd : A.guards = some []
theorem GRoom.mono {j k : Nat} {A : Around} (r : GRoom k A) (h : j ≤ k) : GRoom j A := ⟨r.room.mono h, r.gd⟩
theorem GRoom.deeper {k : Nat} {A : Around} (r : GRoom (k + 1) A) (env : Env) : GRoom k (A.deeper env) := ⟨r.room.deeper env, r.gd⟩

/-- a def of the text, with defaults or none -/
structure FunV (K : PySem.W.Frag) (x qual : Str) (st : Stmt) (f : Addr) (fd : FuncData) : Prop where
  ex : ∃ (oc : Value) (od : Option Addr) (dV kV doc pm : Value) (an : Option Addr) (cdv ct : Value) (osl : Array (Option Value)),
    fd = PySem.W.fnOf x qual (defArgs st) (defBody st) (defScope st) dV kV doc pm an cdv ct ∧ K.lookup f = some ⟨oc, od, .func fd, osl⟩ ∧ PySem.W.codeIn K cdv qual = true
  kp : PySem.W.keepIn K (.ref f) = true
theorem L2Fun.v {K : PySem.W.Frag} {x qual : Str} {st : Stmt} {f : Addr} {fd : FuncData} (F : Fun K x qual st f fd) : FunV K x qual st f fd := by
  obtain ⟨oc, od, kV, doc, pm, an, cdv, ct, osl, e, lk, hcd⟩ := F.ex
  exact ⟨⟨oc, od, .none, kV, doc, pm, an, cdv, ct, osl, e, lk, hcd⟩, F.kp⟩
theorem funv_mk {K : PySem.W.Frag} {x qual : Str} {st : Stmt} {f : Addr} {oc : Value} {od an : Option Addr} {osl : Array (Option Value)} {dV kV doc pm cdv ct : Value} (l : K.lookup f = some ⟨oc, od, .func (PySem.W.fnOf x qual (defArgs st) (defBody st) (defScope st) dV kV doc pm an cdv ct), osl⟩)
    (c : PySem.W.codeIn K cdv qual = true) (k : PySem.W.keepIn K (.ref f) = true) : FunV K x qual st f (PySem.W.fnOf x qual (defArgs st) (defBody st) (defScope st) dV kV doc pm an cdv ct) := ⟨⟨oc, od, dV, kV, doc, pm, an, cdv, ct, osl, rfl, l, c⟩, k⟩
theorem FunV.binds {K : PySem.W.Frag} {x qual : Str} {st : Stmt} {f : Addr} {fd : FuncData} {ps : List Str} (F : FunV K x qual st f fd)
    (h : ∀ (dV kV doc pm : Value) (an : Option Addr) (cdv ct : Value) (us : List Value), us.length = ps.length → bindArgs (PySem.W.fnOf x qual (defArgs st) (defBody st) (defScope st) dV kV doc pm an cdv ct) ⟨us, []⟩ = pure (ps.zip us)) : Binds K fd ps [] := by
  obtain ⟨oc, od, dV, kV, doc, pm, an, cdv, ct, osl, rfl, lk, hcd⟩ := F.ex
  exact .all (h dV kV doc pm an cdv ct)
/-- a def with defaults, all its arguments written -/
theorem bindsF {K : PySem.W.Frag} {x qual : Str} {st : Stmt} {T : Addr} {o : Obj} {its : Array Value} {n : Nat} {kV doc pm : Value} {an : Option Addr} {cdv ct : Value} {ps : List Str} (lT : K.lookup T = some o) (oT : o.data = .seq its n)
    (h : ∀ us : List Value, us.length = ps.length → ∃ k, bindArgs (PySem.W.fnOf x qual (defArgs st) (defBody st) (defScope st) (.ref T) kV doc pm an cdv ct) ⟨us, []⟩ = seqItems? (.ref T) >>= k ∧ k (some its) = pure (ps.zip us)) : Binds K (PySem.W.fnOf x qual (defArgs st) (defBody st) (defScope st) (.ref T) kV doc pm an cdv ct) ps [] := fun s us X hlen => by
  rw [List.append_nil] at hlen
  obtain ⟨k, e1, e2⟩ := h us hlen
  refine BindsTo.of_looks fun M => ?_
  rw [e1, List.append_nil]
  exact looks_items X lT oT (.of_pure e2)
/-- a def keeps a promise, called where nothing is being written out -/
structure GOk (P : Program) (w : World) (K : PySem.W.Frag) (mg : Str → Option Value) (base : Heap) (k : Nat) (f : Addr) (fd : FuncData) (ps : List Str) (sp : Sp) : Prop where
  len : ∀ vs H Q E, sp vs H Q E → vs.length = ps.length
  run : ∀ (A : Around) (outer : List Env) (s : Shared) (H : Hp) (args : Args) (us : List Value) (vs : List V) (Q : VK) (E : XK), GRoom k A → Env0 P w K mg base A outer s H → BindsTo s fd args (ps.zip us) → Vals vs us → sp vs H Q E →
    codeAny (model P w) A (.call (.ref f) args) (CR (L2.CX P w) outer P w H s Q E) s
section
variable {P : Program} {w : World} {K : PySem.W.Frag} {mg : Str → Option Value} {base : Heap}
theorem GOk.mono {j k : Nat} {f : Addr} {fd : FuncData} {ps : List Str} {sp : Sp} (F : GOk P w K mg base j f fd ps sp) (h : j ≤ k) : GOk P w K mg base k f fd ps sp :=
  ⟨F.len, fun A outer s H args us vs Q E hr => F.run A outer s H args us vs Q E (hr.mono h)⟩
/-- by the body -/
theorem GOk.of {x qual : Str} {st : Stmt} {f : Addr} {fd : FuncData} {N ps : List Str} {k : Nat} {sp : Sp} (Fn : FunV K x qual st f fd) (S : FnScope N ps (defScope st)) (len : ∀ vs H Q E, sp vs H Q E → vs.length = ps.length)
    (hbody : ∀ (cdv : Value) (A : Around) (outer : List Env) (s : Shared) (H : Hp) (vs : List V) (Q : VK) (E : XK), GRoom k (A.deeper (envOfC qual (defScope st) s.heap.objs.size f cdv)) → sp vs H Q E →
      ∃ t, PSs (cxOf (L2.CX P w) P w K mg base N qual (defScope st) f cdv A outer s H E) (defBody st) t ∧ t { nx := fun _ H' => Q .non H', rt := Q } (L2.start N vs) H) : GOk P w K mg base (k + 1) f fd ps sp := by
  obtain ⟨oc, od, dV, kV, doc, pm, an, cdv, ct, osl, rfl, lk, hcd⟩ := Fn.ex
  refine ⟨len, fun A outer s H args us vs Q E hr e0 hb r hsp => ?_⟩
  have keep : ∀ b o, base.get? b = some o → s.heap.get? b = some o := fun b o e => (e0.bs b o e).1
  have KX : K.In s.heap := e0.mod.kin.keeps keep
  refine codeAny_call_function hr.room.depth (KX _ _ lk) rfl S.co S.gen rfl (PySem.W.codeRec_of KX hcd) (hb _ _ _ _ ?_)
  refine wpAny_newFunctionEnv_cells S.kind (fun ⟨n, v⟩ hy => ?_) fun env he s1 x => ?_
  · have hn := S.par n (List.of_mem_zip hy).1
    exact hn.imp id fun q => ⟨q, PySem.W.cellsFrom_some _ _ _ (.inl q)⟩
  · subst he
    refine ⟨(e0.mod.nolimit.keeps keep).keeps x.toInCall.keep, codeAny_func ?_⟩
    obtain ⟨t, ht, hq⟩ := hbody cdv A outer s H vs Q E (hr.deeper _) hsp
    have I := inv_start (CX := L2.CX P w) (E := E) S hr.room.hd e0 (len _ _ _ _ hsp) r x
    refine wpAny_mono (ht.run [] s1 (L2.start N vs) H _ I hq) (fun fl s' hs => ?_) fun e s' hs => hs
    cases fl with
    | ret u => exact let ⟨v, _, H', J, rv, q⟩ := hs; ⟨v, H', J.os, J.bare, J.base, J.hok, rv, q⟩
    | next => exact let ⟨_, H', J, q⟩ := hs; ⟨V.non, H', J.os, J.bare, J.base, J.hok, rfl, q⟩
    | brk => exact let ⟨_, _, _, q⟩ := hs; q.elim
    | cont => exact let ⟨_, _, _, q⟩ := hs; q.elim
end

section
variable {X : Cx} {W : WX}
/-- the callee runs; what it lets out is taken as W says -/
theorem g_run {k : Nat} {f : Addr} {fd : FuncData} {ps : List Str} {sp : Sp} {pins : List (Addr × Obj)} {σ : L2.St} {H : Hp} {s : Shared} {Q : VK} {us : List Value} {vs : List V} {args : Args} (F : GOk X.prog X.w X.K X.mg X.base k f fd ps sp) (hr : GRoom k X.A) (tk : Takes X W)
    (I : L2.Inv X pins σ H s) (hb : BindsTo s fd args (ps.zip us)) (r : Vals vs us) (h : sp vs H Q (WE W σ)) : codeAny (model X.prog X.w) X.A (.call (.ref f) args) (fun res s' => match res with
      | .ok (.ret u) => EP X pins σ Q u s'
      | .ok _ => False
      | .error e => X.xe e s') s := by
  refine codeAny_mono (F.run X.A X.stack s H args us vs Q (WE W σ) hr I.env0 hb r h) fun res s' hq => ?_
  match res, hq with
  | .error e, hq => exact passAt tk σ pins H s e s' I hq
  | .ok (.ret u), hq => exact I.after hq
end

/-! ### the law's own call -/

section
open Classical in
/-- the abstract heap at the law's entry: the script, where the module does not hold it -/
noncomputable def lawH (K : PySem.W.Frag) (a : Addr) (ob : Obj) (ns : List Int) : Hp := fun b => if b = a ∧ K.lookup a = none then some (.frz ob (.lst (ns.map V.int))) else none
theorem lawH_some {K : PySem.W.Frag} {a b : Addr} {ob : Obj} {ns : List Int} {u : HO} (h : lawH K a ob ns b = some u) : b = a ∧ K.lookup a = none ∧ u = .frz ob (.lst (ns.map V.int)) := by
  unfold lawH at h
  split at h
  · rename_i z
    cases h
    exact ⟨z.1, z.2, rfl⟩
  · cases h
theorem g_law {P : Program} {w : World} {K : PySem.W.Frag} {mg mb : Str → Option Value} {k : Nat} {fa a : Addr} {fd : FuncData} {x : Str} {sp : Sp} {s₁ : Shared} {vs : List Value} {ns : List Int}
    (KX : K.In s₁.heap) (hns : s₁.heap.Ns mainGlobals mg) (hb : s₁.heap.Ns builtinsNs mb) (hbb : ∀ x : Str, x ≠ "__name__" → mb x = bootBuiltins x) (hlim : s₁.heap.NoLimit) (hg : s₁.gens = #[])
    (ha : s₁.heap.get? a = some { cls := .type "list", data := .seq vs.toArray }) (hi : IntsAre vs ns) (hl : ns.length ≤ sizeLine) (hr : Room k callerA)
    (F : ∀ base : Heap, K.In base → base.Ns mainGlobals mg → GOk P w K mg base k fa fd [x] sp) (hbind : ∀ (s : Shared) (u : Value), BindsTo s fd ⟨[u], []⟩ [(x, u)])
    (hsp : ∀ H : Hp, SqF K H a (ns.map V.int) → sp [.ref a] H (fun v _ => v = .bl true) fun _ _ _ => False) :
    codeAny (model P w) callerA (.call (.ref fa) ⟨[.ref a], []⟩) (fun r s' => r = .ok (.ret (.bool true)) ∧ OldK s₁.heap s'.heap ∧ s'.os = s₁.os ∧ AllBare s'.gens) s₁ := by
  have rv := vals_ints hi
  have lenV := hi.length
  let ob : Obj := { cls := .type "list", data := .seq vs.toArray }
  let H := lawH K a ob ns
  have hS : SqF K H a (ns.map V.int) := by
    cases q : K.lookup a with
    | none => exact .inl ⟨ob, if_pos ⟨rfl, q⟩⟩
    | some o =>
      have e := KX a o q
      rw [ha] at e
      cases e
      exact .inr ⟨_, vs.toArray, _, q, rfl, rfl, rfl, by rw [List.size_toArray, lenV]; exact hl, by simpa using rv⟩
  have hok : HOk P w H s₁.heap := fun b u e => by
    obtain ⟨rfl, _, rfl⟩ := lawH_some e
    exact ⟨ha, by rw [List.length_map]; exact hl, vs, _, rv, ha⟩
  -- what isn't the script's list is not tracked
  have free : ∀ {b : Addr} {o : Obj}, s₁.heap.get? b = some o → (∀ its n, o.data ≠ .seq its n) → H b = none := fun {b o} e d => by
    cases q : H b with
    | none => rfl
    | some u =>
      obtain ⟨rfl, _, _⟩ := lawH_some q
      rw [ha] at e
      cases e
      exact absurd rfl (d _ _)
  have ns' : ∀ {b : Addr} {m : Str → Option Value}, s₁.heap.Ns b m → (hidT s₁.heap H).Ns b m := fun {b m} ⟨o, es, ep, e, d, r⟩ => ⟨o, es, ep, hidT_get e (free e fun _ _ z => by rw [d] at z; cases z), d, r⟩
  have kin : K.In (hidT s₁.heap H) := fun b o e => hidT_get (KX b o e) (by
    cases q : H b with
    | none => rfl
    | some u =>
      obtain ⟨rfl, z, _⟩ := lawH_some q
      rw [z] at e
      cases e)
  obtain ⟨mc, l1, l2⟩ := hlim
  have e0 : Env0 P w K mg (hidT s₁.heap H) callerA [] s₁ H := ⟨rfl, ⟨kin, ns' hns, ⟨mb, ns' hb, hbb⟩, ⟨mc, ns' l1, l2⟩⟩, fun b o e => of_hidT e, Nat.le_of_eq (hidT_size _ _), trivial, fun b hb => (List.not_mem_nil hb).elim, hok, .of_eq hg⟩
  refine codeAny_mono ((F _ kin (ns' hns)).run callerA [] s₁ H ⟨[.ref a], []⟩ [.ref a] [.ref a] _ _ ⟨hr, rfl⟩ e0 (hbind s₁ (.ref a)) (.cons rfl .nil) (hsp H hS)) fun r s' h => ?_
  match r, h with
  | .error e, h =>
    obtain ⟨_, _, _, _, _, _, _, _, _, _, _, _, z⟩ := h
    exact z.elim
  | .ok (.ret u), h =>
    obtain ⟨v, H', os, bare, un, hok', r', q⟩ := h
    have q' : v = .bl true := q
    subst q'
    obtain rfl : u = Value.bool true := r'
    refine ⟨rfl, OldK.of_keep fun b o e => ?_, os, bare⟩
    cases q : H b with
    | none => exact un.keep b o e q List.not_mem_nil List.not_mem_nil
    | some u =>
      obtain ⟨rfl, z, rfl⟩ := lawH_some q
      obtain ⟨e2, _⟩ := hok' b _ (un.frzs b ob _ q)
      rw [ha] at e
      cases e
      exact e2
/-- the goal that k_head leaves, from the law's promise -/
theorem g_walk {l : PySem.W.OpenLaw} {n k : Nat} {q : Program} {loose : List Str} {XP : (Str → Option Value) → Heap → Prop} {YP : World → Heap → Prop} {d : DefRec} {K : Params → PySem.W.Frag} {sp : PySem.W.Frag → (Str → Option Value) → Sp} {x : Str}
    (hn : l.most = some n) (hn2 : n ≤ sizeLine) (hdf : d.params.defaults = []) (hr : Room k callerA)
    (hY : ∀ (w : World) (h : Heap), YP w h → (K w.params).In h)
    (F : ∀ (w : World) (mg : Str → Option Value) (fa : Addr) (h : Heap), (K w.params).In h → h.Ns mainGlobals mg → mg d.name = some (.ref fa) →
      ∃ fd : FuncData, (∀ (s : Shared) (u : Value), BindsTo s fd ⟨[u], []⟩ [(x, u)]) ∧
        ∀ base : Heap, (K w.params).In base → base.Ns mainGlobals mg → GOk l.prog w (K w.params) mg base k fa fd [x] (sp (K w.params) mg))
    (hsp : ∀ (K : PySem.W.Frag) (mg : Str → Option Value) (H : Hp) (a : Addr) (ns : List Int), ns.length ≤ n → SqF K H a (ns.map V.int) → sp K mg [.ref a] H (fun v _ => v = .bl true) fun _ _ _ => False) :
    PySem.W.WalkO q loose XP YP l.row.toRowW d [] (fun f vs => PySem.call f vs) := by
  refine Att.attach_call hn hdf fun w s₀ s₁ mg mb fa o pm cd doc a vs ns G Y ho hd hcd hmg hobj hints hlen hg => ?_
  have KX := hY w _ Y
  obtain ⟨fd, hb, hF⟩ := F w mg fa _ KX G.T.g hmg
  exact g_law KX G.T.g G.T.b G.T.builtins G.T.nolimit hg hobj hints (Nat.le_trans hlen hn2) hr hF hb fun H hS => hsp _ _ H a ns hlen hS
end
end DL
/-! DL6: defs and their calls. -/
namespace DL
open PySem PySem.Spec PyProof.Rows L2

/-! ### what a def is worth: br: its first argument is a list that it may change, and hands back changed -/
inductive FR where
  | ok (r : Ent) (o : D) | err (x : Xc) (o : D) | bad
abbrev DFn := List Ent → FR
def outEnv (br : Bool) (o : D) : DEnv := if br = true then [some ⟨.own, o⟩] else []
def outSt (br : Bool) (vs : List V) : L2.St := if br = true then (vs.take 1).map some else []
def FPost (K : PySem.W.Frag) (mg : Str → Option Value) (br : Bool) (O F : Fz) (H : Hp) (vs : List V) (Q : VK) (E : XK) : FR → Prop
  | .ok r o => ∀ F' H' v, Ext O F H F' H' → StOk K O F' H' (outSt br vs) (outEnv br o) → REnt K O F' H' (outSt br vs) (outEnv br o) r v → Q v H'
  | .err x o => ∀ F' H' cls d, Ext O F H F' H' → StOk K O F' H' (outSt br vs) (outEnv br o) → ExcRep mg F' H' x cls d → E cls d H'
  | .bad => False
/-- the promise -/
def spD (K : PySem.W.Frag) (mg : Str → Option Value) (br : Bool) (n : Nat) (f : DFn) : Sp := fun vs H Q E => ∃ O F args, args.length = n ∧ StOk K O F H (vs.map some) (args.map some) ∧ FPost K mg br O F H vs Q E (f args)
def outOf (br : Bool) (env : DEnv) : Option D := if br = true then (match (env[0]? : Option (Option Ent)) with
  | some (some (Ent.mk Md.own d)) => some d
  | _ => none) else some .non
def dDef (br : Bool) (n ns : Nat) (body : DS) : DFn := fun args => if args.length = n then (match body (args.map some ++ List.replicate (ns - n) none) with
  | .ok (.ret e) env => (match outOf br env with
    | some o => .ok e o
    | none => .bad)
  | .ok .nx env => (match outOf br env with
    | some o => .ok ⟨.shr, .non⟩ o
    | none => .bad)
  | .err x env => (match outOf br env with
    | some o => .err x o
    | none => .bad)
  | _ => .bad) else .bad
def BDef (br : Bool) : Bs := fun i => br && i == 0
abbrev WDef (E : XK) : WX := fun cls d _ H => E cls d H
section
variable {K : PySem.W.Frag} {O F F' : Fz} {H H' : Hp} {σ : L2.St} {env : DEnv}
theorem stOk_nil (s : StOk K O F H σ env) : StOk K O F H [] [] :=
  ⟨rfl, fun i d q => (by simp at q), fun i m d q _ => (by simp at q), fun i j a ⟨m, d, q, _⟩ => (by simp at q), s.fdom, s.odom⟩
/-- slots without a value beside -/
theorem stOk_start (s : StOk K O F H σ env) (n : Nat) : StOk K O F H (σ ++ List.replicate n none) (env ++ List.replicate n none) := by
  have g : ∀ {i : Nat} {x : Ent}, (env ++ List.replicate n none)[i]? = some (some x) → env[i]? = some (some x) := fun {i x} q => by
    by_cases h : i < env.length
    · rw [List.getElem?_append_left h] at q; exact q
    · rw [List.getElem?_append_right (by omega)] at q
      rw [List.getElem?_replicate] at q
      split at q <;> cases q
  have l : ∀ {i : Nat} {x : Ent} (_ : env[i]? = some (some x)), (σ ++ List.replicate n none)[i]? = σ[i]? := fun {i x} q => by
    have : i < env.length := (List.getElem?_eq_some_iff.mp q).1
    exact List.getElem?_append_left (by rw [s.len]; exact this)
  refine ⟨by rw [List.length_append, List.length_append, s.len, List.length_replicate, List.length_replicate], fun i d q => ?_, fun i m d q hm => ?_, fun i j a ⟨m, d, h1, h2, h3⟩ ⟨m', d', k1, k2, k3⟩ => ?_, s.fdom, s.odom⟩
  · obtain ⟨v, h1, h2⟩ := s.shr i d (g q)
    exact ⟨v, by rw [l (g q)]; exact h1, h2⟩
  · obtain ⟨a, vs, ds, h1, h2, h3⟩ := s.own i m d (g q) hm
    exact ⟨a, vs, ds, h1, by rw [l (g q)]; exact h2, h3⟩
  · exact s.inj i j a ⟨m, d, g h1, h2, by rw [← l (g h1)]; exact h3⟩ ⟨m', d', g k1, k2, by rw [← l (g k1)]; exact k3⟩
/-- at the end: what the first name owns -/
theorem stOk_out {br : Bool} {vs : List V} {o : D} {σ0 : L2.St} (s : StOk K O F H σ env) (k : Keeps (BDef br) σ0 σ) (h0 : br = true → σ0[0]? = (vs.map some)[0]?) (ho : outOf br env = some o) : StOk K O F H (outSt br vs) (outEnv br o) := by
  cases br with
  | false => exact stOk_nil s
  | true =>
    simp only [outOf, if_true] at ho
    split at ho
    · rename_i d hd
      cases ho
      obtain ⟨a, ws, ds, h1, h2, h3, h4, h5, h6⟩ := s.own 0 .own o hd nofun
      have hv : (vs.map some)[0]? = some (some (V.ref a)) := by rw [← h0 rfl, ← k.2 0 rfl]; exact h2
      cases vs with
      | nil => cases hv
      | cons v vs =>
        have hv' : v = V.ref a := by simpa using hv
        subst hv'
        refine ⟨rfl, fun i d q => ?_, fun i m d q hm => ?_, fun i j b ⟨m, d, q1, _, _⟩ ⟨m', d', q2, _, _⟩ => ?_, s.fdom, s.odom⟩
        · cases i with
          | zero => simp [outEnv] at q
          | succ i => simp [outEnv] at q
        · cases i with
          | zero =>
            simp [outEnv] at q
            obtain ⟨rfl, rfl⟩ := q
            exact ⟨a, ws, ds, h1, rfl, h3, h4, h5, h6⟩
          | succ i => simp [outEnv] at q
        · have z : ∀ {i : Nat} {x : Ent}, (outEnv true o)[i]? = some (some x) → i = 0 := fun {i x} q => by
            cases i with
            | zero => rfl
            | succ i => simp [outEnv] at q
          rw [z q1, z q2]
    · cases ho
theorem rent_out {br : Bool} {vs : List V} {o : D} {σ0 : L2.St} {e : Ent} {v : V} (s : StOk K O F H σ env) (k : Keeps (BDef br) σ0 σ) (h0 : br = true → σ0[0]? = (vs.map some)[0]?) (ho : outOf br env = some o) (r : REnt K O F H σ env e v) : REnt K O F H (outSt br vs) (outEnv br o) e v := by
  have own : (∃ a vs ds, e.d = D.lst ds ∧ v = .ref a ∧ H a = some (.lst vs) ∧ RepL K F H ds vs ∧ ¬ F a ∧ ¬ O a ∧ ∀ i, ¬ OwnAt env σ i a) → ∃ a ws ds, e.d = D.lst ds ∧ v = .ref a ∧ H a = some (.lst ws) ∧ RepL K F H ds ws ∧ ¬ F a ∧ ¬ O a ∧ ∀ i, ¬ OwnAt (outEnv br o) (outSt br vs) i a := fun ⟨a, ws, ds, e1, e2, h, rl, nF, nO, nW⟩ => by
    refine ⟨a, ws, ds, e1, e2, h, rl, nF, nO, fun i ⟨m, d, q1, q2, q3⟩ => ?_⟩
    cases br with
    | false => simp [outEnv] at q1
    | true =>
      cases i with
      | succ i => simp [outEnv] at q1
      | zero =>
        simp only [outOf, if_true] at ho
        split at ho
        · rename_i d' hd
          cases ho
          refine nW 0 ⟨.own, o, hd, nofun, ?_⟩
          rw [k.2 0 rfl, h0 rfl]
          cases vs with
          | nil => simp [outSt] at q3
          | cons v vs => simpa [outSt] using q3
        · cases ho
  obtain ⟨m, d⟩ := e
  cases m with
  | shr => exact r
  | own => exact own r
  | bor => exact own r
end

/-- THE RULE for a def: its body's worth -/
theorem def_ok {P : Program} {w : World} {K : PySem.W.Frag} {mg : Str → Option Value} {base : Heap} {name qual : Str} {st : Stmt} {f : Addr} {fd : FuncData} {N ps : List Str} {k : Nat} {br : Bool} {m : DS} (Fn : FunV K name qual st f fd) (S : FnScope N ps (defScope st)) (hbr : br = true → 0 < ps.length)
    (hbody : ∀ (cdv : Value) (A : Around) (outer : List Env) (s : Shared) (H : Hp) (E : XK), GRoom k (A.deeper (envOfC qual (defScope st) s.heap.objs.size f cdv)) →
      DSs (cxOf (L2.CX P w) P w K mg base N qual (defScope st) f cdv A outer s H E) (WDef E) (BDef br) (defBody st) m) :
    GOk P w K mg base (k + 1) f fd ps (spD K mg br ps.length (dDef br ps.length N.length m)) := by
  refine GOk.of Fn S (fun vs H Q E h => ?_) fun cdv A outer s H vs Q E hr h => ?_
  · obtain ⟨O, F, args, hl, st, _⟩ := h
    have := st.len
    rw [List.length_map, List.length_map, hl] at this
    exact this
  · obtain ⟨O, F, args, hl, st, post⟩ := h
    obtain ⟨t, p, sem⟩ := hbody cdv A outer s H E hr
    refine ⟨t, p, ?_⟩
    have lv : vs.length = ps.length := by
      have := st.len
      rw [List.length_map, List.length_map, hl] at this
      exact this
    have st0 := stOk_start st (N.length - ps.length)
    have e0 : L2.start N vs = vs.map some ++ List.replicate (N.length - ps.length) none := by unfold L2.start; rw [lv]
    rw [e0]
    have h0 : br = true → (vs.map some ++ List.replicate (N.length - ps.length) (none : Option V))[0]? = (vs.map some)[0]? := fun z => by
      cases vs with
      | nil =>
        have := hbr z
        rw [← lv] at this
        exact absurd this (Nat.lt_irrefl 0)
      | cons v vs => rfl
    refine sem O F _ H _ _ st0 ?_
    unfold dDef at post
    rw [if_pos hl] at post
    cases q : m (args.map some ++ List.replicate (N.length - ps.length) none) with
    | bad => rw [q] at post; exact post.elim
    | err x env =>
      rw [q] at post
      simp only [] at post
      cases ho : outOf br env with
      | none => rw [ho] at post; exact post.elim
      | some o =>
        rw [ho] at post
        exact fun F' H' σ' cls d E' s' k' r => post F' H' cls d E' (stOk_out s' k' h0 ho) r
    | ok fl env =>
      rw [q] at post
      cases fl with
      | brk => exact post.elim
      | cnt => exact post.elim
      | nx =>
        simp only [] at post
        cases ho : outOf br env with
        | none => rw [ho] at post; exact post.elim
        | some o =>
          rw [ho] at post
          exact fun F' H' σ' E' s' k' => post F' H' .non E' (stOk_out s' k' h0 ho) rfl
      | ret e =>
        simp only [] at post
        cases ho : outOf br env with
        | none => rw [ho] at post; exact post.elim
        | some o =>
          rw [ho] at post
          exact fun F' H' σ' v E' s' k' r => post F' H' v E' (stOk_out s' k' h0 ho) (rent_out s' k' h0 ho r)

theorem lenO : ∀ {os : List Opd} {avs : List AV} {env env1 : DEnv}, evOs os env = .ok avs env1 → avs.length = os.length
  | [], _, _, _, h => by cases h; rfl
  | .v m :: os, avs, env, env1, h => by
    unfold evOs at h
    cases q : m env with
    | bad => rw [q] at h; cases h
    | err x e => rw [q] at h; cases h
    | ok r e1 =>
      rw [q] at h
      simp only [R.bind] at h
      cases q2 : evOs os e1 with
      | bad => rw [q2] at h; cases h
      | err x e => rw [q2] at h; cases h
      | ok as e2 =>
        rw [q2] at h
        cases h
        rw [List.length_cons, List.length_cons, lenO q2]
  | .s i :: os, avs, env, env1, h => by
    unfold evOs at h
    split at h
    · cases q2 : evOs os env with
      | bad => rw [q2] at h; cases h
      | err x e => rw [q2] at h; cases h
      | ok as e2 =>
        rw [q2] at h
        cases h
        rw [List.length_cons, List.length_cons, lenO q2]
    · cases h
theorem lenG : ∀ {avs : List AV} {env : DEnv} {ds : List D}, getAVs env avs = some ds → ds.length = avs.length
  | [], _, _, h => by cases h; rfl
  | a :: as, env, ds, h => by
    unfold getAVs at h
    cases q : getAV env a with
    | none => rw [q] at h; cases h
    | some d =>
      cases q2 : getAVs env as with
      | none => rw [q, q2] at h; cases h
      | some es =>
        rw [q, q2] at h
        cases h
        rw [List.length_cons, List.length_cons, lenG q2]
theorem lenAV {os : List Opd} {avs : List AV} {env env1 : DEnv} {ds : List D} (h : evOs os env = .ok avs env1) (g : getAVs env1 avs = some ds) : ds.length = os.length := (lenG g).trans (lenO h)
/-! ### calls -/
@[simp] def shrs (ds : List D) : List Ent := ds.map fun d => ⟨.shr, d⟩
def afterC (env : DEnv) : FR → R Ent
  | .ok r _ => .ok r env
  | .err x _ => .err x env
  | .bad => .bad
def dCall (f : DFn) (os : List Opd) : DE := fun env => (evOs os env).bind fun avs env1 => match getAVs env1 avs with
  | some ds => afterC env1 (f (shrs ds))
  | none => .bad
def afterR (env : DEnv) (i : Nat) : FR → R Ent
  | .ok r o => .ok r (env.set i (some ⟨.own, o⟩))
  | .err x o => .err x (env.set i (some ⟨.own, o⟩))
  | .bad => .bad
/-- the first argument is the list that the i-th name owns: it comes back changed -/
def dCallR (f : DFn) (i : Nat) (os : List Opd) : DE := fun env => match (env[i]? : Option (Option Ent)) with
  | some (some (Ent.mk Md.own _)) => (evOs os env).bind fun avs env1 => match getAVs env1 avs, (env1[i]? : Option (Option Ent)) with
    | some ds, some (some (Ent.mk Md.own d)) => afterR env1 i (f (⟨.own, d⟩ :: shrs ds))
    | _, _ => .bad
  | _ => .bad
/-- what a caller's names own, but the i-th -/
def Oc (O : Fz) (env : DEnv) (σ : L2.St) (p : Nat → Prop) : Fz := fun a => O a ∨ ∃ j, p j ∧ OwnAt env σ j a
section
variable {K : PySem.W.Frag} {O F F' : Fz} {H H' : Hp} {σ : L2.St} {env : DEnv} {p : Nat → Prop}
theorem oc_dom (s : StOk K O F H σ env) : ∀ a, Oc O env σ p a → H a ≠ none := fun a h => by
  rcases h with h | ⟨j, _, m, d, q1, q2, q3⟩
  · exact s.odom a h
  · obtain ⟨b, vs, ds, _, e2, e3, _⟩ := s.own j m d q1 q2
    rw [q3] at e2; cases e2
    rw [e3]; exact nofun
theorem oc_nF (s : StOk K O F H σ env) {a : Addr} (h : ∃ j, p j ∧ OwnAt env σ j a) : ¬ F a := by
  obtain ⟨j, _, m, d, q1, q2, q3⟩ := h
  obtain ⟨b, vs, ds, _, e2, _, _, e5, _⟩ := s.own j m d q1 q2
  rw [q3] at e2; cases e2
  exact e5
theorem shrs_get {ds : List D} {i : Nat} {e : Ent} (h : ((shrs ds).map some)[i]? = some (some e)) : ∃ d, ds[i]? = some d ∧ e = ⟨.shr, d⟩ := by
  unfold shrs at h
  rw [List.map_map, List.getElem?_map] at h
  cases q : ds[i]? with
  | none => rw [q] at h; cases h
  | some d => rw [q] at h; cases h; exact ⟨d, rfl, rfl⟩
/-- the callee's entry -/
theorem stOk_args (s : StOk K O F H σ env) {ds : List D} {vs : List V} (r : RepL K F H ds vs) : StOk K (Oc O env σ p) F H (vs.map some) ((shrs ds).map some) := by
  refine ⟨by simp [shrs, r.length], fun i d q => ?_, fun i m d q hm => ?_, fun i j a ⟨m, d, q, hm, _⟩ => ?_, s.fdom, oc_dom s⟩
  · obtain ⟨d', h1, h2⟩ := shrs_get q
    cases h2
    obtain ⟨v, h3, h4⟩ := r.get h1
    exact ⟨v, by rw [List.getElem?_map, h3]; rfl, h4⟩
  · obtain ⟨d', h1, h2⟩ := shrs_get q
    cases h2
    exact absurd rfl hm
  · obtain ⟨d', h1, h2⟩ := shrs_get q
    cases h2
    exact absurd rfl hm
/-- the caller's names behind -/
theorem stOk_over (s : StOk K O F H σ env) (e : Ext (Oc O env σ p) F H F' H') (fd : ∀ a, F' a → H' a ≠ none) (hp : ∀ j, ¬ p j → ∀ x, env[j]? ≠ some (some x)) : StOk K O F' H' σ env := by
  refine ⟨s.len, fun i d q => let ⟨v, h1, h2⟩ := s.shr i d q; ⟨v, h1, Rep.ext e d v h2⟩, fun i m d q hm => ?_, s.inj, fd, fun a h => ?_⟩
  · obtain ⟨a, vs, ds, h1, h2, h3, h4, h5, h6⟩ := s.own i m d q hm
    have hpi : p i := Classical.byContradiction fun z => hp i z _ q
    have oa : Oc O env σ p a := .inr ⟨i, hpi, m, d, q, hm, h2⟩
    exact ⟨a, vs, ds, h1, h2, by rw [e.out a oa]; exact h3, RepL.ext e ds vs h4, fun z => h5 (e.outF a oa z), h6⟩
  · rw [e.out a (.inl h)]; exact s.odom a h
theorem oc_sub {a : Addr} (h : O a) : Oc O env σ p a := .inl h
end
section
variable {X : Cx} {W : WX} {B : Bs}
theorem call_core0 {f : DFn} {n : Nat} {O F : Fz} {H : Hp} {σ : L2.St} {env : DEnv} {ds : List D} {vs : List V} {Q : VK} (s : StOk X.K O F H σ env) (r : RepL X.K F H ds vs) (hn : ds.length = n) (g : EGoal X W O F σ H Q (afterC env (f (shrs ds)))) :
    spD X.K X.mg false n f vs H Q (WE W σ) := by
  refine ⟨Oc O env σ (fun _ => True), F, shrs ds, by simp [shrs, hn], stOk_args s r, ?_⟩
  have back : ∀ {F' H'}, Ext (Oc O env σ fun _ => True) F H F' H' → StOk X.K (Oc O env σ fun _ => True) F' H' [] [] → Ext O F H F' H' ∧ StOk X.K O F' H' σ env := fun {F' H'} e st =>
    ⟨e.mono fun a h => oc_sub h, stOk_over s e st.fdom fun j z => absurd trivial z⟩
  cases q : f (shrs ds) with
  | bad => rw [q] at g; exact g.elim
  | err x o =>
    rw [q] at g
    intro F' H' cls d e st x'
    obtain ⟨e', st'⟩ := back e st
    exact g F' H' cls d e' st' x'
  | ok r o =>
    rw [q] at g
    intro F' H' v e st rr
    obtain ⟨e', st'⟩ := back e st
    refine g F' H' v e' st' ?_
    have own : (∃ a vs ds, r.d = D.lst ds ∧ v = .ref a ∧ H' a = some (.lst vs) ∧ RepL X.K F' H' ds vs ∧ ¬ F' a ∧ ¬ Oc O env σ (fun _ => True) a ∧ ∀ i, ¬ OwnAt [] [] i a) →
        ∃ a vs ds, r.d = D.lst ds ∧ v = .ref a ∧ H' a = some (.lst vs) ∧ RepL X.K F' H' ds vs ∧ ¬ F' a ∧ ¬ O a ∧ ∀ i, ¬ OwnAt env σ i a := fun ⟨a, ws, es, h1, h2, h3, h4, h5, h6, _⟩ =>
      ⟨a, ws, es, h1, h2, h3, h4, h5, fun z => h6 (.inl z), fun i z => h6 (.inr ⟨i, trivial, z⟩)⟩
    obtain ⟨m, d⟩ := r
    cases m with
    | shr => exact rr
    | own => exact own rr
    | bor => exact own rr
def tCallG (sp : Sp) (W : WX) (t : TA) : TE := fun σ H Q => t σ H fun vs H1 => sp vs H1 Q (WE W σ)
theorem g_call {k : Nat} {f : Addr} {fd : FuncData} {ps : List Str} {sp : Sp} {x : Str} {e : Expr} {es : List Expr} {t : TA} {p pos : Pos} (F : GOk X.prog X.w X.K X.mg X.base k f fd ps sp) (hr : GRoom k X.A) (hg : Gl X x) (hm : X.mg x = some (.ref f)) (hk : PySem.W.keepIn X.K (.ref f) = true) (hb : Binds X.K fd ps []) (tk : Takes X W)
    (ha : PA X (e :: es) t) (hdb : (x == ("__debug__" : Str)) = false) (he : starEach (e :: es) X.env = (false, eval e X.env) :: starEach es X.env) (hpl : (backTo pos (starEach es X.env)).any (·.1) = false) :
    PE X (.Call (.Name x p) (e :: es) [] pos) (tCallG sp W t) := ⟨fun pins s σ H Q I h => by
  refine wpAny_Call_Name_kw (ld_glob I hg hm ?_ hdb)
  refine PySem.W.callWith_K (h₀ := X.base) I.ok.mod.kin hk (thn (ha.run pos pins s σ H _ I h) fun us s1 ⟨vs, H1, I1, r, q⟩ => ⟨I1.kIn, ?_⟩) he hpl
  have b := hb s1 us I1.kIn (by rw [List.append_nil, ← r.length]; exact F.len _ _ _ _ q)
  rw [List.append_nil] at b
  refine wpAny_call (codeAny_mono (g_run F hr tk I1 b r q) fun res s' hq => ?_)
  match res, hq with
  | .error e, hq => exact hq
  | .ok (.ret u), hq => exact hq⟩
/-- f(a, ..) -/
theorem e_call {k n : Nat} {f : Addr} {fd : FuncData} {ps : List Str} {fn : DFn} {x : Str} {e : Expr} {es : List Expr} {os : List Opd} {p pos : Pos} (F : GOk X.prog X.w X.K X.mg X.base k f fd ps (spD X.K X.mg false n fn)) (hr : GRoom k X.A) (hm : X.mg x = some (.ref f))
    (hk : PySem.W.keepIn X.K (.ref f) = true) (hb : Binds X.K fd ps []) (tk : Takes X W) (ha : DAs X W (e :: es) os) (hg : Gl X x := by rfl) (hv : allV os = true := by rfl) (hn : os.length = n := by rfl) (hdb : (x == ("__debug__" : Str)) = false := by decide)
    (he : starEach (e :: es) X.env = (false, eval e X.env) :: starEach es X.env := by rfl) (hpl : (backTo pos (starEach es X.env)).any (·.1) = false := by rfl) : DEv X W (.Call (.Name x p) (e :: es) [] pos) (dCall fn os) := by
  obtain ⟨t, h, s⟩ := ha
  refine ⟨_, g_call F hr hg hm hk hb tk h hdb he hpl, fun O F σ H env Q st g => ?_⟩
  refine s O F σ H env _ st ?_
  unfold dCall at g
  cases q : evOs os env with
  | bad => rw [q] at g; exact g.elim
  | err y e => rw [q] at g; exact g
  | ok avs env1 =>
    rw [q] at g
    simp only [R.bind] at g
    intro F1 H1 vs E1 s1 r1
    cases q2 : getAVs env1 avs with
    | none => rw [q2] at g; exact g.elim
    | some ds =>
      rw [q2] at g
      have rl := AVs.vals hv q r1 q2
      have hlen : ds.length = n := by
        rw [← hn]
        exact lenAV q q2
      exact call_core0 s1 rl hlen (EGoal.step E1 g)
end
end DL
/-! DL7: calls that change their first argument, calls by keywords, lists that are changed, errors raised. -/
namespace DL
open PySem PySem.Spec PyProof.Rows L2

section
variable {X : Cx} {W : WX} {B : Bs}
theorem s0v {K : PySem.W.Frag} {O F : Fz} {H : Hp} {σ : L2.St} {env : DEnv} {i : Nat} {e : Ent} (s : StOk K O F H σ env) (h : (env[i]? : Option (Option Ent)) = some (some e)) : ∃ v, σ[i]? = some (some v) ∧ RepT K F H e.d v := s.top h
theorem call_coreR {f : DFn} {n i : Nat} {O F : Fz} {H : Hp} {σ : L2.St} {env : DEnv} {ds : List D} {vs : List V} {v0 : V} {d0 : D} {Q : VK} (s : StOk X.K O F H σ env) (hi : env[i]? = some (some (Ent.mk Md.own d0))) (hv0 : σ[i]? = some (some v0)) (r : RepL X.K F H ds vs) (hn : ds.length + 1 = n)
    (g : EGoal X W O F σ H Q (afterR env i (f (⟨.own, d0⟩ :: shrs ds)))) : spD X.K X.mg true n f (v0 :: vs) H Q (WE W σ) := by
  obtain ⟨a0, ws0, es0, rfl, e2, h0, rl0, nF0, nO0⟩ := s.own i .own d0 hi nofun
  rw [hv0] at e2; cases e2
  have oi : OwnAt env σ i a0 := ⟨.own, _, hi, nofun, hv0⟩
  have nOc : ¬ Oc O env σ (fun j => j ≠ i) a0 := fun z => by
    rcases z with z | ⟨j, hj, z⟩
    · exact nO0 z
    · exact hj (s.inj j i a0 z oi)
  have sA := stOk_args (p := fun j => j ≠ i) s r
  have s1 : StOk X.K (Oc O env σ fun j => j ≠ i) F H ((V.ref a0 :: vs).map some) ((⟨.own, .lst es0⟩ :: shrs ds).map some) := by
    refine ⟨by simp [shrs, r.length], fun j d q => ?_, fun j m d q hm => ?_, fun j k a ⟨m, d, q1, q2, q3⟩ ⟨m', d', k1, k2, k3⟩ => ?_, s.fdom, sA.odom⟩
    · cases j with
      | zero => simp at q
      | succ j => exact sA.shr j d (by simpa using q)
    · cases j with
      | zero =>
        simp at q
        obtain ⟨rfl, rfl⟩ := q
        exact ⟨a0, ws0, es0, rfl, rfl, h0, rl0, nF0, nOc⟩
      | succ j => exact sA.own j m d (by simpa using q) hm
    · have z : ∀ {j : Nat} {m : Md} {d : D}, ((⟨.own, .lst es0⟩ :: shrs ds).map some)[j]? = some (some (Ent.mk m d)) → m ≠ Md.shr → j = 0 := fun {j m d} q hm => by
        cases j with
        | zero => rfl
        | succ j =>
          have q' : ((shrs ds).map some)[j]? = some (some (Ent.mk m d)) := by simpa using q
          obtain ⟨d', _, h2⟩ := shrs_get q'
          cases h2
          exact absurd rfl hm
      rw [z q1 q2, z k1 k2]
  refine ⟨_, F, ⟨.own, .lst es0⟩ :: shrs ds, by simp [shrs, hn], s1, ?_⟩
  have back : ∀ {F' H' o}, Ext (Oc O env σ fun j => j ≠ i) F H F' H' → StOk X.K (Oc O env σ fun j => j ≠ i) F' H' (outSt true (V.ref a0 :: vs)) (outEnv true o) → Ext O F H F' H' ∧ StOk X.K O F' H' σ (env.set i (some ⟨.own, o⟩)) := fun {F' H' o} e st => by
    refine ⟨e.mono fun a h => oc_sub h, ?_⟩
    obtain ⟨a, vs', es', rfl, k2, k3, k4, k5, k6⟩ := st.own 0 .own o rfl nofun
    cases k2
    have sd : StOk X.K O F H σ (env.set i none) := s.drop
    have e' : Ext (Oc O (env.set i none) σ fun j => j ≠ i) F H F' H' := e.mono fun a h => by
      rcases h with h | ⟨j, hj, m, d, q1, q2, q3⟩
      · exact .inl h
      · rw [List.getElem?_set_ne (Ne.symm hj)] at q1
        exact .inr ⟨j, hj, m, d, q1, q2, q3⟩
    have s2 : StOk X.K O F' H' σ (env.set i none) := stOk_over sd e' st.fdom fun j hj x q => by
      have : j = i := Classical.byContradiction fun z => hj z
      subst this
      have hl : j < env.length := (List.getElem?_eq_some_iff.mp hi).1
      rw [List.getElem?_set_self hl] at q; cases q
    have hl : i < σ.length := (List.getElem?_eq_some_iff.mp hv0).1
    have s3 := StOk.set (e := ⟨.own, .lst es'⟩) (v := .ref a0) (i := i) s2 ⟨a0, vs', es', rfl, rfl, k3, k4, k5, fun z => k6 (.inl z), fun j ⟨m, d, q1, q2, q3⟩ => by
      by_cases hj : j = i
      · subst hj
        have hl : j < env.length := (List.getElem?_eq_some_iff.mp hi).1
        rw [List.getElem?_set_self hl] at q1; cases q1
      · rw [List.getElem?_set_ne (Ne.symm hj)] at q1
        exact hj (s.inj j i a0 ⟨m, d, q1, q2, q3⟩ oi)⟩ hl
    rw [List.set_set] at s3
    have e3 : σ.set i (some (.ref a0)) = σ := by
      apply List.ext_getElem?
      intro j
      by_cases hj : j = i
      · subst hj; rw [List.getElem?_set_self hl, hv0]
      · rw [List.getElem?_set_ne (Ne.symm hj)]
    rw [e3] at s3
    exact s3
  cases q : f (⟨.own, .lst es0⟩ :: shrs ds) with
  | bad => rw [q] at g; exact g.elim
  | err x o =>
    rw [q] at g
    intro F' H' cls d e st x'
    obtain ⟨e', st'⟩ := back e st
    exact g F' H' cls d e' st' x'
  | ok r o =>
    rw [q] at g
    intro F' H' v e st rr
    obtain ⟨e', st'⟩ := back e st
    refine g F' H' v e' st' ?_
    have own : (∃ a vs1 ds, r.d = D.lst ds ∧ v = .ref a ∧ H' a = some (.lst vs1) ∧ RepL X.K F' H' ds vs1 ∧ ¬ F' a ∧ ¬ Oc O env σ (fun j => j ≠ i) a ∧ ∀ j, ¬ OwnAt (outEnv true o) (outSt true (V.ref a0 :: vs)) j a) →
        ∃ a vs ds, r.d = D.lst ds ∧ v = .ref a ∧ H' a = some (.lst vs) ∧ RepL X.K F' H' ds vs ∧ ¬ F' a ∧ ¬ O a ∧ ∀ j, ¬ OwnAt (env.set i (some ⟨.own, o⟩)) σ j a := fun ⟨a, ws, es, h1, h2, h3, h4, h5, h6, h7⟩ => by
      refine ⟨a, ws, es, h1, h2, h3, h4, h5, fun z => h6 (.inl z), fun j ⟨m, d, q1, q2, q3⟩ => ?_⟩
      by_cases hj : j = i
      · subst hj
        rw [hv0] at q3
        cases q3
        exact h7 0 ⟨.own, o, rfl, nofun, rfl⟩
      · rw [List.getElem?_set_ne (Ne.symm hj)] at q1
        exact h6 (.inr ⟨j, hj, m, d, q1, q2, q3⟩)
    obtain ⟨m, d⟩ := r
    cases m with
    | shr => exact rr
    | own => exact own rr
    | bor => exact own rr
/-- f(x, ..), x the list that a name owns, which f may change -/
theorem e_callR (i : Nat) {k n : Nat} {f : Addr} {fd : FuncData} {ps : List Str} {fn : DFn} {x y : Str} {es : List Expr} {os : List Opd} {p py pos : Pos} (F : GOk X.prog X.w X.K X.mg X.base k f fd ps (spD X.K X.mg true n fn)) (hr : GRoom k X.A) (hm : X.mg x = some (.ref f))
    (hk : PySem.W.keepIn X.K (.ref f) = true) (hb : Binds X.K fd ps []) (tk : Takes X W) (ha : DAs X W es os) (hg : Gl X x := by rfl) (hv : allV os = true := by rfl) (hn : os.length + 1 = n := by rfl) (hdb : (x == ("__debug__" : Str)) = false := by decide)
    (hN : X.N[i]? = some y := by rfl) (hvis : Vis X.env.scope y := by first | exact Or.inl rfl | exact Or.inr (Or.inl rfl) | exact Or.inr (Or.inr rfl)) (hd : (y == ("__debug__" : Str)) = false := by decide)
    (hcd : (y == ("__classdict__" : Str)) = false := by decide)
    (he : starEach (.Name y py :: es) X.env = (false, eval (.Name y py) X.env) :: starEach es X.env := by rfl) (hpl : (backTo pos (starEach es X.env)).any (·.1) = false := by rfl) : DEv X W (.Call (.Name x p) (.Name y py :: es) [] pos) (dCallR fn i os) := by
  obtain ⟨t, h, s⟩ := ha
  refine ⟨_, g_call F hr hg hm hk hb tk (pa_cons (pe_var hN hvis hd hcd) h he) hdb he hpl, fun O F σ H env Q st g => ?_⟩
  unfold dCallR at g
  split at g
  · rename_i d00 hi0
    obtain ⟨v0, hv0, _⟩ := s0v st hi0
    refine ⟨v0, hv0, s O F σ H env _ st ?_⟩
    cases q : evOs os env with
    | bad => rw [q] at g; exact g.elim
    | err y' e => rw [q] at g; exact g
    | ok avs env1 =>
      rw [q] at g
      simp only [R.bind] at g
      intro F1 H1 vs E1 s1 r1
      cases q2 : getAVs env1 avs with
      | none => rw [q2] at g; exact g.elim
      | some ds =>
        rw [q2] at g
        split at g
        · rename_i ds' d0 e1 hi1
          cases e1
          exact call_coreR s1 hi1 hv0 (AVs.vals hv q r1 q2) (by rw [← hn, lenAV q q2]) (EGoal.step E1 g)
        · exact g.elim
  · exact g.elim

/-! ### calls by keywords -/
@[simp] def pick {α : Type} (perm : List Nat) (l : List α) : List α := perm.filterMap fun i => l[i]?
theorem vals_pick {vs : List V} {us : List Value} (r : Vals vs us) : ∀ perm : List Nat, Vals (pick perm vs) (pick perm us)
  | [] => .nil
  | i :: perm => by
    have ih := vals_pick r perm
    unfold pick at ih ⊢
    rw [List.filterMap_cons, List.filterMap_cons]
    cases q : vs[i]? with
    | none => rw [r.none_of q]; exact ih
    | some v =>
      obtain ⟨u, h1, h2⟩ := r.get q
      rw [h1]
      exact .cons h2 ih
theorem repL_pick {K : PySem.W.Frag} {F : Fz} {H : Hp} {ds : List D} {vs : List V} (r : RepL K F H ds vs) : ∀ perm : List Nat, RepL K F H (pick perm ds) (pick perm vs)
  | [] => RepL.nil
  | i :: perm => by
    have ih := repL_pick r perm
    unfold pick at ih ⊢
    rw [List.filterMap_cons, List.filterMap_cons]
    cases q : vs[i]? with
    | none =>
      have : ds[i]? = none := by
        cases q2 : ds[i]? with
        | none => rfl
        | some d => obtain ⟨v, z, _⟩ := r.get q2; rw [q] at z; cases z
      rw [this]; exact ih
    | some v =>
      obtain ⟨d, h1, h2⟩ := r.get' q
      rw [h1]
      exact RepL.cons h2 ih
/-- n values by place, the names ks: in the parameters' order -/
structure KwB (K : PySem.W.Frag) (fd : FuncData) (ps : List Str) (n : Nat) (ks : List Str) (perm : List Nat) : Prop where
  to : ∀ (s : Shared) (us ws : List Value), K.In s.heap → us.length = n → ws.length = ks.length → BindsTo s fd ⟨us, ks.zip ws⟩ (ps.zip (pick perm (us ++ ws)))
theorem kw_mk {K : PySem.W.Frag} {fd : FuncData} {ps : List Str} {n : Nat} {ks : List Str} {perm : List Nat} (h : ∀ (us ws : List Value), us.length = n → ws.length = ks.length → bindArgs fd ⟨us, ks.zip ws⟩ = pure (ps.zip (pick perm (us ++ ws)))) : KwB K fd ps n ks perm := ⟨fun s us ws _ h1 h2 => .of_eq (h us ws h1 h2)⟩
/-- a def with defaults, all its arguments written by name -/
theorem kw_mkD {K : PySem.W.Frag} {x qual : Str} {st : Stmt} {T : Addr} {o : Obj} {its : Array Value} {n0 n : Nat} {kV doc pm : Value} {an : Option Addr} {cdv ct : Value} {ps ks : List Str} {perm : List Nat} (lT : K.lookup T = some o) (oT : o.data = .seq its n0)
    (h : ∀ (us ws : List Value), us.length = n → ws.length = ks.length → ∃ k, bindArgs (PySem.W.fnOf x qual (defArgs st) (defBody st) (defScope st) (.ref T) kV doc pm an cdv ct) ⟨us, ks.zip ws⟩ = seqItems? (.ref T) >>= k ∧ k (some its) = pure (ps.zip (pick perm (us ++ ws)))) :
    KwB K (PySem.W.fnOf x qual (defArgs st) (defBody st) (defScope st) (.ref T) kV doc pm an cdv ct) ps n ks perm := ⟨fun s us ws X h1 h2 => by
  obtain ⟨k, e1, e2⟩ := h us ws h1 h2
  refine BindsTo.of_looks fun M => ?_
  rw [e1]
  exact looks_items X lT oT (.of_pure e2)⟩
def DKs (X : Cx) (W : WX) (kws : List Keyword) (os : List Opd) : Prop := ∃ t, PK X kws t ∧ ASem X W t os
theorem k_nil : DKs X W [] [] := ⟨_, pk_nil, asem_nil⟩
theorem k_cons {nm : Option Str} {e : Expr} {kpos : Pos} {kws : List Keyword} {o : Opd} {os : List Opd} (ho : DOp X W e o) (ht : DKs X W kws os) : DKs X W (⟨nm, e, kpos⟩ :: kws) (o :: os) := by
  obtain ⟨te, he, se⟩ := ho
  obtain ⟨t, h, s⟩ := ht
  exact ⟨_, pk_cons he h, asem_cons se s⟩
theorem evOs_app : ∀ (os os' : List Opd) (env : DEnv), evOs (os ++ os') env = (evOs os env).bind fun a e1 => (evOs os' e1).bind fun b e2 => .ok (a ++ b) e2
  | [], os', env => by
    show evOs os' env = (evOs os' env).bind fun b e2 => .ok b e2
    cases evOs os' env <;> rfl
  | .v m :: os, os', env => by
    show (m env).bind _ = ((m env).bind _).bind _
    cases m env with
    | bad => rfl
    | err x e => rfl
    | ok r e1 =>
      simp only [R.bind]
      have ih : evOs (os.append os') e1 = _ := evOs_app os os' e1
      rw [ih]
      cases evOs os e1 with
      | bad => rfl
      | err x e => rfl
      | ok a e2 =>
        simp only [R.bind]
        cases evOs os' e2 <;> rfl
  | .s i :: os, os', env => by
    have ih := evOs_app os os' env
    show evOs (.s i :: (os ++ os')) env = (evOs (.s i :: os) env).bind _
    simp only [evOs]
    split
    · rw [ih]
      cases evOs os env with
      | bad => rfl
      | err x e => rfl
      | ok a e2 =>
        simp only [R.bind]
        cases evOs os' e2 <;> rfl
    · rfl
theorem allV_app : ∀ {os os' : List Opd}, allV os = true → allV os' = true → allV (os ++ os') = true
  | [], _, _, h => h
  | .v _ :: os, _, h, h' => allV_app (os := os) h h'
theorem AVs.app {K : PySem.W.Frag} {F : Fz} {H : Hp} {σ : L2.St} : ∀ {as bs : List AV} {vs ws : List V}, AVs K F H σ as vs → AVs K F H σ bs ws → AVs K F H σ (as ++ bs) (vs ++ ws)
  | [], _, _, _, h, k => by rw [show _ = ([] : List V) from h]; exact k
  | .d x :: as, bs, vs, ws, ⟨v, r, e1, h1, h2⟩, k => ⟨v, r ++ ws, by rw [e1]; rfl, h1, AVs.app h2 k⟩
  | .s i :: as, bs, vs, ws, ⟨v, r, e1, h1, h2⟩, k => ⟨v, r ++ ws, by rw [e1]; rfl, h1, AVs.app h2 k⟩
theorem AVs.length {K : PySem.W.Frag} {F : Fz} {H : Hp} {σ : L2.St} : ∀ {as : List AV} {vs : List V}, AVs K F H σ as vs → vs.length = as.length
  | [], _, h => by rw [show _ = ([] : List V) from h]; rfl
  | .d x :: as, vs, ⟨v, r, e1, h1, h2⟩ => by rw [e1, List.length_cons, List.length_cons, AVs.length h2]
  | .s i :: as, vs, ⟨v, r, e1, h1, h2⟩ => by rw [e1, List.length_cons, List.length_cons, AVs.length h2]
/-- the arguments by place, then the keywords' -/
def tKw (n m : Nat) (t tk : TA) (r : List V → Hp → VK → L2.St → Prop) : TE := fun σ H Q => t σ H fun vs H1 => tk σ H1 fun zs H2 => vs.length = n ∧ zs.length = m ∧ r (vs ++ zs) H2 Q σ
theorem run_kw {k : Nat} {f : Addr} {fd : FuncData} {ps ks : List Str} {n : Nat} {perm : List Nat} {sp : Sp} {pins : List (Addr × Obj)} {σ : L2.St} {H : Hp} {s : Shared} {Q : VK} {us ws : List Value} {vs zs : List V} (F : GOk X.prog X.w X.K X.mg X.base k f fd ps sp) (hr : GRoom k X.A)
    (hb : KwB X.K fd ps n ks perm) (tk : Takes X W) (I : L2.Inv X pins σ H s) (r : Vals vs us) (rz : Vals zs ws) (h1 : vs.length = n) (h2 : zs.length = ks.length) (h : sp (pick perm (vs ++ zs)) H Q (WE W σ)) :
    wpAny (model X.prog X.w) X.A (call (.ref f) us (ks.zip ws)) (EP X pins σ Q) X.xe s := by
  have r2 := vals_pick (r.append rz) perm
  refine wpAny_call (codeAny_mono (g_run (args := ⟨us, ks.zip ws⟩) F hr tk I ((hb.to s us ws I.kIn (by rw [← r.length]; exact h1) (by rw [← rz.length]; exact h2))) r2 h) fun res s' hq => ?_)
  match res, hq with
  | .error e, hq => exact hq
  | .ok (.ret u), hq => exact hq
theorem sem_kw {t tk : TA} {os os' : List Opd} {fn : DFn} {n m nn : Nat} {perm : List Nat} (s1 : ASem X W t os) (s2 : ASem X W tk os') (hn : os.length = n) (hm : os'.length = m) (hv : allV (os ++ os') = true) (hp : perm.length = nn) (hlt : ∀ i ∈ perm, i < n + m) :
    ESem X W (tKw n m t tk fun vs H Q σ => spD X.K X.mg false nn fn (pick perm vs) H Q (WE W σ)) (dCall (fun args => fn (pick perm args)) (os ++ os')) := fun O F σ H env Q st g => by
  refine s1 O F σ H env _ st ?_
  unfold dCall at g
  rw [evOs_app] at g
  cases q : evOs os env with
  | bad => rw [q] at g; exact g.elim
  | err y e => rw [q] at g; exact g
  | ok a env1 =>
    rw [q] at g
    simp only [R.bind] at g
    intro F1 H1 vs E1 st1 r1
    refine s2 O F1 σ H1 env1 _ st1 ?_
    cases q2 : evOs os' env1 with
    | bad => rw [q2] at g; exact g.elim
    | err y e => rw [q2] at g; exact fun F' H' c d e' s' r => g F' H' c d (E1.trans e') s' r
    | ok b env2 =>
      rw [q2] at g
      simp only [] at g
      intro F2 H2 zs E2 st2 r2
      have r12 := (r1.ext E2).app r2
      refine ⟨by rw [AVs.length r1, lenO q, hn], by rw [AVs.length r2, lenO q2, hm], ?_⟩
      have full : evOs (os ++ os') env = .ok (a ++ b) env2 := by rw [evOs_app, q]; simp only [R.bind]; rw [q2]
      cases q3 : getAVs env2 (a ++ b) with
      | none => rw [q3] at g; exact g.elim
      | some ds =>
        rw [q3] at g
        have rl := AVs.vals hv full r12 q3
        have hlen : ds.length = n + m := by rw [lenAV full q3, List.length_append, hn, hm]
        have pk : pick perm (shrs ds) = shrs (pick perm ds) := by
          unfold pick shrs
          rw [List.map_filterMap]
          congr 1
          funext i
          rw [List.getElem?_map]
        have pl : (pick perm ds).length = nn := by
          rw [← hp]
          clear g pk rl full q3 r12 hp
          induction perm with
          | nil => rfl
          | cons i perm ih =>
            unfold pick at ih ⊢
            rw [List.filterMap_cons]
            have hi : i < ds.length := by rw [hlen]; exact hlt i (by simp)
            rw [List.getElem?_eq_getElem hi]
            simp only [List.length_cons]
            rw [ih fun j hj => hlt j (List.mem_cons_of_mem _ hj)]
        simp only [] at g
        rw [pk] at g
        exact call_core0 st2 (repL_pick rl perm) pl (EGoal.step (E1.trans E2) g)
/-- f(a, .., k = v, ..) -/
theorem e_callK {k nn n : Nat} {f : Addr} {fd : FuncData} {ps ks : List Str} {perm : List Nat} {fn : DFn} {x : Str} {e : Expr} {es : List Expr} {kws : List Keyword} {os os' : List Opd} {p pos : Pos} (F : GOk X.prog X.w X.K X.mg X.base k f fd ps (spD X.K X.mg false nn fn)) (hr : GRoom k X.A) (hm : X.mg x = some (.ref f))
    (hk : PySem.W.keepIn X.K (.ref f) = true) (hb : KwB X.K fd ps n ks perm) (tk : Takes X W) (ha : DAs X W (e :: es) os) (hkw : DKs X W kws os') (hg : Gl X x := by rfl) (hn : os.length = n := by rfl) (hm' : os'.length = ks.length := by rfl) (hv : allV (os ++ os') = true := by rfl) (hp : perm.length = nn := by rfl) (hlt : ∀ i ∈ perm, i < n + ks.length := by decide)
    (hall : (backToKw pos (keywordEach kws X.env)).all (·.1.isSome) = true := by rfl) (hks : (backToKw pos (keywordEach kws X.env)).filterMap (·.1) = ks := by rfl)
    (hdb : (x == ("__debug__" : Str)) = false := by decide) (he : starEach (e :: es) X.env = (false, eval e X.env) :: starEach es X.env := by rfl)
    (hpl : ((backTo pos (starEach (e :: es) X.env)).any (·.1) || (backToKw pos (keywordEach kws X.env)).any (·.1.isNone)) = false := by rfl) :
    DEv X W (.Call (.Name x p) (e :: es) kws pos) (dCall (fun args => fn (pick perm args)) (os ++ os')) := by
  obtain ⟨t, h, s⟩ := ha
  obtain ⟨t2, h2, s2⟩ := hkw
  refine ⟨_, ⟨fun pins s0 σ H Q I h0 => ?_⟩, sem_kw s s2 hn hm' hv hp hlt⟩
  refine wpAny_Call_Name_kw (ld_glob I hg hm ?_ hdb)
  refine PySem.W.callWith_KW (h₀ := X.base) I.ok.mod.kin hk hall (thn (h.run pos pins s0 σ H _ I h0) fun us s1 ⟨vs, H1, I1, r, q⟩ => ?_) hpl he
  refine thn (h2.run pos pins s1 σ H1 _ I1 q) fun ws s2 ⟨zs, H2, I2, rz, q2⟩ => ⟨I2.kIn, ?_⟩
  rw [hks]
  exact run_kw F hr hb tk I2 r rz q2.1 q2.2.1 q2.2.2
/-- f(k = v, ..) -/
theorem e_callK0 {k nn : Nat} {f : Addr} {fd : FuncData} {ps ks : List Str} {perm : List Nat} {fn : DFn} {x : Str} {kws : List Keyword} {os' : List Opd} {p pos : Pos} (F : GOk X.prog X.w X.K X.mg X.base k f fd ps (spD X.K X.mg false nn fn)) (hr : GRoom k X.A) (hm : X.mg x = some (.ref f))
    (hk : PySem.W.keepIn X.K (.ref f) = true) (hb : KwB X.K fd ps 0 ks perm) (tk : Takes X W) (hkw : DKs X W kws os') (hg : Gl X x := by rfl) (hm' : os'.length = ks.length := by rfl) (hv : allV os' = true := by rfl) (hp : perm.length = nn := by rfl) (hlt : ∀ i ∈ perm, i < 0 + ks.length := by decide)
    (hall : (backToKw pos (keywordEach kws X.env)).all (·.1.isSome) = true := by rfl) (hks : (backToKw pos (keywordEach kws X.env)).filterMap (·.1) = ks := by rfl)
    (hdb : (x == ("__debug__" : Str)) = false := by decide)
    (hpl : ((backTo pos (starEach [] X.env)).any (·.1) || (backToKw pos (keywordEach kws X.env)).any (·.1.isNone)) = false := by rfl) :
    DEv X W (.Call (.Name x p) [] kws pos) (dCall (fun args => fn (pick perm args)) os') := by
  obtain ⟨t2, h2, s2⟩ := hkw
  refine ⟨_, ⟨fun pins s0 σ H Q I h0 => ?_⟩, sem_kw (os := []) asem_nil s2 rfl hm' hv hp hlt⟩
  refine wpAny_Call_Name_kw (ld_glob I hg hm ?_ hdb)
  refine PySem.W.callWith_KW0 (h₀ := X.base) I.ok.mod.kin hk hall ?_ hpl
  refine thn (h2.run pos pins s0 σ H _ I h0) fun ws s2 ⟨zs, H2, I2, rz, q2⟩ => ⟨I2.kIn, ?_⟩
  rw [hks]
  exact run_kw (us := []) F hr hb tk I2 .nil rz q2.1 q2.2.1 q2.2.2
end
end DL
/-! DL8: lists that are changed; errors raised. -/
namespace DL
open PySem PySem.Spec PyProof.Rows L2

/-- extend by a tuple -/
theorem ext_tuple (l : Addr) (items : Array Value) (n : Nat) (b : Addr) (items2 : Array Value) (n2 : Nat) (dd : Option Addr) (sl : Array (Option Value)) (hs0 : ¬(!items.isEmpty && Builtin.List.listTooLong (items.size + items2.size)) = true) (hs1 : items.size ≤ sizeLine) (hs2 : items.size + items2.size ≤ sizeLine + 1) :
    Meets (Builtin.«list.extend» ⟨[.ref l, .ref b], []⟩) (fun _ R s => s.heap.get? l = some { cls := .type "list", dict := none, data := .seq items n, slots := #[] } ∧ s.heap.get? b = some { cls := .type "tuple", dict := dd, data := .seq items2 n2, slots := sl } ∧ R (.ok (.ret Value.none)) { s with heap := s.heap.update l (Obj.mapSeq fun x => x ++ items2), toks := s.toks }) :=
  .of_wp fun prog w A R s h => by
    obtain ⟨hp, g, d, tk, os⟩ := s
    obtain ⟨hl, hb, h⟩ := h
    have f3 := AutoSeq1.sub_list_list
    have f4 := AutoSeq1.sub_tuple_list
    have f2 := AutoSeq1.sub_tuple_tuple
    have f5 := AutoSeq1.sub_list_tuple
    have hz' : (items ++ items2).size ≤ sizeLine + 1 := by rw [Array.size_append]; exact hs2
    wp_walk using (wpAny_updateSeq hl rfl (hz := hs1) (_hz' := hz')), wpAny_loadPart' hl, wpAny_loadPart' hb
    exact ⟨_, rfl, h⟩

section
variable {X : Cx} {W : WX} {B : Bs}
def rExtT (K : PySem.W.Frag) : V → List V → Hp → VK → Prop := fun x vs H Q => ∃ l b xs zs, x = .ref l ∧ vs = [.ref b] ∧ H l = some (.lst xs) ∧ SqT K H b zs ∧ xs.length + zs.length ≤ sizeLine ∧ Q .non (upd H l (.lst (xs ++ zs)))
theorem mt_extT : MtR X "list.extend" (rExtT X.K) := by
  intro pins s σ H x vs v us Q I rx rv h
  obtain ⟨l, b, xs, zs, rfl, rfl, hH, hB, hz, q⟩ := h
  cases rx
  obtain ⟨u, rfl, ru⟩ := rv.one
  cases ru
  obtain ⟨z, its, n, r, hl, e⟩ := I.lstM hH
  obtain ⟨its2, r2, ⟨o2, e2, c2, n2, d2⟩, _⟩ := I.tuple hB
  have hl2 := r2.length
  have hsz : its.length + its2.length ≤ sizeLine := by omega
  have hlong : ¬ (!its.toArray.isEmpty && Builtin.List.listTooLong (its.toArray.size + its2.toArray.size)) = true := by
    rw [notLongL (by simpa using hsz), Bool.and_false]
    exact Bool.false_ne_true
  obtain ⟨oc, od, odat, osl⟩ := o2
  subst c2 d2
  refine call_meets F.slot_list_extend ⟨_, e, rfl⟩ F.entry_list_extend (F.args_list_extend_2 _ _)
    (ext_tuple l its.toArray n b its2.toArray n2 od osl hlong (by simp; omega) (by simp; omega)) ⟨e, e2, ?_⟩
  refine ⟨.non, _, I.lset (its' := its ++ its2) hH e (by simp) (r.append r2) ?_, rfl, q⟩
  rw [List.length_append]
  omega

/-! ### a method that changes the list that a name owns -/
/-- op: from the list and the argument to the list behind and the answer -/
def dMut (op : List D → List D → Option (List D × D)) (i : Nat) (os : List Opd) : DE := fun env => match (env[i]? : Option (Option Ent)) with
  | some (some (Ent.mk Md.own (.lst _))) => (evOs os env).bind fun avs env1 => match getAVs env1 avs, (env1[i]? : Option (Option Ent)) with
    | some ds, some (some (Ent.mk Md.own (.lst xs))) => (match op xs ds with
      | some (ys, r) => .ok ⟨.shr, r⟩ (env1.set i (some ⟨.own, .lst ys⟩))
      | none => .bad)
    | _, _ => .bad
  | _ => .bad
/-- the rule of the values -/
def MutR (K : PySem.W.Frag) (op : List D → List D → Option (List D × D)) (r : V → List V → Hp → VK → Prop) : Prop := ∀ (F : Fz) (H : Hp) (a : Addr) (xs : List D) (us : List V) (ds : List D) (vs : List V) (ys : List D) (d : D) (Q : VK),
  H a = some (.lst us) → RepL K F H xs us → RepL K F H ds vs → op xs ds = some (ys, d) →
  (∀ ws v, RepL K F H ys ws → Rep K F H d v → Q v (upd H a (.lst ws))) → r (.ref a) vs H Q
theorem sem_mut {i : Nat} {os : List Opd} {t : TA} {op : List D → List D → Option (List D × D)} {r : V → List V → Hp → VK → Prop} (s : ASem X W t os) (hv : allV os = true) (hr : MutR X.K op r) :
    ESem X W (fun σ H Q => ∃ v, σ[i]? = some (some v) ∧ (tyV X.K "list" v H ∧ t σ H fun xs H2 => r v xs H2 Q)) (dMut op i os) := fun O F σ H env Q st g => by
  unfold dMut at g
  split at g
  · rename_i l0 hi0
    obtain ⟨a, us0, es0, e0, hσ, hH, _, _, _⟩ := st.own i .own _ hi0 nofun
    refine ⟨.ref a, hσ, .inl ⟨rfl, us0, .inl (.inl hH)⟩, s O F σ H env _ st ?_⟩
    cases q : evOs os env with
    | bad => rw [q] at g; exact g.elim
    | err y' e => rw [q] at g; exact g
    | ok avs env1 =>
      rw [q] at g
      simp only [R.bind] at g
      intro F1 H1 vs E1 s1 r1
      cases q2 : getAVs env1 avs with
      | none => rw [q2] at g; exact g.elim
      | some ds =>
        rw [q2] at g
        split at g
        · rename_i ds' xs e1 hi1
          cases e1
          cases q3 : op xs ds with
          | none => rw [q3] at g; exact g.elim
          | some yr =>
            obtain ⟨ys, d⟩ := yr
            rw [q3] at g
            obtain ⟨a', us, es, e2, hσ', hH1, rl, nF, nO⟩ := s1.own i .own _ hi1 nofun
            cases e2
            rw [hσ] at hσ'
            cases hσ'
            refine hr F1 H1 a xs us ds vs ys d Q hH1 rl (AVs.vals hv q r1 q2) q3 fun ws v rw' rd => ?_
            obtain ⟨s2, E2⟩ := s1.write hi1 nofun hσ hH1 nF nO rw'
            exact g F1 _ v (E1.trans E2) s2 (Rep.ext E2 d v rd)
        · exact g.elim
  · exact g.elim
def mApp : List D → List D → Option (List D × D) := fun xs ds => match ds with
  | [d] => if xs.length < sizeLine then some (xs ++ [d], .non) else none
  | _ => none
def mExt : List D → List D → Option (List D × D) := fun xs ds => match ds with
  | [.lst ys] => if xs.length + ys.length ≤ sizeLine then some (xs ++ ys, .non) else none
  | [.tup ys] => if xs.length + ys.length ≤ sizeLine then some (xs ++ ys, .non) else none
  | _ => none
def mPop : List D → List D → Option (List D × D) := fun xs ds => match ds, xs[xs.length - 1]? with
  | [], some d => some (xs.dropLast, d)
  | _, _ => none
theorem mr_app {K : PySem.W.Frag} : MutR K mApp rAppend := fun F H a xs us ds vs ys d Q h r rd e q => by
  unfold mApp at e
  split at e
  · split at e
    · rename_i x hl
      cases e
      obtain ⟨v, _, rfl, h1, rfl⟩ := rd
      exact ⟨a, us, v, rfl, rfl, h, by rw [r.length]; exact hl, q _ _ (r.append (RepL.cons h1 RepL.nil)) rfl⟩
    · cases e
  · cases e
theorem mr_ext {K : PySem.W.Frag} : MutR K mExt (fun x xs H Q => rExtend x xs H Q ∨ rExtT K x xs H Q) := fun F H a xs us ds vs ys d Q h r rd e q => by
  unfold mExt at e
  split at e
  · split at e
    · rename_i x hl
      cases e
      obtain ⟨v, _, rfl, ⟨b, ws, rfl, fb, hb, rb⟩, rfl⟩ := rd
      exact .inl ⟨a, b, us, ws, rfl, rfl, h, hb, by rw [r.length, rb.length]; exact hl, q _ _ (r.append rb) rfl⟩
    · cases e
  · split at e
    · rename_i x hl
      cases e
      obtain ⟨v, _, rfl, ⟨b, ws, rfl, hb, rb⟩, rfl⟩ := rd
      exact .inr ⟨a, b, us, ws, rfl, rfl, h, hb.sq, by rw [r.length, rb.length]; exact hl, q _ _ (r.append rb) rfl⟩
    · cases e
  · cases e
theorem mr_pop {K : PySem.W.Frag} : MutR K mPop rPop := fun F H a xs us ds vs ys d Q h r rd e q => by
  unfold mPop at e
  split at e
  · rename_i d' hx
    cases e
    obtain ⟨v, hv, rv⟩ := r.get hx
    obtain rfl : vs = [] := rd
    exact ⟨a, us, v, rfl, rfl, h, by rw [r.length]; exact hv, q _ _ r.dropLast rv⟩
  · cases e
/-- what pe_bm asks of the arguments' number -/
abbrev Few (X : Cx) (e : Expr) (cpos : Pos) : Prop := ((backTo cpos (starEach (e :: []) X.env)).all (fun x => !x.1) && (backToKw cpos (keywordEach [] X.env)).all (fun x => x.1.isSome) && decide ((e :: ([] : List Expr)).length + ([] : List Keyword).length + (if ([] : List Keyword).isEmpty then 0 else 1) < 30)) = true
/-- x.m(e), x a name that owns its list -/
theorem e_mut (i : Nat) {op : List D → List D → Option (List D × D)} {r : V → List V → Hp → VK → Prop} {name : Str} {id : String} {y : Str} {e : Expr} {os : List Opd} {py apos cpos : Pos} (hr : MutR X.K op r) (slot : Slot "list" name id) (hty : typeOf (.builtin id) = pure (.type "method_descriptor")) (hm : MtR X id r) (ha : DAs X W [e] os) (hv : allV os = true := by rfl)
    (hN : X.N[i]? = some y := by rfl) (hvis : Vis X.env.scope y := by first | exact Or.inl rfl | exact Or.inr (Or.inl rfl) | exact Or.inr (Or.inr rfl)) (hd : (y == ("__debug__" : Str)) = false := by decide) (hcd : (y == ("__classdict__" : Str)) = false := by decide)
    (hb : attributeBase (.Name y py) name X.env (eval (.Name y py) X.env) = eval (.Name y py) X.env := by rfl) (hf : Few X e cpos := by rfl) (hl : (apos.endLine == cpos.line) = true := by rfl)
    (he : starEach (e :: []) X.env = (false, eval e X.env) :: starEach [] X.env := by rfl) (hpl : (backTo cpos (starEach [] X.env)).any (·.1) = false := by rfl) : DEv X W (.Call (.Attribute (.Name y py) name apos) [e] [] cpos) (dMut op i os) := by
  obtain ⟨t, h, s⟩ := ha
  exact ⟨_, pe_bm (cpos := cpos) (apos := apos) PySem.F.plainAttrs_list slot hty hm (pe_var (pos := py) hN hvis hd hcd) h hb hf hl he hpl, sem_mut s hv hr⟩
theorem e_mut0 (i : Nat) {op : List D → List D → Option (List D × D)} {r : V → List V → Hp → VK → Prop} {name : Str} {id : String} {y : Str} {py apos cpos : Pos} (hr : MutR X.K op r) (slot : Slot "list" name id) (hty : typeOf (.builtin id) = pure (.type "method_descriptor")) (hm : MtR X id r)
    (hN : X.N[i]? = some y := by rfl) (hvis : Vis X.env.scope y := by first | exact Or.inl rfl | exact Or.inr (Or.inl rfl) | exact Or.inr (Or.inr rfl)) (hd : (y == ("__debug__" : Str)) = false := by decide) (hcd : (y == ("__classdict__" : Str)) = false := by decide)
    (hb : attributeBase (.Name y py) name X.env (eval (.Name y py) X.env) = eval (.Name y py) X.env := by rfl) (hl : (apos.endLine == cpos.line) = true := by rfl) : DEv X W (.Call (.Attribute (.Name y py) name apos) [] [] cpos) (dMut op i []) :=
  ⟨_, pe_bm0 (cpos := cpos) (apos := apos) PySem.F.plainAttrs_list slot hty hm (pe_var (pos := py) hN hvis hd hcd) hb hl, sem_mut (os := []) asem_nil rfl hr⟩
theorem MtR.orM {id : String} {r r' : V → List V → Hp → VK → Prop} (h : MtR X id r) (h' : MtR X id r') : MtR X id (fun x xs H Q => r x xs H Q ∨ r' x xs H Q) := h.or h'
theorem e_append (i : Nat) {y : Str} {e : Expr} {os : List Opd} {py apos cpos : Pos} (ha : DAs X W [e] os) (hv : allV os = true := by rfl)
    (hN : X.N[i]? = some y := by rfl) (hvis : Vis X.env.scope y := by first | exact Or.inl rfl | exact Or.inr (Or.inl rfl) | exact Or.inr (Or.inr rfl)) (hd : (y == ("__debug__" : Str)) = false := by decide) (hcd : (y == ("__classdict__" : Str)) = false := by decide)
    (hb : attributeBase (.Name y py) "append" X.env (eval (.Name y py) X.env) = eval (.Name y py) X.env := by rfl) (hf : Few X e cpos := by rfl) (hl : (apos.endLine == cpos.line) = true := by rfl)
    (he : starEach (e :: []) X.env = (false, eval e X.env) :: starEach [] X.env := by rfl) (hpl : (backTo cpos (starEach [] X.env)).any (·.1) = false := by rfl) : DEv X W (.Call (.Attribute (.Name y py) "append" apos) [e] [] cpos) (dMut mApp i os) :=
  e_mut i mr_app PySem.F.slot_list_append PySem.F.type_list_append mt_append ha hv hN hvis hd hcd hb hf hl he hpl
theorem e_extend (i : Nat) {y : Str} {e : Expr} {os : List Opd} {py apos cpos : Pos} (ha : DAs X W [e] os) (hv : allV os = true := by rfl)
    (hN : X.N[i]? = some y := by rfl) (hvis : Vis X.env.scope y := by first | exact Or.inl rfl | exact Or.inr (Or.inl rfl) | exact Or.inr (Or.inr rfl)) (hd : (y == ("__debug__" : Str)) = false := by decide) (hcd : (y == ("__classdict__" : Str)) = false := by decide)
    (hb : attributeBase (.Name y py) "extend" X.env (eval (.Name y py) X.env) = eval (.Name y py) X.env := by rfl) (hf : Few X e cpos := by rfl) (hl : (apos.endLine == cpos.line) = true := by rfl)
    (he : starEach (e :: []) X.env = (false, eval e X.env) :: starEach [] X.env := by rfl) (hpl : (backTo cpos (starEach [] X.env)).any (·.1) = false := by rfl) : DEv X W (.Call (.Attribute (.Name y py) "extend" apos) [e] [] cpos) (dMut mExt i os) :=
  e_mut i mr_ext PySem.F.slot_list_extend PySem.F.type_list_extend (MtR.orM mt_extend mt_extT) ha hv hN hvis hd hcd hb hf hl he hpl
theorem e_pop (i : Nat) {y : Str} {py apos cpos : Pos}
    (hN : X.N[i]? = some y := by rfl) (hvis : Vis X.env.scope y := by first | exact Or.inl rfl | exact Or.inr (Or.inl rfl) | exact Or.inr (Or.inr rfl)) (hd : (y == ("__debug__" : Str)) = false := by decide) (hcd : (y == ("__classdict__" : Str)) = false := by decide)
    (hb : attributeBase (.Name y py) "pop" X.env (eval (.Name y py) X.env) = eval (.Name y py) X.env := by rfl) (hl : (apos.endLine == cpos.line) = true := by rfl) : DEv X W (.Call (.Attribute (.Name y py) "pop" apos) [] [] cpos) (dMut mPop i []) :=
  e_mut0 i mr_pop PySem.F.slot_list_pop PySem.F.type_list_pop mt_pop hN hvis hd hcd hb hl

/-! ### x[k] = e -/
def dSetIx (i : Nat) (os : List Opd) (m : DE) : DS := fun env => (m env).bind fun r env1 => match (env1[i]? : Option (Option Ent)) with
  | some (some (Ent.mk Md.own (.lst _))) => (evOs os env1).bind fun avs env2 => match getAVs env2 avs, (env2[i]? : Option (Option Ent)) with
    | some [.int k], some (some (Ent.mk Md.own (.lst xs))) => (match ixN xs.length k with
      | some j => .ok .nx (env2.set i (some ⟨.own, .lst (xs.set j r.d)⟩))
      | none => .bad)
    | _, _ => .bad
  | _ => .bad
theorem s_setIx (i : Nat) {y : Str} {idx e : Expr} {m : DE} {o : Opd} {py tpos pos : Pos} (hm : DEv X W e m) (hx : DOp X W idx o)
    (hN : X.N[i]? = some y := by rfl) (hvis : Vis X.env.scope y := by first | exact Or.inl rfl | exact Or.inr (Or.inl rfl) | exact Or.inr (Or.inr rfl)) (hd : (y == ("__debug__" : Str)) = false := by decide) (hcd : (y == ("__classdict__" : Str)) = false := by decide)
    (hs : swapsWithSole [.Subscript (.Name y py) idx tpos] e pos.line X.env = pure false := by rfl) (hw : swappedStores [.Subscript (.Name y py) idx tpos] e X.env = pure none := by rfl)
    (hasg : ∀ v, assign (.Subscript (.Name y py) idx tpos) X.env v = (do
      let ov ← holding [v] (eval (.Name y py) X.env)
      let iv ← holding [v, ov] (eval idx X.env)
      standAt tpos
      holding [v, ov, iv] (setItem ov iv v)
      release [v, ov, iv] []) := by intro _; rfl) :
    DSt X W B (.Assign [.Subscript (.Name y py) idx tpos] e pos) (dSetIx i [o] m) := by
  obtain ⟨te, h1, s1⟩ := hm
  obtain ⟨ti, h2, s2⟩ := hx
  refine ⟨_, ps_asg h1 (pg_sub (pe_var hN hvis hd hcd) h2 set_list hasg) hs hw, fun O F σ H env Dn st g => ?_⟩
  refine s1 O F σ H env _ st ?_
  unfold dSetIx at g
  cases q : m env with
  | bad => rw [q] at g; exact g.elim
  | err y' e => rw [q] at g; exact fun F' H' c d e' s' r => g F' H' σ c d e' s' Keeps.refl r
  | ok r env1 =>
    rw [q] at g
    simp only [R.bind] at g
    intro F1 H1 v E1 st1 r1
    obtain ⟨F2, E2, st2, r2⟩ := freeze st1 r1
    split at g
    · rename_i l0 hi0
      obtain ⟨a, us0, es0, e0, hσ, hH, _, _, _⟩ := st2.own i .own _ hi0 nofun
      refine ⟨.ref a, hσ, ?_⟩
      have m2 := asem1 s2 O F2 σ H1 env1 (fun vs H4 => match vs with
        | [w'] => rSetL (.ref a) w' v H4 fun H6 => Dn.nx σ H6
        | _ => False) st2
      refine m2 ?_
      clear m2
      cases q4 : evOs [o] env1 with
      | bad => rw [q4] at g; exact g.elim
      | err x e => rw [q4] at g; exact fun F' H' c d e' s' r => g F' H' σ c d ((E1.trans E2).trans e') s' Keeps.refl r
      | ok avs env4 =>
        rw [q4] at g
        simp only [] at g
        intro F5 H5 vs5 E5 st5 r5
        split at g
        · rename_i k xs hk hi5
          have tops := AVs.tops st5 r5 hk
          obtain ⟨w, _, rfl, rw', rfl⟩ := tops
          cases rw'
          obtain ⟨a', us, es, e2, hσ', hH5, rl, nF, nO⟩ := st5.own i .own _ hi5 nofun
          cases e2
          rw [hσ] at hσ'
          cases hσ'
          cases hj : ixN xs.length k with
          | none => rw [hj] at g; exact g.elim
          | some j =>
            rw [hj] at g
            obtain ⟨st6, E6⟩ := st5.write hi5 nofun hσ hH5 nF nO (RepL.set (Rep.ext E5 _ _ r2) j rl)
            exact ⟨a, us, k, j, rfl, rfl, hH5, by rw [rl.length]; exact hj, g F5 _ σ (((E1.trans E2).trans E5).trans E6) st6 Keeps.refl⟩
        · exact g.elim
    · exact g.elim

/-! ### x += e, numbers -/
def dAug (i : Nat) (f : Int → Int → Int) (m : DE) : DS := fun env => match (env[i]? : Option (Option Ent)) with
  | some (some (Ent.mk Md.shr (.int a))) => (m env).bind fun r env1 => match r with
    | ⟨.shr, .int b⟩ => .ok .nx (env1.set i (some ⟨.shr, .int (f a b)⟩))
    | _ => .bad
  | _ => .bad
theorem s_aug (i : Nat) {f : Int → Int → Int} {op : Operator} {x : Str} {e : Expr} {m : DE} {pos' pos : Pos} (hN : X.N.Nodup) (ho : PIp X op (ipI f)) (hm : DEv X W e m) (hi : X.N[i]? = some x := by rfl) (hx : Loc X.env.scope x := by first | exact Or.inl rfl | exact Or.inr rfl) (hB : B i = false := by rfl)
    (hf : X.fn x = true ∨ X.env.scope.names.lookup x = some .local := by first | exact .inl rfl | exact .inr rfl | assumption) : DSt X W B (.AugAssign (.Name x pos') op e pos) (dAug i f m) := by
  obtain ⟨te, h1, s1⟩ := hm
  refine ⟨_, ps_aug hN hi hx h1 ho hf, fun O F σ H env Dn st g => ?_⟩
  unfold dAug at g
  split at g
  · rename_i a ha
    obtain ⟨v, hv, rv⟩ := st.shr i _ ha
    cases rv
    refine ⟨_, hv, s1 O F σ H env _ st ?_⟩
    cases q : m env with
    | bad => rw [q] at g; exact g.elim
    | err y' e => rw [q] at g; exact fun F' H' c d e' s' r => g F' H' σ c d e' s' Keeps.refl r
    | ok r env1 =>
      rw [q] at g
      simp only [R.bind] at g
      intro F1 H1 v E1 st1 r1
      split at g
      · rename_i b
        cases r1
        exact ⟨a, b, rfl, rfl, g F1 H1 _ E1 (st1.store (e := ⟨.shr, .int (f a b)⟩) rfl) (keeps_set hB)⟩
      · exact g.elim
  · exact g.elim

/-! ### raise X('..') -/
def dRaise (c : Str) : DS := fun env => .err ⟨c, []⟩ env
theorem s_raise {x : Str} {C : Addr} {m : Str} {j : Nat} {p p2 cp pos : Pos} (hc : X.calm = true) (tk : Takes X W) (q : PySem.W.excIn X.K C [.type "ValueError", .type "Exception", .type "BaseException", .type "object"] "ValueError.__new__" = true) (gC : X.mg x = some (.ref C)) (kC : PySem.W.keepIn X.K (.ref C) = true)
    (r1 : PySem.W.subIn X.K (.ref C) (.type "BaseException") = some true) (r2 : PySem.W.typeIn X.K (.ref C) = some (.type "type")) (hg : Gl X x := by rfl) (hdb : (x == ("__debug__" : Str)) = false := by decide) :
    DSt X W B (.Raise (some (.Call (.Name x p) [.Constant (.str m) j p2] [] cp)) none pos) (dRaise x) :=
  ⟨_, ps_raise hc tk (pmk_own PySem.F.excBase_ValueError q gC kC (raises_own r1 r2) hg hdb), fun O F σ H env Dn st g => g F H σ (.ref C) none Ext.refl st Keeps.refl ⟨C, gC, rfl, rfl, rfl⟩⟩
end
end DL
/-! DL9: the operations on data, each with its rule. -/
namespace DL
open PySem PySem.Spec PyProof.Rows L2

/-! ### data as the library's data -/
mutual
def toP : D → PyData
  | .non => .none
  | .bl b => .bool b
  | .int i => .int i
  | .str x => .str x
  | .lst ds => .list (toPs ds)
  | .tup ds => .tuple (toPs ds)
  | .fz ds => .list (toPs ds)
  | .exc _ _ => .none
  | .pr _ _ => .none
  | .rng _ _ => .none
def toPs : List D → List PyData
  | [] => []
  | d :: ds => toP d :: toPs ds
end
mutual
def plain : D → Bool
  | .lst ds => plains ds
  | .tup ds => plains ds
  | .fz ds => plains ds
  | .exc _ _ => false
  | .pr _ _ => false
  | .rng _ _ => false
  | _ => true
def plains : List D → Bool
  | [] => true
  | d :: ds => plain d && plains ds
end
mutual
theorem dp_of {K : PySem.W.Frag} {F : Fz} {H : Hp} : ∀ (d : D) (v : V), plain d = true → Rep K F H d v → Dp K H v (toP d)
  | .non, v, _, h => by rw [show v = V.non from h]; exact .non
  | .bl b, v, _, h => by rw [show v = V.bl b from h]; exact .bl b
  | .int i, v, _, h => by rw [show v = V.int i from h]; exact .int i
  | .str x, v, _, h => by rw [show v = V.str x from h]; exact .str x
  | .lst ds, v, p, h => by
    obtain ⟨a, vs, rfl, _, ha, r⟩ := h
    exact .lst (SqL.of ha) (dps_of ds vs p r)
  | .tup ds, v, p, h => by
    obtain ⟨a, vs, rfl, ha, r⟩ := h
    exact .tup ha.sq (dps_of ds vs p r)
  | .fz ds, v, p, h => by
    obtain ⟨a, vs, rfl, ha, r⟩ := h
    exact .lst ha.sq (dps_of ds vs p r)
  | .exc _ _, _, p, _ => by cases p
  | .pr _ _, _, p, _ => by cases p
  | .rng _ _, _, p, _ => by cases p
theorem dps_of {K : PySem.W.Frag} {F : Fz} {H : Hp} : ∀ (ds : List D) (vs : List V), plains ds = true → RepL K F H ds vs → DpAll K H vs (toPs ds)
  | [], vs, _, h => by rw [show vs = [] from h]; exact .nil
  | d :: ds, vs, p, h => by
    obtain ⟨v, r, rfl, h1, h2⟩ := h
    have q := Bool.and_eq_true_iff.mp (show (plain d && plains ds) = true from p)
    exact .cons (dp_of d v q.1 h1) (dps_of ds r q.2 h2)
end
theorem dp_top {K : PySem.W.Frag} {F : Fz} {H : Hp} {d : D} {v : V} (p : plain d = true) (h : RepT K F H d v) : Dp K H v (toP d) := by
  cases d with
  | lst ds =>
    obtain ⟨a, vs, rfl, ha, r⟩ := h
    exact .lst (SqL.of ha) (dps_of ds vs p r)
  | non => exact dp_of (F := F) _ _ p h
  | bl b => exact dp_of (F := F) _ _ p h
  | int i => exact dp_of (F := F) _ _ p h
  | str x => exact dp_of (F := F) _ _ p h
  | tup ds => exact dp_of (F := F) _ _ p h
  | fz ds => exact dp_of (F := F) _ _ p h
  | exc c fs => exact dp_of (F := F) _ _ p h
  | pr x y => exact dp_of (F := F) _ _ p h
  | rng x y => exact dp_of (F := F) _ _ p h
def okD (d : D) : Bool := plain d && SeqAt.shaped (toP d)
def deq (a b : D) : Bool := PyData.eqv (toP a) (toP b)

section
variable {X : Cx} {W : WX}
/-! ### whole numbers -/
def pInt2 (f : Int → Int → Option D) : Pr := fun ds => match ds with
  | [.int a, .int b] => (f a b).map PR.d
  | _ => none
theorem pr_int2 {K : PySem.W.Frag} {f : Int → Int → Option D} {r : R2} (h : ∀ a b d H (Q : VK), f a b = some d → (∀ v, (∀ K F H, Rep K F H d v) → Q v H) → r (.int a) (.int b) H Q) : PrimR K (pInt2 f) (two r) := fun F H ds vs Q pr fd rt e q => by
  unfold pInt2 at e
  split at e
  · rename_i a b
    obtain ⟨v, _, rfl, h1, w, _, rfl, h2, rfl⟩ := rt
    cases h1
    cases h2
    cases hf : f a b with
    | none => rw [hf] at e; cases e
    | some d =>
      rw [hf] at e
      cases e
      exact h a b d H Q hf fun v hv => q H v (Same.refl _) (hv _ _ _)
  · cases e
def pSub : Pr := pInt2 fun a b => some (.int (a - b))
theorem pr_sub {K : PySem.W.Frag} : PrimR K pSub (two (rI0 fun i j => .int (i - j))) := pr_int2 fun a b d H Q e q => by cases e; exact ⟨a, b, rfl, rfl, q _ fun _ _ _ => rfl⟩
def wideMul (a b : Int) : Bool := decide (a.natAbs.log2 + b.natAbs.log2 < 1000000)
def pFdiv : Pr := pInt2 fun a b => if 0 < b ∧ b.natAbs.log2 < 9000 then some (.int (a / b)) else none
theorem pr_fdiv {K : PySem.W.Frag} : PrimR K pFdiv (two (rI CDivW fun i j => .int (i / j))) := pr_int2 fun a b d H Q e q => by
  split at e
  · rename_i hb
    cases e
    exact ⟨a, b, rfl, rfl, hb, q _ fun _ _ _ => rfl⟩
  · cases e
def pMod : Pr := pInt2 fun a b => if 0 < b then some (.int (a % b)) else none
theorem pr_mod {K : PySem.W.Frag} : PrimR K pMod (two (rI (fun _ j => 0 < j) fun i j => .int (i % j))) := pr_int2 fun a b d H Q e q => by
  split at e
  · rename_i hb
    cases e
    exact ⟨a, b, rfl, rfl, hb, q _ fun _ _ _ => rfl⟩
  · cases e
def pPow : Pr := pInt2 fun a b => if 0 ≤ b ∧ b ≤ 1000000 ∧ a.natAbs < 2 ^ 64 then some (.int (a ^ b.toNat)) else none
theorem pr_pow {K : PySem.W.Frag} : PrimR K pPow (two (rI CPow fun i j => .int (i ^ j.toNat))) := pr_int2 fun a b d H Q e q => by
  split at e
  · rename_i hb
    cases e
    exact ⟨a, b, rfl, rfl, hb, q _ fun _ _ _ => rfl⟩
  · cases e
def pCmp (p : Int → Int → Bool) : Pr := pInt2 fun a b => some (.bl (p a b))
abbrev pLt : Pr := pCmp fun a b => decide (a < b)
abbrev pLe : Pr := pCmp fun a b => decide (a ≤ b)
abbrev pGt : Pr := pCmp fun a b => decide (b < a)
abbrev pGe : Pr := pCmp fun a b => decide (b ≤ a)
theorem pr_cmp {K : PySem.W.Frag} {p : Int → Int → Bool} : PrimR K (pCmp p) (two (rI0 fun i j => .bl (p i j))) := pr_int2 fun a b d H Q e q => by cases e; exact ⟨a, b, rfl, rfl, q _ fun _ _ _ => rfl⟩
def pNeg : Pr := fun ds => match ds with
  | [.int a] => some (.d (.int (-a)))
  | _ => none
theorem pr_neg {K : PySem.W.Frag} : PrimR K pNeg (one (rU fun i => .int (-i))) := fun F H ds vs Q pr fd rt e q => by
  unfold pNeg at e
  split at e
  · rename_i a
    obtain ⟨v, _, rfl, h1, rfl⟩ := rt
    cases h1
    cases e
    exact ⟨a, rfl, q H _ (Same.refl _) rfl⟩
  · cases e

/-! ### + -/
def pAdd : Pr := fun ds => match ds with
  | [.int a, .int b] => some (.d (.int (a + b)))
  | [.str a, .str b] => if a.length + b.length ≤ sizeLine then some (.d (.str (a ++ b))) else none
  | [.tup a, .tup b] => if a.length + b.length ≤ sizeLine then some (.d (.tup (a ++ b))) else none
  | [.lst a, .lst b] => if a.length + b.length ≤ sizeLine then some (.nl (a ++ b)) else none
  | _ => none
def rAddS : R2 := fun x y H Q => ∃ i j, x = .str i ∧ y = .str j ∧ i.length + j.length ≤ sizeLine ∧ Q (.str (i ++ j)) H
def rAddAll (K : PySem.W.Frag) : R2 := fun x y H Q => (rI0 fun i j => .int (i + j)) x y H Q ∨ rAddS x y H Q ∨ rCatL K x y H Q ∨ rCat x y H Q
theorem op_addAll : OpR X (binaryOp .Add) (rAddAll X.K) := op_add.or (OpR.or op_add_str (op_catL.or op_cat))
theorem pr_add {K : PySem.W.Frag} : PrimR K pAdd (two (rAddAll K)) := fun F H ds vs Q pr fd rt e q => by
  unfold pAdd at e
  split at e
  · rename_i a b
    obtain ⟨v, _, rfl, h1, w, _, rfl, h2, rfl⟩ := rt
    cases h1
    cases h2
    cases e
    exact .inl ⟨a, b, rfl, rfl, q H _ (Same.refl _) rfl⟩
  · rename_i a b
    obtain ⟨v, _, rfl, h1, w, _, rfl, h2, rfl⟩ := rt
    cases h1
    cases h2
    split at e
    · rename_i hl
      cases e
      exact .inr (.inl ⟨a, b, rfl, rfl, hl, q H _ (Same.refl _) rfl⟩)
    · cases e
  · rename_i a b
    obtain ⟨v, _, rfl, ⟨p, us, rfl, hp, r1⟩, w, _, rfl, ⟨p2, ws, rfl, hp2, r2⟩, rfl⟩ := rt
    split at e
    · rename_i hl
      cases e
      refine .inr (.inr (.inl ⟨p, p2, us, ws, rfl, rfl, hp.sq, hp2.sq, by rw [r1.length, r2.length]; exact hl, fun z => ?_, fun _ z => ?_, fun _ _ c o hd hc => ?_⟩))
      · subst z
        have : a = [] := List.eq_nil_of_length_eq_zero (by rw [← r1.length]; rfl)
        subst this
        exact q H _ (Same.refl _) ⟨p2, ws, rfl, hp2, r2⟩
      · subst z
        have : b = [] := List.eq_nil_of_length_eq_zero (by rw [← r2.length]; rfl)
        subst this
        refine q H _ (Same.refl _) ⟨p, us, rfl, hp, ?_⟩
        rw [List.append_nil]
        exact r1
      · exact q _ _ (same_new hc) ⟨c, us ++ ws, rfl, ⟨o, hd, upd_same⟩, repL_same (same_new hc) (r1.append r2)⟩
    · cases e
  · rename_i a b
    obtain ⟨v, _, rfl, ⟨p, us, rfl, hp, r1⟩, w, _, rfl, ⟨p2, ws, rfl, hp2, r2⟩, rfl⟩ := rt
    split at e
    · rename_i hl
      cases e
      refine .inr (.inr (.inr ⟨p, p2, us, ws, rfl, rfl, hp, hp2, by rw [r1.length, r2.length]; exact hl, fun c hc => ?_⟩))
      exact q _ _ (same_new hc) ⟨c, us ++ ws, rfl, hc, upd_same, repL_same (same_new hc) (r1.append r2)⟩
    · cases e
  · cases e
/-! ### * -/
def pMul : Pr := fun ds => match ds with
  | [.int a, .int b] => if wideMul a b = true then some (.d (.int (a * b))) else none
  | [.lst a, .int k] => if -(2 ^ 63) ≤ k ∧ k < 2 ^ 63 ∧ a.length * k.toNat ≤ sizeLine then some (.nl (List.replicate k.toNat a).flatten) else none
  | [.tup a, .int k] => if a ≠ [] ∧ 0 ≤ k ∧ k ≤ 1000 ∧ a.length ≤ 1000 then some (.d (.tup (List.replicate k.toNat a).flatten)) else none
  | _ => none
def rMulAll (K : PySem.W.Frag) : R2 := fun x y H Q => (rI CMulW fun i j => .int (i * j)) x y H Q ∨ rRep x y H Q ∨ rRepL K x y H Q
theorem op_mulAll : OpR X (binaryOp .Mult) (rMulAll X.K) := op_mulW.or (OpR.or op_rep op_repL)
theorem pr_mul {K : PySem.W.Frag} : PrimR K pMul (two (rMulAll K)) := fun F H ds vs Q pr fd rt e q => by
  unfold pMul at e
  split at e
  · rename_i a b
    obtain ⟨v, _, rfl, h1, w, _, rfl, h2, rfl⟩ := rt
    cases h1
    cases h2
    split at e
    · rename_i hw
      cases e
      exact .inl ⟨a, b, rfl, rfl, (show a.natAbs.log2 + b.natAbs.log2 < 1000000 by unfold wideMul at hw; exact of_decide_eq_true hw), q H _ (Same.refl _) rfl⟩
    · cases e
  · rename_i a k
    obtain ⟨v, _, rfl, ⟨p, us, rfl, hp, r1⟩, w, _, rfl, h2, rfl⟩ := rt
    cases h2
    split at e
    · rename_i hl
      cases e
      refine .inr (.inl ⟨p, k, us, rfl, rfl, hp, hl.1, hl.2.1, by rw [r1.length]; exact hl.2.2, fun c hc => ?_⟩)
      exact q _ _ (same_new hc) ⟨c, _, rfl, hc, upd_same, repL_same (same_new hc) (r1.rep k.toNat)⟩
    · cases e
  · rename_i a k
    obtain ⟨v, _, rfl, ⟨p, us, rfl, hp, r1⟩, w, _, rfl, h2, rfl⟩ := rt
    cases h2
    split at e
    · rename_i hl
      cases e
      refine .inr (.inr ⟨p, k, us, rfl, rfl, hp.sq, fun z => ?_, hl.2.1, hl.2.2.1, by rw [r1.length]; exact hl.2.2.2, fun hk => ?_, fun _ c o hd hc => ?_⟩)
      · subst z
        exact hl.1 (List.eq_nil_of_length_eq_zero (by rw [← r1.length]; rfl))
      · subst hk
        refine q H _ (Same.refl _) ⟨p, us, rfl, hp, ?_⟩
        have := r1.rep 1
        simpa using this
      · exact q _ _ (same_new hc) ⟨c, _, rfl, ⟨o, hd, upd_same⟩, repL_same (same_new hc) (r1.rep k.toNat)⟩
    · cases e
  · cases e
/-! ### ==, != of data; is -/
def pEq : Pr := fun ds => match ds with
  | [a, b] => if (okD a && okD b) = true then some (.d (.bl (deq a b))) else none
  | _ => none
def pNe : Pr := fun ds => match ds with
  | [a, b] => if (okD a && okD b) = true then some (.d (.bl (!deq a b))) else none
  | _ => none
theorem okD_and {a b : D} (h : (okD a && okD b) = true) : (plain a = true ∧ SeqAt.shaped (toP a) = true) ∧ plain b = true ∧ SeqAt.shaped (toP b) = true := by
  have h1 := Bool.and_eq_true_iff.mp h
  exact ⟨Bool.and_eq_true_iff.mp h1.1, Bool.and_eq_true_iff.mp h1.2⟩
theorem pr_eq {K : PySem.W.Frag} : PrimR K pEq (two (rEqD K)) := fun F H ds vs Q pr fd rt e q => by
  unfold pEq at e
  split at e
  · rename_i a b
    obtain ⟨v, _, rfl, h1, w, _, rfl, h2, rfl⟩ := rt
    split at e
    · rename_i hk
      cases e
      obtain ⟨⟨p1, s1⟩, p2, s2⟩ := okD_and hk
      exact ⟨toP a, toP b, dp_top p1 h1, dp_top p2 h2, s1, s2, q H _ (Same.refl _) rfl⟩
    · cases e
  · cases e
theorem pr_ne {K : PySem.W.Frag} : PrimR K pNe (two (rNeD K)) := fun F H ds vs Q pr fd rt e q => by
  unfold pNe at e
  split at e
  · rename_i a b
    obtain ⟨v, _, rfl, h1, w, _, rfl, h2, rfl⟩ := rt
    split at e
    · rename_i hk
      cases e
      obtain ⟨⟨p1, s1⟩, p2, s2⟩ := okD_and hk
      exact ⟨toP a, toP b, dp_top p1 h1, dp_top p2 h2, s1, s2, q H _ (Same.refl _) rfl⟩
    · cases e
  · cases e
def isNonD : D → Bool
  | .non => true
  | _ => false
@[simp] theorem isNonD_non : isNonD .non = true := rfl
@[simp] theorem isNonD_bl (b : Bool) : isNonD (.bl b) = false := rfl
@[simp] theorem isNonD_int (b : Int) : isNonD (.int b) = false := rfl
@[simp] theorem isNonD_str (b : Str) : isNonD (.str b) = false := rfl
@[simp] theorem isNonD_lst (b : List D) : isNonD (.lst b) = false := rfl
@[simp] theorem isNonD_tup (b : List D) : isNonD (.tup b) = false := rfl
@[simp] theorem isNonD_fz (b : List D) : isNonD (.fz b) = false := rfl
theorem isNonD_v {K : PySem.W.Frag} {F : Fz} {H : Hp} : ∀ {d : D} {v : V}, RepT K F H d v → decide (v = V.non) = isNonD d
  | .non, _, h => by rw [show _ = V.non from h]; rfl
  | .bl b, _, h => by rw [show _ = V.bl b from h]; exact decide_eq_false nofun
  | .int b, _, h => by rw [show _ = V.int b from h]; exact decide_eq_false nofun
  | .str b, _, h => by rw [show _ = V.str b from h]; exact decide_eq_false nofun
  | .lst _, _, ⟨a, _, e, _⟩ => by rw [e]; exact decide_eq_false nofun
  | .tup _, _, ⟨a, _, e, _⟩ => by rw [e]; exact decide_eq_false nofun
  | .pr _ _, _, ⟨a, _, _, e, _⟩ => by rw [e]; exact decide_eq_false nofun
  | .rng _ _, _, ⟨a, _, e, _⟩ => by rw [e]; exact decide_eq_false nofun
  | .fz _, _, ⟨a, _, e, _⟩ => by rw [e]; exact decide_eq_false nofun
  | .exc _ _, _, h => by
    obtain ⟨_, a, o, u, C, _, _, _, rfl, _⟩ := h
    simp [isNonD]
def pIsN : Pr := fun ds => match ds with
  | [a, .non] => some (.d (.bl (isNonD a)))
  | _ => none
def pNotN : Pr := fun ds => match ds with
  | [a, .non] => some (.d (.bl (!isNonD a)))
  | _ => none
def rIsN0 : R2 := fun x y H Q => y = .non ∧ Q (.bl (decide (x = .non))) H
def rNotN0 : R2 := fun x y H Q => y = .non ∧ Q (.bl (!decide (x = .non))) H
theorem pr_isN {K : PySem.W.Frag} : PrimR K pIsN (two rIsN0) := fun F H ds vs Q pr fd rt e q => by
  unfold pIsN at e
  split at e
  · rename_i a
    obtain ⟨v, _, rfl, h1, w, _, rfl, h2, rfl⟩ := rt
    cases h2
    cases e
    refine ⟨rfl, ?_⟩
    rw [isNonD_v h1]
    exact q H _ (Same.refl _) rfl
  · cases e
theorem pr_notN {K : PySem.W.Frag} : PrimR K pNotN (two rNotN0) := fun F H ds vs Q pr fd rt e q => by
  unfold pNotN at e
  split at e
  · rename_i a
    obtain ⟨v, _, rfl, h1, w, _, rfl, h2, rfl⟩ := rt
    cases h2
    cases e
    refine ⟨rfl, ?_⟩
    rw [isNonD_v h1]
    exact q H _ (Same.refl _) rfl
  · cases e
def pIsB : Pr := fun ds => match ds with
  | [.bl a, .bl b] => some (.d (.bl (decide (a = b))))
  | _ => none
def pNotB : Pr := fun ds => match ds with
  | [.bl a, .bl b] => some (.d (.bl (!decide (a = b))))
  | _ => none
theorem pr_isB {K : PySem.W.Frag} : PrimR K pIsB (two rIsB) := fun F H ds vs Q pr fd rt e q => by
  unfold pIsB at e
  split at e
  · rename_i a b
    obtain ⟨v, _, rfl, h1, w, _, rfl, h2, rfl⟩ := rt
    cases h1
    cases h2
    cases e
    exact ⟨a, b, rfl, rfl, q H _ (Same.refl _) rfl⟩
  · cases e
theorem pr_notB {K : PySem.W.Frag} : PrimR K pNotB (two rNotB) := fun F H ds vs Q pr fd rt e q => by
  unfold pNotB at e
  split at e
  · rename_i a b
    obtain ⟨v, _, rfl, h1, w, _, rfl, h2, rfl⟩ := rt
    cases h1
    cases h2
    cases e
    exact ⟨a, b, rfl, rfl, q H _ (Same.refl _) rfl⟩
  · cases e
/-! ### in, not in: flat things -/
def flatD : D → Bool
  | .non => true
  | .bl _ => true
  | .int _ => true
  | .str _ => true
  | _ => false
theorem flatD_v {K : PySem.W.Frag} {F : Fz} {H : Hp} : ∀ {d : D} {v : V}, Rep K F H d v → flatD d = true → flatV v = true
  | .non, _, h, _ => by rw [show _ = V.non from h]; rfl
  | .bl b, _, h, _ => by rw [show _ = V.bl b from h]; rfl
  | .int b, _, h, _ => by rw [show _ = V.int b from h]; rfl
  | .str b, _, h, _ => by rw [show _ = V.str b from h]; rfl
  | .lst _, _, _, f => by cases f
  | .tup _, _, _, f => by cases f
  | .fz _, _, _, f => by cases f
  | .exc _ _, _, _, f => by cases f
  | .pr _ _, _, _, f => by cases f
  | .rng _ _, _, _, f => by cases f
theorem eqV_d {K : PySem.W.Frag} {F : Fz} {H : Hp} {a b : D} {v w : V} (fa : flatD a = true) (fb : flatD b = true) (ha : Rep K F H a v) (hb : Rep K F H b w) : eqV v w = deq a b := by
  cases a with
  | lst _ => cases fa
  | tup _ => cases fa
  | fz _ => cases fa
  | exc _ _ => cases fa
  | pr _ _ => cases fa
  | rng _ _ => cases fa
  | _ =>
    cases b with
    | lst _ => cases fb
    | tup _ => cases fb
    | fz _ => cases fb
    | exc _ _ => cases fb
    | pr _ _ => cases fb
    | rng _ _ => cases fb
    | _ =>
      cases ha
      cases hb
      first | rfl | simp [eqV, deq, toP, PyData.eqv]
def inD (x : D) (xs : List D) : Bool := xs.any fun y => deq y x
theorem inV_d {K : PySem.W.Frag} {F : Fz} {H : Hp} {x : D} {v : V} (fx : flatD x = true) (hx : Rep K F H x v) : ∀ {xs : List D} {vs : List V}, xs.all flatD = true → RepL K F H xs vs → inV v vs = inD x xs ∧ vs.all flatV = true
  | [], vs, _, h => by rw [show vs = [] from h]; exact ⟨rfl, rfl⟩
  | d :: ds, vs, f, h => by
    obtain ⟨w, r, rfl, h1, h2⟩ := h
    have q := Bool.and_eq_true_iff.mp (show (flatD d && ds.all flatD) = true from f)
    obtain ⟨i1, i2⟩ := inV_d fx hx q.2 h2
    refine ⟨?_, ?_⟩
    · show (eqV w v || inV v r) = (deq d x || inD x ds)
      rw [eqV_d q.1 fx h1 hx, i1]
    · show (flatV w && r.all flatV) = true
      rw [flatD_v h1 q.1, i2]
      rfl
def flat_all (x : D) (xs : List D) : Bool := flatD x && xs.all flatD
def pInN (neg : Bool) : Pr := fun ds => match ds with
  | [x, .lst xs] => if flat_all x xs = true then some (.d (.bl (if neg then !inD x xs else inD x xs))) else none
  | [x, .tup xs] => if flat_all x xs = true then some (.d (.bl (if neg then !inD x xs else inD x xs))) else none
  | _ => none
theorem repT_flat {K : PySem.W.Frag} {F : Fz} {H : Hp} {x : D} {v : V} (h : RepT K F H x v) (f : flatD x = true) : Rep K F H x v := by
  cases x with
  | lst _ => cases f
  | _ => exact h
theorem pr_in {K : PySem.W.Frag} {neg : Bool} : PrimR K (pInN neg) (two (rIn K neg)) := fun F H ds vs Q pr fd rt e q => by
  unfold pInN at e
  split at e
  · rename_i x xs
    obtain ⟨v, _, rfl, h1, w, _, rfl, ⟨p, us, rfl, hp, r1⟩, rfl⟩ := rt
    split at e
    · rename_i hf
      cases e
      have qf := Bool.and_eq_true_iff.mp hf
      obtain ⟨i1, i2⟩ := inV_d qf.1 (repT_flat h1 qf.1) qf.2 r1
      refine ⟨p, us, rfl, .inl (SqL.of hp), flatD_v (repT_flat h1 qf.1) qf.1, i2, ?_⟩
      rw [i1]
      exact q H _ (Same.refl _) rfl
    · cases e
  · rename_i x xs
    obtain ⟨v, _, rfl, h1, w, _, rfl, ⟨p, us, rfl, hp, r1⟩, rfl⟩ := rt
    split at e
    · rename_i hf
      cases e
      have qf := Bool.and_eq_true_iff.mp hf
      obtain ⟨i1, i2⟩ := inV_d qf.1 (repT_flat h1 qf.1) qf.2 r1
      refine ⟨p, us, rfl, .inr (hp.sq), flatD_v (repT_flat h1 qf.1) qf.1, i2, ?_⟩
      rw [i1]
      exact q H _ (Same.refl _) rfl
    · cases e
  · cases e
/-! ### items -/
def pIx : Pr := fun ds => match ds with
  | [.lst xs, .int i] => (atI xs i).map PR.d
  | [.tup xs, .int i] => (atI xs i).map PR.d
  | [.fz xs, .int i] => (atI xs i).map PR.d
  | [.str z, .int i] => if z.length ≤ sizeLine then (atI z.cps.toList i).map fun c => PR.d (.str ⟨#[c]⟩) else none
  | _ => none
theorem repL_at {K : PySem.W.Frag} {F : Fz} {H : Hp} {xs : List D} {vs : List V} {i : Int} {d : D} (r : RepL K F H xs vs) (h : atI xs i = some d) : ∃ v, atI vs i = some v ∧ Rep K F H d v := by
  unfold atI at h ⊢
  rw [r.length]
  cases q : ixN xs.length i with
  | none => rw [q] at h; cases h
  | some j =>
    rw [q] at h
    exact r.get h
theorem pr_ix {K : PySem.W.Frag} : PrimR K pIx (two (rIx K)) := fun F H ds vs Q pr fd rt e q => by
  unfold pIx at e
  split at e
  · rename_i xs i
    obtain ⟨v, _, rfl, ⟨p, us, rfl, hp, r1⟩, w, _, rfl, h2, rfl⟩ := rt
    cases h2
    cases hx : atI xs i with
    | none => rw [hx] at e; cases e
    | some d =>
      rw [hx] at e
      cases e
      obtain ⟨u, hu, ru⟩ := repL_at r1 hx
      exact .inl ⟨p, us, i, u, rfl, rfl, SqL.of hp, hu, q H _ (Same.refl _) ru⟩
  · rename_i xs i
    obtain ⟨v, _, rfl, ⟨p, us, rfl, hp, r1⟩, w, _, rfl, h2, rfl⟩ := rt
    cases h2
    cases hx : atI xs i with
    | none => rw [hx] at e; cases e
    | some d =>
      rw [hx] at e
      cases e
      obtain ⟨u, hu, ru⟩ := repL_at r1 hx
      exact .inr (.inl ⟨p, us, i, u, rfl, rfl, hp.sq, hu, q H _ (Same.refl _) ru⟩)
  · rename_i xs i
    obtain ⟨v, _, rfl, ⟨p, us, rfl, hp, r1⟩, w, _, rfl, h2, rfl⟩ := rt
    cases h2
    cases hx : atI xs i with
    | none => rw [hx] at e; cases e
    | some d =>
      rw [hx] at e
      cases e
      obtain ⟨u, hu, ru⟩ := repL_at r1 hx
      exact .inl ⟨p, us, i, u, rfl, rfl, hp.sq, hu, q H _ (Same.refl _) ru⟩
  · rename_i z i
    obtain ⟨v, _, rfl, h1, w, _, rfl, h2, rfl⟩ := rt
    cases h1
    cases h2
    split at e
    · rename_i hz
      cases hx : atI z.cps.toList i with
      | none => rw [hx] at e; cases e
      | some c =>
        rw [hx] at e
        cases e
        exact .inr (.inr ⟨z, i, c, rfl, rfl, hz, hx, q H _ (Same.refl _) rfl⟩)
    · cases e
  · cases e
/-! ### built-ins -/
def pLen : Pr := fun ds => match ds with
  | [.lst xs] => some (.d (.int xs.length))
  | [.tup xs] => some (.d (.int xs.length))
  | [.fz xs] => some (.d (.int xs.length))
  | [.str z] => if z.length ≤ sizeLine then some (.d (.int z.length)) else none
  | _ => none
def rLen1 (K : PySem.W.Frag) : Rl := fun xs H Q => ∃ x n, xs = [x] ∧ LenV K x H n ∧ Q (.int n) H
theorem pr_len {K : PySem.W.Frag} : PrimR K pLen (rLen1 K) := fun F H ds vs Q pr fd rt e q => by
  unfold pLen at e
  split at e
  · obtain ⟨v, _, rfl, ⟨p, us, rfl, hp, r1⟩, rfl⟩ := rt
    cases e
    exact ⟨.ref p, us.length, rfl, .inl ⟨us, SqL.of hp, rfl⟩, by rw [r1.length]; exact q H _ (Same.refl _) rfl⟩
  · obtain ⟨v, _, rfl, ⟨p, us, rfl, hp, r1⟩, rfl⟩ := rt
    cases e
    exact ⟨.ref p, us.length, rfl, .inr ⟨us, hp.sq, rfl⟩, by rw [r1.length]; exact q H _ (Same.refl _) rfl⟩
  · obtain ⟨v, _, rfl, ⟨p, us, rfl, hp, r1⟩, rfl⟩ := rt
    cases e
    exact ⟨.ref p, us.length, rfl, .inl ⟨us, hp.sq, rfl⟩, by rw [r1.length]; exact q H _ (Same.refl _) rfl⟩
  · rename_i z
    obtain ⟨v, _, rfl, h1, rfl⟩ := rt
    cases h1
    split at e
    · rename_i hz
      cases e
      exact ⟨.str z, z.length, rfl, ⟨hz, rfl⟩, q H _ (Same.refl _) rfl⟩
    · cases e
  · cases e
def pIntOf : Pr := fun ds => match ds with
  | [.int a] => some (.d (.int a))
  | [.bl b] => some (.d (.int (if b then 1 else 0)))
  | _ => none
def rInt1 : Rl := fun xs H Q => (∃ i, xs = [.int i] ∧ Q (.int i) H) ∨ ∃ k, xs = [.bl k] ∧ Q (.int (if k then 1 else 0)) H
theorem pr_intOf {K : PySem.W.Frag} : PrimR K pIntOf rInt1 := fun F H ds vs Q pr fd rt e q => by
  unfold pIntOf at e
  split at e
  · obtain ⟨v, _, rfl, h1, rfl⟩ := rt
    cases h1
    cases e
    exact .inl ⟨_, rfl, q H _ (Same.refl _) rfl⟩
  · obtain ⟨v, _, rfl, h1, rfl⟩ := rt
    cases h1
    cases e
    exact .inr ⟨_, rfl, q H _ (Same.refl _) rfl⟩
  · cases e
def pMax : Pr := fun ds => match ds with
  | [.int i, .int j] => some (.d (.int (if j > i then j else i)))
  | _ => none
def pMin : Pr := fun ds => match ds with
  | [.int i, .int j] => some (.d (.int (if j < i then j else i)))
  | _ => none
def rMax2' : Rl := fun xs H Q => ∃ i j, xs = [.int i, .int j] ∧ Q (.int (if j > i then j else i)) H
def rMin2' : Rl := fun xs H Q => ∃ i j, xs = [.int i, .int j] ∧ Q (.int (if j < i then j else i)) H
theorem pr_max {K : PySem.W.Frag} : PrimR K pMax rMax2' := fun F H ds vs Q pr fd rt e q => by
  unfold pMax at e
  split at e
  · obtain ⟨v, _, rfl, h1, w, _, rfl, h2, rfl⟩ := rt
    cases h1
    cases h2
    cases e
    exact ⟨_, _, rfl, q H _ (Same.refl _) rfl⟩
  · cases e
theorem pr_min {K : PySem.W.Frag} : PrimR K pMin rMin2' := fun F H ds vs Q pr fd rt e q => by
  unfold pMin at e
  split at e
  · obtain ⟨v, _, rfl, h1, w, _, rfl, h2, rfl⟩ := rt
    cases h1
    cases h2
    cases e
    exact ⟨_, _, rfl, q H _ (Same.refl _) rfl⟩
  · cases e
def pTupOf : Pr := fun ds => match ds with
  | [.lst xs] => some (.d (.tup xs))
  | [.tup xs] => some (.d (.tup xs))
  | _ => none
theorem pr_tupOf {K : PySem.W.Frag} : PrimR K pTupOf (rTupOfL K) := fun F H ds vs Q pr fd rt e q => by
  unfold pTupOf at e
  split at e
  · obtain ⟨v, _, rfl, ⟨p, us, rfl, hp, r1⟩, rfl⟩ := rt
    cases e
    exact ⟨p, us, rfl, .inl ⟨SqL.of hp, fun c o hd hc => q _ _ (same_new hc) ⟨c, us, rfl, ⟨o, hd, upd_same⟩, repL_same (same_new hc) r1⟩⟩⟩
  · obtain ⟨v, _, rfl, ⟨p, us, rfl, hp, r1⟩, rfl⟩ := rt
    cases e
    exact ⟨p, us, rfl, .inr ⟨hp.sq, q H _ (Same.refl _) ⟨p, us, rfl, hp, r1⟩⟩⟩
  · cases e
def pLstOf : Pr := fun ds => match ds with
  | [.lst xs] => some (.nl xs)
  | [.tup xs] => some (.nl xs)
  | [.fz xs] => some (.nl xs)
  | _ => none
def rLstOf (K : PySem.W.Frag) : Rl := fun xs H Q => ∃ p ys, xs = [.ref p] ∧ (SqL K H p ys ∨ SqT K H p ys) ∧ ∀ l, H l = none → Q (.ref l) (upd H l (.lst ys))
theorem pr_lstOf {K : PySem.W.Frag} : PrimR K pLstOf (rLstOf K) := fun F H ds vs Q pr fd rt e q => by
  unfold pLstOf at e
  split at e
  · obtain ⟨v, _, rfl, ⟨p, us, rfl, hp, r1⟩, rfl⟩ := rt
    cases e
    exact ⟨p, us, rfl, .inl (SqL.of hp), fun c hc => q _ _ (same_new hc) ⟨c, us, rfl, hc, upd_same, repL_same (same_new hc) r1⟩⟩
  · obtain ⟨v, _, rfl, ⟨p, us, rfl, hp, r1⟩, rfl⟩ := rt
    cases e
    exact ⟨p, us, rfl, .inr hp.sq, fun c hc => q _ _ (same_new hc) ⟨c, us, rfl, hc, upd_same, repL_same (same_new hc) r1⟩⟩
  · obtain ⟨v, _, rfl, ⟨p, us, rfl, hp, r1⟩, rfl⟩ := rt
    cases e
    exact ⟨p, us, rfl, .inl (hp.sq), fun c hc => q _ _ (same_new hc) ⟨c, us, rfl, hc, upd_same, repL_same (same_new hc) r1⟩⟩
  · cases e
def blsOf : List D → Option (List Bool)
  | [] => some []
  | .bl b :: ds => (blsOf ds).map (b :: ·)
  | _ :: _ => none
theorem blsOf_v {K : PySem.W.Frag} {F : Fz} {H : Hp} : ∀ {ds : List D} {vs : List V} {bs : List Bool}, RepL K F H ds vs → blsOf ds = some bs → vs = bs.map V.bl
  | [], vs, bs, h, e => by cases e; exact h
  | d :: ds, vs, bs, h, e => by
    obtain ⟨v, r, rfl, h1, h2⟩ := h
    cases d with
    | bl b =>
      cases q : blsOf ds with
      | none => simp [blsOf, q] at e
      | some cs =>
        simp [blsOf, q] at e
        subst e
        rw [show v = V.bl b from h1, blsOf_v h2 q]
        rfl
    | _ => cases e
def pAll : Pr := fun ds => match ds with
  | [.lst xs] => (blsOf xs).map fun bs => PR.d (.bl (bs.all id))
  | _ => none
def pAny : Pr := fun ds => match ds with
  | [.lst xs] => (blsOf xs).map fun bs => PR.d (.bl (bs.any id))
  | _ => none
theorem pr_all {K : PySem.W.Frag} : PrimR K pAll (rAll K) := fun F H ds vs Q pr fd rt e q => by
  unfold pAll at e
  split at e
  · rename_i xs
    obtain ⟨v, _, rfl, ⟨p, us, rfl, hp, r1⟩, rfl⟩ := rt
    cases hb : blsOf xs with
    | none => rw [hb] at e; cases e
    | some bs =>
      rw [hb] at e
      cases e
      have := blsOf_v r1 hb
      subst this
      exact ⟨p, bs, rfl, SqL.of hp, q H _ (Same.refl _) rfl⟩
  · cases e
theorem pr_any {K : PySem.W.Frag} : PrimR K pAny (rAny K) := fun F H ds vs Q pr fd rt e q => by
  unfold pAny at e
  split at e
  · rename_i xs
    obtain ⟨v, _, rfl, ⟨p, us, rfl, hp, r1⟩, rfl⟩ := rt
    cases hb : blsOf xs with
    | none => rw [hb] at e; cases e
    | some bs =>
      rw [hb] at e
      cases e
      have := blsOf_v r1 hb
      subst this
      exact ⟨p, bs, rfl, SqL.of hp, q H _ (Same.refl _) rfl⟩
  · cases e
def intsOf : List D → Option (List Int)
  | [] => some []
  | .int b :: ds => (intsOf ds).map (b :: ·)
  | _ :: _ => none
theorem intsOf_v {K : PySem.W.Frag} {F : Fz} {H : Hp} : ∀ {ds : List D} {vs : List V} {bs : List Int}, RepL K F H ds vs → intsOf ds = some bs → vs = bs.map V.int
  | [], vs, bs, h, e => by cases e; exact h
  | d :: ds, vs, bs, h, e => by
    obtain ⟨v, r, rfl, h1, h2⟩ := h
    cases d with
    | int b =>
      cases q : intsOf ds with
      | none => simp [intsOf, q] at e
      | some cs =>
        simp [intsOf, q] at e
        subst e
        rw [show v = V.int b from h1, intsOf_v h2 q]
        rfl
    | _ => cases e
def pSum : Pr := fun ds => match ds with
  | [.lst xs] => (intsOf xs).map fun bs => PR.d (.int bs.sum)
  | _ => none
theorem pr_sum {K : PySem.W.Frag} : PrimR K pSum (rSum K) := fun F H ds vs Q pr fd rt e q => by
  unfold pSum at e
  split at e
  · rename_i xs
    obtain ⟨v, _, rfl, ⟨p, us, rfl, hp, r1⟩, rfl⟩ := rt
    cases hb : intsOf xs with
    | none => rw [hb] at e; cases e
    | some bs =>
      rw [hb] at e
      cases e
      have := intsOf_v r1 hb
      subst this
      exact ⟨p, bs, rfl, SqL.of hp, q H _ (Same.refl _) rfl⟩
  · cases e
end
end DL
/-! DL10: kinds of values, repr, slices; the rules by name. -/
namespace DL
open PySem PySem.Spec PyProof.Rows L2

section
variable {X : Cx} {W : WX} {B : Bs}
/-! ### isinstance of a built-in class; type(x) == T -/
def tyOf : D → Option String
  | .non => some "NoneType"
  | .bl _ => some "bool"
  | .int _ => some "int"
  | .str _ => some "str"
  | .lst _ => some "list"
  | .fz _ => none
  | .tup _ => some "tuple"
  | .exc _ _ => none
  | .pr _ _ => none
  | .rng _ _ => none
theorem tyX_of {K : PySem.W.Frag} {F : Fz} {H : Hp} : ∀ {d : D} {v : V} {n : String}, RepT K F H d v → tyOf d = some n → TyX K H v (.type n)
  | .non, _, _, h, e => by cases e; rw [show _ = V.non from h]; exact .base .non
  | .bl b, _, _, h, e => by cases e; rw [show _ = V.bl b from h]; exact .base (.bl b)
  | .int b, _, _, h, e => by cases e; rw [show _ = V.int b from h]; exact .base (.int b)
  | .str b, _, _, h, e => by cases e; rw [show _ = V.str b from h]; exact .base (.str b)
  | .lst _, _, _, h, e => by
    cases e
    obtain ⟨a, vs, rfl, ha, _⟩ := h
    exact .base (.lst ha)
  | .tup _, _, _, h, e => by
    cases e
    obtain ⟨a, vs, rfl, ⟨o, _, ha⟩, _⟩ := h
    exact .fTuple ha
  | .fz _, _, _, _, e => by cases e
  | .exc _ _, _, _, _, e => by cases e
  | .pr _ _, _, _, _, e => by cases e
  | .rng _ _, _, _, _, e => by cases e
def pIsI (T : String) : Pr := fun ds => match ds with
  | [d] => ((tyOf d).bind fun a => kitB a T).map fun b => PR.d (.bl b)
  | _ => none
def rIsI1 (K : PySem.W.Frag) (T : String) : Rl := fun vs H Q => match vs with
  | [x] => rIsi K [x, .ty T] H Q
  | _ => False
theorem pr_isI {K : PySem.W.Frag} {T : String} : PrimR K (pIsI T) (rIsI1 K T) := fun F H ds vs Q pr fd rt e q => by
  unfold pIsI at e
  split at e
  · rename_i d
    obtain ⟨v, _, rfl, h1, rfl⟩ := rt
    cases ht : tyOf d with
    | none => rw [ht] at e; cases e
    | some a =>
      rw [ht] at e
      cases hk : kitB a T with
      | none => simp [hk] at e
      | some b =>
        simp [hk] at e
        subst e
        exact ⟨v, .ty T, .type a, .type T, b, rfl, .ty T, tyX_of h1 ht, kit_ty hk, q H _ (Same.refl _) rfl⟩
  · cases e
theorem e_isI {T : String} {y : Str} {e : Expr} {o : Opd} {p py pos : Pos} (ha : DOp X W e o) (hm : X.mg "isinstance" = none) (hm2 : X.mg y = none) (hv2 : bootBuiltins y = some (.type T)) (hg : Gl X "isinstance" := by rfl) (hg2 : Gl X y := by rfl)
    (hn : y ≠ "__name__" := by decide) (hd : (y == ("__debug__" : Str)) = false := by decide)
    (h1 : starEach [e, .Name y py] X.env = (false, eval e X.env) :: starEach [.Name y py] X.env := by rfl) (h2 : starEach [.Name y py] X.env = (false, eval (.Name y py) X.env) :: starEach [] X.env := by rfl)
    (hpl : (backTo pos (starEach [.Name y py] X.env)).any (·.1) = false := by rfl) : DEv X W (.Call (.Name "isinstance" p) [e, .Name y py] [] pos) (dPrim (pIsI T) [o]) := by
  obtain ⟨t, h, s⟩ := ha
  refine ⟨_, pe_callB call_isi hg hm (by decide +kernel) (pa_cons h (pa_cons (pe_bltn (v := .ty T) hg2 hm2 hv2 rfl hn hd) pa_nil h2) h1) (he := h1) (hpl := hpl), ?_⟩
  exact fun O F σ H env Q st g => sem_prim (asem1 s) (pr_isI (T := T)) O F σ H env Q st g
/-- the built-in classes that == tells apart -/
def metaN : List String := ["NoneType", "bool", "int", "str", "list", "tuple"]
theorem meta_of {n : String} (h : metaN.contains n = true) : ∀ s' : Shared, s'.TypeIs (.type n) "type" := by
  have h' : n ∈ metaN := by simpa using h
  simp only [metaN, List.mem_cons, List.not_mem_nil, or_false] at h'
  rcases h' with rfl | rfl | rfl | rfl | rfl | rfl
  · exact PySem.TypeEq.meta_NoneType
  · exact PySem.TypeEq.meta_bool
  · exact PySem.TypeEq.meta_int
  · exact PySem.TypeEq.meta_str
  · exact PySem.TypeEq.meta_list
  · exact PySem.TypeEq.meta_tuple
def rTyEq : R2 := fun x y H Q => ∃ m n, x = .ty m ∧ y = .ty n ∧ metaN.contains m = true ∧ metaN.contains n = true ∧ Q (.bl (decide (m = n))) H
theorem op_tyEq : OpR X (compareOp .Eq) rTyEq := by
  intro pins s σ H x y v u Q I rx ry h
  obtain ⟨m, n, rfl, rfl, h1, h2, q⟩ := h
  cases (show v = Value.type m from rx)
  cases (show u = Value.type n from ry)
  by_cases e : m = n
  · subst e
    rw [decide_eq_true rfl] at q
    exact PySem.TypeEq.eq_type_same (meta_of h1) ⟨.bl true, H, I, rfl, q⟩
  · rw [decide_eq_false e] at q
    exact PySem.TypeEq.eq_type_other (meta_of h1) (meta_of h2) (by rw [ty_beq]; exact decide_eq_false e) ⟨.bl false, H, I, rfl, q⟩
def pTyIs (T : String) : Pr := fun ds => match ds with
  | [d] => if metaN.contains T = true then (tyOf d).map fun a => PR.d (.bl (decide (a = T))) else none
  | _ => none
theorem tyOf_meta : ∀ {d : D} {n : String}, tyOf d = some n → metaN.contains n = true
  | .non, _, e => by cases e; decide
  | .bl b, _, e => by cases e; decide
  | .int b, _, e => by cases e; decide
  | .str b, _, e => by cases e; decide
  | .lst _, _, e => by cases e; decide
  | .tup _, _, e => by cases e; decide
  | .fz _, _, e => by cases e
  | .exc _ _, _, e => by cases e
  | .pr _ _, _, e => by cases e
  | .rng _ _, _, e => by cases e
theorem tyB_of {K : PySem.W.Frag} {F : Fz} {H : Hp} : ∀ {d : D} {v : V} {n : String}, RepT K F H d v → tyOf d = some n → TyB K H v n
  | .non, _, _, h, e => by cases e; rw [show _ = V.non from h]; exact .non
  | .bl b, _, _, h, e => by cases e; rw [show _ = V.bl b from h]; exact .bl b
  | .int b, _, _, h, e => by cases e; rw [show _ = V.int b from h]; exact .int b
  | .str b, _, _, h, e => by cases e; rw [show _ = V.str b from h]; exact .str b
  | .lst _, _, _, h, e => by
    cases e
    obtain ⟨a, vs, rfl, ha, _⟩ := h
    exact .lst (SqL.of ha)
  | .tup _, _, _, h, e => by
    cases e
    obtain ⟨a, vs, rfl, ha, _⟩ := h
    exact .tup ha.sq
  | .fz _, _, _, _, e => by cases e
  | .exc _ _, _, _, _, e => by cases e
  | .pr _ _, _, _, _, e => by cases e
  | .rng _ _, _, _, _, e => by cases e
def rTyIs (K : PySem.W.Frag) (T : String) : Rl := fun vs H Q => rTyp K vs H fun x H' => rTyEq x (.ty T) H' Q
theorem pr_tyIs {K : PySem.W.Frag} {T : String} : PrimR K (pTyIs T) (rTyIs K T) := fun F H ds vs Q pr fd rt e q => by
  unfold pTyIs at e
  split at e
  · rename_i d
    obtain ⟨v, _, rfl, h1, rfl⟩ := rt
    split at e
    · rename_i hT
      cases ht : tyOf d with
      | none => rw [ht] at e; cases e
      | some a =>
        rw [ht] at e
        cases e
        exact ⟨_, a, rfl, tyB_of h1 ht, a, T, rfl, rfl, tyOf_meta ht, hT, q H _ (Same.refl _) rfl⟩
    · cases e
  · cases e
theorem e_tyIs {T : String} {y : Str} {e : Expr} {o : Opd} {p py cp pos : Pos} (ha : DOp X W e o) (hm : X.mg "type" = none) (hm2 : X.mg y = none) (hv2 : bootBuiltins y = some (.type T)) (hg : Gl X "type" := by rfl) (hg2 : Gl X y := by rfl)
    (hn : y ≠ "__name__" := by decide) (hd : (y == ("__debug__" : Str)) = false := by decide)
    (h1 : starEach [e] X.env = (false, eval e X.env) :: starEach [] X.env := by rfl) : DEv X W (.Compare (.Call (.Name "type" p) [e] [] cp) [.Eq] [.Name y py] pos) (dPrim (pTyIs T) [o]) := by
  obtain ⟨t, h, s⟩ := ha
  refine ⟨_, pe_cmpR op_tyEq (pe_callTy call_type1 hg hm (by decide +kernel) (pa_cons h pa_nil h1) (by decide) (by decide) h1 (by rfl)) (pe_bltn (v := .ty T) hg2 hm2 hv2 rfl hn hd) (nomark _), ?_⟩
  exact fun O F σ H env Q st g => sem_prim (asem1 s) (pr_tyIs (T := T)) O F σ H env Q st g
theorem t_tyIs {T : String} {y : Str} {e : Expr} {o : Opd} {p py cp pos : Pos} (ha : DOp X W e o) (hm : X.mg "type" = none) (hm2 : X.mg y = none) (hv2 : bootBuiltins y = some (.type T)) (hg : Gl X "type" := by rfl) (hg2 : Gl X y := by rfl)
    (hn : y ≠ "__name__" := by decide) (hd : (y == ("__debug__" : Str)) = false := by decide)
    (h1 : starEach [e] X.env = (false, eval e X.env) :: starEach [] X.env := by rfl) : DTst X W (.Compare (.Call (.Name "type" p) [e] [] cp) [.Eq] [.Name y py] pos) (dTst (dPrim (pTyIs T) [o])) := by
  obtain ⟨t, h, s⟩ := ha
  refine ⟨_, pt_cmpR op_tyEq (pe_callTy call_type1 hg hm (by decide +kernel) (pa_cons h pa_nil h1) (by decide) (by decide) h1 (by rfl)) (pe_bltn (v := .ty T) hg2 hm2 hv2 rfl hn hd) (nomark _), ?_⟩
  exact sem_tst (t := tOp rTyEq (tCB (rTyp X.K) (tCons t tNil)) (tC (.ty T))) (fun O F σ H env Q st g => sem_prim (asem1 s) (pr_tyIs (T := T)) O F σ H env Q st g) fun σ H Q q => q

/-! ### repr -/
def okR (d : D) : Bool := plain d && SeqAt.shaped (toP d) && (toP d).showable && decide ((toP d).shown.length ≤ sizeLine)
def pRepr : Pr := fun ds => match ds with
  | [d] => if okR d = true then some (.d (.str (toP d).shown)) else none
  | _ => none
def rRepr (K : PySem.W.Frag) : Rl := fun vs H Q => ∃ x d, vs = [x] ∧ Dp K H x d ∧ SeqAt.shaped d = true ∧ d.showable = true ∧ d.shown.length ≤ sizeLine ∧ Q (.str d.shown) H
theorem pr_repr {K : PySem.W.Frag} : PrimR K pRepr (rRepr K) := fun F H ds vs Q pr fd rt e q => by
  unfold pRepr at e
  split at e
  · rename_i d
    obtain ⟨v, _, rfl, h1, rfl⟩ := rt
    split at e
    · rename_i hk
      cases e
      have k1 := Bool.and_eq_true_iff.mp hk
      have k2 := Bool.and_eq_true_iff.mp k1.1
      have k3 := Bool.and_eq_true_iff.mp k2.1
      exact ⟨v, toP d, rfl, dp_top k3.1 h1, k3.2, k2.2, of_decide_eq_true k1.2, q H _ (Same.refl _) rfl⟩
    · cases e
  · cases e
theorem call_repr {k : Nat} (hr : GRoom k X.A) : CallR X (.builtin "repr") (rRepr X.K) := by
  intro pins s σ H xs us Q I r h
  obtain ⟨x, d, rfl, dp, sh, sw, sz, q⟩ := h
  obtain ⟨u, rfl, ru⟩ := vals1 r
  have fin : ∀ (h' : Heap) (y : Tok) (tk : Nat), (∀ b o, s.heap.get? b = some o → h'.get? b = some o) → EP X pins σ Q (.str d.shown y) { s with heap := h', toks := tk } := fun h' y tk hk => ⟨.str d.shown, H, I.kept (t' := tk) hk, ⟨y, rfl⟩, q⟩
  have fin0 : ∀ (y : Tok) (tk : Nat), EP X pins σ Q (.str d.shown y) { s with toks := tk } := fun y tk => fin s.heap y tk fun _ _ e => e
  obtain ⟨as, rd⟩ := Dp.reads I d x u dp ru
  cases dp with
  | non => cases ru; exact PySem.P.repr_of_none (fin0 _ _)
  | bl b => cases ru; exact PySem.P.repr_of_bool (fin0 _ _)
  | int i =>
    obtain ⟨t, rfl⟩ := ru
    exact PySem.P.repr_of_int (by simpa [PyData.showable] using sw) (fin0 _ _)
  | str x =>
    obtain ⟨t, rfl⟩ := ru
    exact PySem.P.repr_of_str (fin0 _ _) sz
  | lst hs ha =>
    cases ru
    have hd := SeqAt.depth_of_shaped sh
    refine repr_of_reads' rd sw (PyData.noDict_hsm (PyData.hasDict_of_canLay _ (SeqAt.canLay_of_shaped sh))) hr.gd ?_ (fun _ _ e => e) (fun h' y tk hk => fin h' y tk hk) sz
    have := hr.room.un
    omega
  | tup hs ha =>
    cases ru
    have hd := SeqAt.depth_of_shaped sh
    refine repr_of_reads' rd sw (PyData.noDict_hsm (PyData.hasDict_of_canLay _ (SeqAt.canLay_of_shaped sh))) hr.gd ?_ (fun _ _ e => e) (fun h' y tk hk => fin h' y tk hk) sz
    have := hr.room.un
    omega

/-! ### slices -/
def dPart (m : Option DE) : DEnv → R (Option Int) := fun env => match m with
  | none => .ok none env
  | some m => (m env).bind fun r env1 => match r with
    | ⟨.shr, .int i⟩ => .ok (some i) env1
    | _ => .bad
def PoSem (X : Cx) (W : WX) (t : TO) (m : Option DE) : Prop := ∀ O F σ H env (Q : Option Int → Hp → Prop), StOk X.K O F H σ env → (match dPart m env with
  | .ok o env' => ∀ F' H', Ext O F H F' H' → StOk X.K O F' H' σ env' → Q o H'
  | .err x env' => ∀ F' H' cls d, Ext O F H F' H' → StOk X.K O F' H' σ env' → ExcRep X.mg F' H' x cls d → W cls d σ H'
  | .bad => False) → t σ H Q
def DPo (X : Cx) (W : WX) (e : Option Expr) (m : Option DE) : Prop := ∃ t, PO X e t ∧ PoSem X W t m
theorem p_none : DPo X W none none := ⟨_, po_none, fun O F σ H env Q st g => g F H Ext.refl st⟩
theorem p_some {e : Expr} {m : DE} (h : DEv X W e m) : DPo X W (some e) (some m) := by
  obtain ⟨t, p, s⟩ := h
  refine ⟨_, po_some p, fun O F σ H env Q st g => s O F σ H env _ st ?_⟩
  simp only [dPart] at g
  cases q : m env with
  | bad => rw [q] at g; exact g.elim
  | err x e => rw [q] at g; exact g
  | ok r env1 =>
    rw [q] at g
    simp only [R.bind] at g
    intro F1 H1 v E1 s1 r1
    obtain ⟨md, d⟩ := r
    cases md with
    | shr =>
      cases d with
      | int i => exact ⟨i, r1, g F1 H1 E1 s1⟩
      | _ => exact g.elim
    | _ => exact g.elim
abbrev Ps := D → Option Int → Option Int → Option PR
def dSlice (p : Ps) (o : Opd) (lo hi : Option DE) : DE := fun env => (evOs [o] env).bind fun avs env1 => (dPart lo env1).bind fun l env2 => (dPart hi env2).bind fun u env3 => match getAVs env3 avs with
  | some [d] => (match p d l u with
    | some r => .ok r.ent env3
    | none => .bad)
  | _ => .bad
def SliceR (K : PySem.W.Frag) (p : Ps) (r : V → Option Int → Option Int → Hp → VK → Prop) : Prop := ∀ (F : Fz) (H : Hp) (d : D) (v : V) (l u : Option Int) (Q : VK) (pr : PR), (∀ a, F a → H a ≠ none) → RepT K F H d v → p d l u = some pr → (∀ H' v, Same H H' → PRep K F H H' pr v → Q v H') → r v l u H Q
theorem e_slice {p : Ps} {r : V → Option Int → Option Int → Hp → VK → Prop} {e : Expr} {lo hi : Option Expr} {o : Opd} {ml mh : Option DE} {p2 pos : Pos} (hr : SlR X r) (hp : SliceR X.K p r) (he : DOp X W e o) (hl : DPo X W lo ml) (hh : DPo X W hi mh) : DEv X W (.Subscript e (.Slice lo hi none p2) pos) (dSlice p o ml mh) := by
  obtain ⟨te, h1, s1⟩ := he
  obtain ⟨tl, h2, s2⟩ := hl
  obtain ⟨th, h3, s3⟩ := hh
  refine ⟨_, pe_slice hr h1 h2 h3, fun O F σ H env Q st g => ?_⟩
  have main := asem1 s1 O F σ H env (fun vs H1 => match vs with
    | [x] => tl σ H1 fun l H2 => th σ H2 fun u H3 => r x l u H3 Q
    | _ => False) st
  refine main ?_
  clear main
  unfold dSlice at g
  cases q : evOs [o] env with
  | bad => rw [q] at g; exact g.elim
  | err x e => rw [q] at g; exact g
  | ok avs env1 =>
    rw [q] at g
    simp only [R.bind] at g
    intro F1 H1 vs E1 st1 r1
    have lv : vs.length = 1 := by rw [AVs.length r1, lenO q]; rfl
    obtain ⟨v, rfl⟩ : ∃ v, vs = [v] := by
      cases vs with
      | nil => cases lv
      | cons v r =>
        cases r with
        | nil => exact ⟨v, rfl⟩
        | cons _ _ => simp at lv
    refine s2 O F1 σ H1 env1 _ st1 ?_
    cases q2 : dPart ml env1 with
    | bad => rw [q2] at g; exact g.elim
    | err x e => rw [q2] at g; exact fun F' H' c d e' s' r => g F' H' c d (E1.trans e') s' r
    | ok l env2 =>
      rw [q2] at g
      simp only [] at g
      intro F2 H2 E2 st2
      refine s3 O F2 σ H2 env2 _ st2 ?_
      cases q3 : dPart mh env2 with
      | bad => rw [q3] at g; exact g.elim
      | err x e => rw [q3] at g; exact fun F' H' c d e' s' r => g F' H' c d ((E1.trans E2).trans e') s' r
      | ok u env3 =>
        rw [q3] at g
        simp only [] at g
        intro F3 H3 E3 st3
        have r3 := (r1.ext E2).ext E3
        split at g
        · rename_i d hd
          obtain ⟨_, _, e1, rt, e2⟩ := AVs.tops st3 r3 hd
          cases e1
          split at g
          · rename_i pr hpr
            exact hp F3 H3 d v l u Q pr st3.fdom rt hpr fun H' w sm pv => g F3 H' w (((E1.trans E2).trans E3).trans (Ext.same sm st3.odom)) (st3.same sm) (prep_ent st3 pv)
          · exact g.elim
        · exact g.elim
/-- the part of a list of data -/
def cutD (xs : List D) (lo hi : Option Int) : List D := (xs.drop (HT.sIx xs.length 0 lo)).take (HT.sIx xs.length xs.length hi - HT.sIx xs.length 0 lo)
theorem cutD_v {K : PySem.W.Frag} {F : Fz} {H : Hp} {xs : List D} {vs : List V} (r : RepL K F H xs vs) (lo hi : Option Int) : RepL K F H (cutD xs lo hi) (cutV vs lo hi) := by
  unfold cutD cutV
  rw [r.length]
  exact (r.drop _).take _
def pSlice : Ps := fun d l u => match d with
  | .lst xs => some (.nl (cutD xs l u))
  | .fz xs => some (.nl (cutD xs l u))
  | .tup xs => some (.d (.tup (cutD xs l u)))
  | _ => none
def rSlAll (K : PySem.W.Frag) : V → Option Int → Option Int → Hp → VK → Prop := fun x lo hi H Q => rSlL K x lo hi H Q ∨ rSlTL K x lo hi H Q
theorem sl_all : SlR X (rSlAll X.K) := sl_list.or sl_tupL
theorem sr_all {K : PySem.W.Frag} : SliceR K pSlice (rSlAll K) := fun F H d v l u Q pr fd rt e q => by
  unfold pSlice at e
  split at e
  · rename_i xs
    cases e
    obtain ⟨a, vs, rfl, ha, r⟩ := rt
    exact .inl ⟨a, vs, rfl, SqL.of ha, fun c hc => q _ _ (same_new hc) ⟨c, _, rfl, hc, upd_same, repL_same (same_new hc) (cutD_v r l u)⟩⟩
  · rename_i xs
    cases e
    obtain ⟨a, vs, rfl, ha, r⟩ := rt
    exact .inl ⟨a, vs, rfl, ha.sq, fun c hc => q _ _ (same_new hc) ⟨c, _, rfl, hc, upd_same, repL_same (same_new hc) (cutD_v r l u)⟩⟩
  · rename_i xs
    cases e
    obtain ⟨a, vs, rfl, ha, r⟩ := rt
    refine .inr ⟨a, vs, rfl, ha.sq, fun z => ?_, fun _ c o hd hc => q _ _ (same_new hc) ⟨c, _, rfl, ⟨o, hd, upd_same⟩, repL_same (same_new hc) (cutD_v r l u)⟩⟩
    refine q H _ (Same.refl _) ⟨a, vs, rfl, ha, ?_⟩
    have hw : cutD xs l u = xs := by
      unfold cutD
      rw [r.length] at z
      rw [z.1, z.2, List.drop_zero, Nat.sub_zero, List.take_length]
    rw [hw]
    exact r
  · cases e
end
end DL
/-! DL11: the rules by short names. -/
namespace DL
open PySem PySem.Spec PyProof.Rows L2

section
variable {X : Cx} {W : WX} {B : Bs} {a b : Expr} {oa ob : Opd} {pos : Pos}
theorem x_add (ha : DOp X W a oa) (hb : DOp X W b ob) : DEv X W (.BinOp a .Add b pos) (dPrim pAdd [oa, ob]) := e_op op_addAll pr_add ha hb
theorem x_sub (ha : DOp X W a oa) (hb : DOp X W b ob) : DEv X W (.BinOp a .Sub b pos) (dPrim pSub [oa, ob]) := e_op op_sub pr_sub ha hb
theorem x_mul (ha : DOp X W a oa) (hb : DOp X W b ob) : DEv X W (.BinOp a .Mult b pos) (dPrim pMul [oa, ob]) := e_op op_mulAll pr_mul ha hb
theorem x_fdiv (ha : DOp X W a oa) (hb : DOp X W b ob) : DEv X W (.BinOp a .FloorDiv b pos) (dPrim pFdiv [oa, ob]) := e_op op_fdivW pr_fdiv ha hb
theorem x_mod (ha : DOp X W a oa) (hb : DOp X W b ob) : DEv X W (.BinOp a .Mod b pos) (dPrim pMod [oa, ob]) := e_op op_mod pr_mod ha hb
theorem x_pow (ha : DOp X W a oa) (hb : DOp X W b ob) : DEv X W (.BinOp a .Pow b pos) (dPrim pPow [oa, ob]) := e_op op_pow pr_pow ha hb
theorem x_neg (ha : DOp X W a oa) : DEv X W (.UnaryOp .USub a pos) (dPrim pNeg [oa]) := e_un un_neg pr_neg ha
theorem x_lt (ha : DOp X W a oa) (hb : DOp X W b ob) : DEv X W (.Compare a [.Lt] [b] pos) (dPrim pLt [oa, ob]) := e_cmp op_lt pr_cmp ha hb (nomark _)
theorem x_le (ha : DOp X W a oa) (hb : DOp X W b ob) : DEv X W (.Compare a [.LtE] [b] pos) (dPrim pLe [oa, ob]) := e_cmp op_le pr_cmp ha hb (nomark _)
theorem x_gt (ha : DOp X W a oa) (hb : DOp X W b ob) : DEv X W (.Compare a [.Gt] [b] pos) (dPrim pGt [oa, ob]) := e_cmp op_gt pr_cmp ha hb (nomark _)
theorem x_ge (ha : DOp X W a oa) (hb : DOp X W b ob) : DEv X W (.Compare a [.GtE] [b] pos) (dPrim pGe [oa, ob]) := e_cmp op_ge pr_cmp ha hb (nomark _)
theorem y_lt (ha : DOp X W a oa) (hb : DOp X W b ob) : DTst X W (.Compare a [.Lt] [b] pos) (dTst (dPrim pLt [oa, ob])) := t_cmp op_lt pr_cmp ha hb (nomark _)
theorem y_le (ha : DOp X W a oa) (hb : DOp X W b ob) : DTst X W (.Compare a [.LtE] [b] pos) (dTst (dPrim pLe [oa, ob])) := t_cmp op_le pr_cmp ha hb (nomark _)
theorem y_gt (ha : DOp X W a oa) (hb : DOp X W b ob) : DTst X W (.Compare a [.Gt] [b] pos) (dTst (dPrim pGt [oa, ob])) := t_cmp op_gt pr_cmp ha hb (nomark _)
theorem y_ge (ha : DOp X W a oa) (hb : DOp X W b ob) : DTst X W (.Compare a [.GtE] [b] pos) (dTst (dPrim pGe [oa, ob])) := t_cmp op_ge pr_cmp ha hb (nomark _)
variable {k : Nat}
theorem units_of (hr : GRoom k X.A) : X.A.units + 64 < cLine := by have := hr.room.un; omega
theorem x_eq (hr : GRoom k X.A) (ha : DOp X W a oa) (hb : DOp X W b ob) : DEv X W (.Compare a [.Eq] [b] pos) (dPrim pEq [oa, ob]) := e_cmp (op_eqD (units_of hr)) pr_eq ha hb (nomark _)
theorem x_ne (hr : GRoom k X.A) (ha : DOp X W a oa) (hb : DOp X W b ob) : DEv X W (.Compare a [.NotEq] [b] pos) (dPrim pNe [oa, ob]) := e_cmp (op_neD (units_of hr)) pr_ne ha hb (nomark _)
theorem y_eq (hr : GRoom k X.A) (ha : DOp X W a oa) (hb : DOp X W b ob) : DTst X W (.Compare a [.Eq] [b] pos) (dTst (dPrim pEq [oa, ob])) := t_cmp (op_eqD (units_of hr)) pr_eq ha hb (nomark _)
theorem y_ne (hr : GRoom k X.A) (ha : DOp X W a oa) (hb : DOp X W b ob) : DTst X W (.Compare a [.NotEq] [b] pos) (dTst (dPrim pNe [oa, ob])) := t_cmp (op_neD (units_of hr)) pr_ne ha hb (nomark _)
theorem x_isN (ha : DOp X W a oa) (hb : DOp X W b ob) : DEv X W (.Compare a [.Is] [b] pos) (dPrim pIsN [oa, ob]) := e_cmp op_isN pr_isN ha hb (nomark _)
theorem x_notN (ha : DOp X W a oa) (hb : DOp X W b ob) : DEv X W (.Compare a [.IsNot] [b] pos) (dPrim pNotN [oa, ob]) := e_cmp op_notN pr_notN ha hb (nomark _)
theorem y_isN (ha : DOp X W a oa) (hb : DOp X W b ob) : DTst X W (.Compare a [.Is] [b] pos) (dTst (dPrim pIsN [oa, ob])) := t_cmp op_isN pr_isN ha hb (nomark _)
theorem y_notN (ha : DOp X W a oa) (hb : DOp X W b ob) : DTst X W (.Compare a [.IsNot] [b] pos) (dTst (dPrim pNotN [oa, ob])) := t_cmp op_notN pr_notN ha hb (nomark _)
theorem x_isB (ha : DOp X W a oa) (hb : DOp X W b ob) : DEv X W (.Compare a [.Is] [b] pos) (dPrim pIsB [oa, ob]) := e_cmp op_isBl pr_isB ha hb (nomark _)
theorem x_notB (ha : DOp X W a oa) (hb : DOp X W b ob) : DEv X W (.Compare a [.IsNot] [b] pos) (dPrim pNotB [oa, ob]) := e_cmp op_notBl pr_notB ha hb (nomark _)
theorem y_isB (ha : DOp X W a oa) (hb : DOp X W b ob) : DTst X W (.Compare a [.Is] [b] pos) (dTst (dPrim pIsB [oa, ob])) := t_cmp op_isBl pr_isB ha hb (nomark _)
theorem y_notB (ha : DOp X W a oa) (hb : DOp X W b ob) : DTst X W (.Compare a [.IsNot] [b] pos) (dTst (dPrim pNotB [oa, ob])) := t_cmp op_notBl pr_notB ha hb (nomark _)
theorem x_in (hm : behindInMarks .In b = false) (ha : DOp X W a oa) (hb : DOp X W b ob) : DEv X W (.Compare a [.In] [b] pos) (dPrim (pInN false) [oa, ob]) := e_cmp op_in_seq pr_in ha hb hm
theorem x_notIn (hm : behindInMarks .NotIn b = false) (ha : DOp X W a oa) (hb : DOp X W b ob) : DEv X W (.Compare a [.NotIn] [b] pos) (dPrim (pInN true) [oa, ob]) := e_cmp op_notIn_seq pr_in ha hb hm
theorem y_in (hm : behindInMarks .In b = false) (ha : DOp X W a oa) (hb : DOp X W b ob) : DTst X W (.Compare a [.In] [b] pos) (dTst (dPrim (pInN false) [oa, ob])) := t_cmp op_in_seq pr_in ha hb hm
theorem y_notIn (hm : behindInMarks .NotIn b = false) (ha : DOp X W a oa) (hb : DOp X W b ob) : DTst X W (.Compare a [.NotIn] [b] pos) (dTst (dPrim (pInN true) [oa, ob])) := t_cmp op_notIn_seq pr_in ha hb hm
theorem x_ix (ha : DOp X W a oa) (hb : DOp X W b ob) (hs : PlainIx b) : DEv X W (.Subscript a b pos) (dPrim pIx [oa, ob]) := e_ix ix_seq pr_ix ha hb hs
theorem x_slice {lo hi : Option Expr} {ml mh : Option DE} {p2 : Pos} (ha : DOp X W a oa) (hl : DPo X W lo ml) (hh : DPo X W hi mh) : DEv X W (.Subscript a (.Slice lo hi none p2) pos) (dSlice pSlice oa ml mh) := e_slice sl_all sr_all ha hl hh
variable {p : Pos} {e : Expr} {o : Opd}
/-- one argument of a built-in -/
abbrev S1 (X : Cx) (e : Expr) : Prop := starEach (e :: []) X.env = (false, eval e X.env) :: starEach [] X.env
theorem a1 (ha : DOp X W e o) (hs : S1 X e) : DAs X W [e] [o] := a_cons ha a_nil hs
theorem x_len (hm : X.mg "len" = none) (ha : DOp X W e o) (hg : Gl X "len" := by rfl) (hs : S1 X e := by rfl) (hpl : (backTo pos (starEach [] X.env)).any (·.1) = false := by rfl) : DEv X W (.Call (.Name "len" p) [e] [] pos) (dPrim pLen [o]) := e_callB call_len pr_len hg hm PySem.boot_len (a1 ha hs) (he := hs) (hpl := hpl)
theorem x_repr (hr : GRoom k X.A) (hm : X.mg "repr" = none) (ha : DOp X W e o) (hg : Gl X "repr" := by rfl) (hs : S1 X e := by rfl) (hpl : (backTo pos (starEach [] X.env)).any (·.1) = false := by rfl) : DEv X W (.Call (.Name "repr" p) [e] [] pos) (dPrim pRepr [o]) := e_callB (call_repr hr) pr_repr hg hm (by decide +kernel) (a1 ha hs) (he := hs) (hpl := hpl)
theorem x_all (hc : X.calm = true) (hm : X.mg "all" = none) (ha : DOp X W e o) (hg : Gl X "all" := by rfl) (hs : S1 X e := by rfl) (hpl : (backTo pos (starEach [] X.env)).any (·.1) = false := by rfl) : DEv X W (.Call (.Name "all" p) [e] [] pos) (dPrim pAll [o]) := e_callB (cr_all hc) pr_all hg hm (by decide +kernel) (a1 ha hs) (he := hs) (hpl := hpl)
theorem x_any (hc : X.calm = true) (hm : X.mg "any" = none) (ha : DOp X W e o) (hg : Gl X "any" := by rfl) (hs : S1 X e := by rfl) (hpl : (backTo pos (starEach [] X.env)).any (·.1) = false := by rfl) : DEv X W (.Call (.Name "any" p) [e] [] pos) (dPrim pAny [o]) := e_callB (cr_any hc) pr_any hg hm (by decide +kernel) (a1 ha hs) (he := hs) (hpl := hpl)
theorem x_sum (hc : X.calm = true) (hm : X.mg "sum" = none) (ha : DOp X W e o) (hg : Gl X "sum" := by rfl) (hs : S1 X e := by rfl) (hpl : (backTo pos (starEach [] X.env)).any (·.1) = false := by rfl) : DEv X W (.Call (.Name "sum" p) [e] [] pos) (dPrim pSum [o]) := e_callB (cr_sum hc) pr_sum hg hm (by decide +kernel) (a1 ha hs) (he := hs) (hpl := hpl)
theorem x_int (hm : X.mg "int" = none) (ha : DOp X W e o) (hg : Gl X "int" := by rfl) (hs : S1 X e := by rfl) (hpl : (backTo pos (starEach [] X.env)).any (·.1) = false := by rfl) : DEv X W (.Call (.Name "int" p) [e] [] pos) (dPrim pIntOf [o]) := e_callTy call_int1 pr_intOf hg hm (by decide +kernel) (a1 ha hs) (he := hs) (hpl := hpl)
theorem x_tuple (hm : X.mg "tuple" = none) (ha : DOp X W e o) (hg : Gl X "tuple" := by rfl) (hs : S1 X e := by rfl) (hpl : (backTo pos (starEach [] X.env)).any (·.1) = false := by rfl) : DEv X W (.Call (.Name "tuple" p) [e] [] pos) (dPrim pTupOf [o]) := e_callTy call_tuple_ofL pr_tupOf hg hm (by decide +kernel) (a1 ha hs) (he := hs) (hpl := hpl)
theorem x_list (hm : X.mg "list" = none) (ha : DOp X W e o) (hg : Gl X "list" := by rfl) (hs : S1 X e := by rfl) (hpl : (backTo pos (starEach [] X.env)).any (·.1) = false := by rfl) : DEv X W (.Call (.Name "list" p) [e] [] pos) (dPrim pLstOf [o]) := e_callTy call_list_of pr_lstOf hg hm (by decide +kernel) (a1 ha hs) (he := hs) (hpl := hpl)
theorem x_max (hc : X.calm = true) (hm : X.mg "max" = none) (ha : DAs X W [a, b] [oa, ob]) (hg : Gl X "max" := by rfl) (hs : starEach [a, b] X.env = (false, eval a X.env) :: starEach [b] X.env := by rfl) (hpl : (backTo pos (starEach [b] X.env)).any (·.1) = false := by rfl) : DEv X W (.Call (.Name "max" p) [a, b] [] pos) (dPrim pMax [oa, ob]) := e_callB (call_max2 hc) pr_max hg hm (by decide +kernel) ha (he := hs) (hpl := hpl)
theorem x_min (hc : X.calm = true) (hm : X.mg "min" = none) (ha : DAs X W [a, b] [oa, ob]) (hg : Gl X "min" := by rfl) (hs : starEach [a, b] X.env = (false, eval a X.env) :: starEach [b] X.env := by rfl) (hpl : (backTo pos (starEach [b] X.env)).any (·.1) = false := by rfl) : DEv X W (.Call (.Name "min" p) [a, b] [] pos) (dPrim pMin [oa, ob]) := e_callB (call_min2 hc) pr_min hg hm (by decide +kernel) ha (he := hs) (hpl := hpl)
/-- a target that is not a name alone -/
def dAsg (g : DG) (m : DE) : DS := fun env => (m env).bind fun r env1 => match g r.d env1 with
  | some env2 => .ok .nx env2
  | none => .bad
theorem s_asg {tg : Expr} {g : DG} {m : DE} (hm : DEv X W e m) (hg : DTg X B tg g) (hs : swapsWithSole [tg] e pos.line X.env = pure false := by rfl) (hw : swappedStores [tg] e X.env = pure none := by rfl) (hz : (assignEach [tg] X.env).map (·.2) = [assign tg X.env] := by rfl) : DSt X W B (.Assign [tg] e pos) (dAsg g m) := by
  obtain ⟨te, h1, s1⟩ := hm
  obtain ⟨tg', h2, s2⟩ := hg
  refine ⟨_, ps_asg h1 h2 hs hw hz, fun O F σ H env Dn st g0 => s1 O F σ H env _ st ?_⟩
  unfold dAsg at g0
  cases q : m env with
  | bad => rw [q] at g0; exact g0.elim
  | err x e => rw [q] at g0; exact fun F' H' c d e' s' r => g0 F' H' σ c d e' s' Keeps.refl r
  | ok r env1 =>
    rw [q] at g0
    simp only [R.bind] at g0
    intro F1 H1 v E1 st1 r1
    obtain ⟨F2, E2, st2, r2⟩ := freeze st1 r1
    cases q2 : g r.d env1 with
    | none => rw [q2] at g0; exact g0.elim
    | some env2 =>
      rw [q2] at g0
      exact s2 O F2 σ H1 env1 r.d v env2 _ st2 r2 q2 fun σ' st' k' => g0 F2 H1 σ' (E1.trans E2) st' k'
end
end DL
/-! DL12: the law's end; the data's own rules for reckoning. -/
namespace DL
open PySem PySem.Spec PyProof.Rows L2
def dInts (ns : List Int) : List D := ns.map D.int
theorem repL_ints {K : PySem.W.Frag} {F : Fz} {H : Hp} : ∀ ns : List Int, RepL K F H (dInts ns) (ns.map V.int)
  | [] => RepL.nil
  | n :: ns => RepL.cons rfl (repL_ints ns)
theorem law_end {K : PySem.W.Frag} {mg : Str → Option Value} {H : Hp} {a : Addr} {ns : List Int} {f : DFn} (hS : SqF K H a (ns.map V.int)) (h : ∃ o, f [⟨.shr, .fz (dInts ns)⟩] = .ok ⟨.shr, .bl true⟩ o) : spD K mg false 1 f [.ref a] H (fun v _ => v = .bl true) fun _ _ _ => False := by
  obtain ⟨o, h⟩ := h
  refine ⟨fun _ => False, fun _ => False, [⟨.shr, .fz (dInts ns)⟩], rfl, ⟨rfl, fun i d q => ?_, fun i m d q hm => ?_, fun i j b ⟨m, d, q, hm, _⟩ => ?_, fun _ z => z.elim, fun _ z => z.elim⟩, ?_⟩
  · cases i with
    | zero =>
      simp at q
      subst q
      exact ⟨.ref a, rfl, a, _, rfl, hS, repL_ints ns⟩
    | succ i => simp at q
  · cases i with
    | zero =>
      simp at q
      exact absurd q.1.symm hm
    | succ i => simp at q
  · cases i with
    | zero =>
      simp at q
      exact absurd q.1.symm hm
    | succ i => simp at q
  · rw [h]
    intro F' H' v _ _ r
    exact r
end DL
/-! DLS: t[::-1] of a tuple. -/
namespace DL
open PySem PySem.Spec PyProof.Rows L2
section
variable {prog : Program} {w : World} {A : Around} {E : Value → Shared → Prop} {s : Shared}
theorem places_back (n : Nat) : Builtin.Slice.slicePlaces ((n : Int) - 1) (-1) (-1) = n := by
  unfold Builtin.Slice.slicePlaces
  rw [if_neg (by omega)]
  split
  · rw [show ((n : Int) - 1 - -1 - 1) / (- -1) + 1 = (n : Int) by
      rw [show (- -1 : Int) = 1 by decide, Int.ediv_one]; omega]
    omega
  · omega
theorem applied_back {sl : Addr} {vk : Value} {n : Nat} {Q : Int × Int × Nat → Shared → Prop} (hs : s.heap.IsSliceOf sl .none .none vk) (pk : IsPart vk (some (-1))) (h : Q ((n : Int) - 1, -1, n) s) :
    wpAny (model prog w) A (Builtin.Slice.sliceApplied (.ref sl) (pure (n : Int))) Q E s := by
  obtain ⟨os, hos, hcs, hds⟩ := id hs
  unfold Builtin.Slice.sliceApplied Builtin.Slice.sliceFields
  refine wpAny_bind (wpAny_bind (wpAny_field hos hds (x := .none) rfl (wpAny_bind (wpAny_field hos hds (x := .none) rfl (wpAny_bind (wpAny_field hos hds (x := vk) rfl (wpAny_pure ?_)))))))
  refine wpAny_bind (HT.slicePart_ pk ?_)
  show wpAny _ _ (if ((-1 : Int) == 0) = true then _ else _) _ _ s
  rw [if_neg (by decide)]
  refine wpAny_bind (slicePart_none (wpAny_bind (slicePart_none (wpAny_bind (wpAny_pure ?_)))))
  show wpAny _ _ (pure ((n : Int) - 1, (-1 : Int), Builtin.Slice.slicePlaces ((n : Int) - 1) (-1) (-1))) _ _ s
  rw [places_back]
  exact wpAny_pure h
theorem pick_back (xs : Array Value) : ((List.range xs.size).filterMap fun (m : Nat) => xs[((xs.size : Int) - 1 + (m : Int) * (-1)).toNat]?).toArray = xs.toList.reverse.toArray := by
  have e : (List.range xs.size).filterMap (fun (m : Nat) => xs[((xs.size : Int) - 1 + (m : Int) * (-1)).toNat]?) = ((List.range xs.size).map (fun k => xs.size - 1 - k)).filterMap (xs[·]?) := by
    rw [List.filterMap_map]
    congr 1
    funext m
    have : ((xs.size : Int) - 1 + (m : Int) * (-1)).toNat = xs.size - 1 - m := by omega
    rw [this]
    rfl
  rw [e, PySem.W.krv_range, List.filterMap_reverse, PySem.W.krv_all]
theorem getItem_back {t sl : Addr} {items : Array Value} {vk : Value} {Q : Value → Shared → Prop} (ht : IsTup s.heap t items) (hs : s.heap.IsSliceOf sl .none .none vk) (pk : IsPart vk (some (-1)))
    (h : Q (.ref s.heap.objs.size) { s with heap := s.heap.push { cls := .type "tuple", data := .seq items.toList.reverse.toArray } })
    (hsz : items.size ≤ sizeLine) : wpAny (model prog w) A (getItem (.ref t) (.ref sl)) Q E s := by
  have htake : sizeOk (.seq items.toList.reverse.toArray) := by
    show items.toList.reverse.toArray.size ≤ sizeLine
    rw [List.size_toArray, List.length_reverse, Array.length_toList]
    exact hsz
  obtain ⟨os, hos, hcs, hds⟩ := id hs
  have hTs : s.TypeIs (.ref sl) "slice" := ⟨os, hos, hcs⟩
  unfold getItem
  try with_reducible refine wpAny_holding ?_
  first | refine wpAny_bind (wpAny_pure ?_) | skip
  refine wpAny_bind (wpAny_sequenceKey ht.typeIs (by decide) ?_)
  refine wpAny_bind (wpAny_callSpecial?_slot (name := Str.ofString "__getitem__") ht.typeIs PyProof.Rows.slot_tuple_getitem
    (wpAny_call_entry PyProof.Rows.slot_tuple_getitem ht.typeIs entry_tuple_getitem ?_ (args_tuple_getitem _ _)))
  show wpAny _ _ (Builtin.Tuple.tupleItemsOf (.ref t) >>= _) _ _ s
  refine wpAny_bind (tupleItemsOf_ ht ?_)
  refine wpAny_bind (wpAny_typeOf hTs ?_)
  rw [if_pos (by decide)]
  refine wpAny_bind (applied_back hs pk ?_)
  have hno : ¬ ((((items.size : Int) - 1 == 0) && ((-1 : Int) == 1) && (items.size == items.size)) = true) := by simp
  show wpAny _ _ (if (((items.size : Int) - 1 == 0) && ((-1 : Int) == 1) && (items.size == items.size)) = true then _ else _) _ _ s
  rw [if_neg hno, pick_back]
  first
    | exact wpAny_bind (m := Builtin.Tuple.tupleExact _) (wpAny_newObj_type (wpAny_pure ⟨_, rfl, wpAny_pure h⟩) htake)
    | exact wpAny_bind (m := Builtin.Tuple.tupleExact _) (wpAny_newObj_type (wpAny_bind (wpAny_pure (wpAny_pure ⟨_, rfl, wpAny_pure h⟩))) htake)
    | exact wpAny_bind (wpAny_bind (m := Builtin.Tuple.tupleExact _) (wpAny_newObj_type (wpAny_pure (wpAny_pure ⟨_, rfl, wpAny_pure h⟩)) htake))
    | exact wpAny_bind (wpAny_bind (m := Builtin.Tuple.tupleExact _) (wpAny_newObj_type (wpAny_pure ⟨_, rfl, wpAny_pure h⟩) htake))
end
section
variable {X : Cx} {W : WX}
/-- t[::k], k being -1 -/
def rBack (K : PySem.W.Frag) : R2 := fun x y H Q => y = .int (-1) ∧ ∃ a xs, x = .ref a ∧ SqT K H a xs ∧ NewT xs.reverse H Q
theorem pe_back {e k : Expr} {te tk : TE} {p2 pos : Pos} (he : PE X e te) (hk : PE X k tk) (hs : ∀ v u : Value, subscripted (.Slice none none (some k) p2) false v u = operate [v, u] (getItem v u)) : PE X (.Subscript e (.Slice none none (some k) p2) pos) (tOp (rBack X.K) te tk) := by
  refine ⟨fun pins s σ H Q I h => ?_⟩
  refine Subscript_ (thn (he.run pins s σ H _ I h) fun v s1 ⟨x, H1, I1, r1, q1⟩ => ?_)
  refine wpAny_Slice ?_
  refine wpAny_pure (wpAny_pure ?_)
  rw [evalPart_some]
  refine thn (hk.run pins s1 σ H1 _ I1 q1) fun u s2 ⟨y, H2, I2, r2, q2⟩ => ?_
  obtain ⟨rfl, a, xs, rfl, hx, q⟩ := q2
  obtain ⟨t, rfl⟩ := r2
  cases r1
  have I4 : Inv X pins σ H2 { s2 with heap := s2.heap.push { cls := .type "slice", data := .fields #[.none, .none, .int (-1) t] } } := I2.kept (t' := s2.toks) fun b ob q => Heap.get?_push_of_some _ q
  obtain ⟨its, r, ht, hz⟩ := I4.tuple hx
  have hg := getItem_back (prog := X.prog) (w := X.w) (A := X.A) (E := X.xe) (Q := EP X pins σ Q) ht (Heap.IsSliceOf.new ..) (.int (-1) t) (lay_tup I4 r.reverse (by rw [List.length_reverse]; exact hz) q) (by rw [List.size_toArray, ← r.length]; exact hz)
  exact tail_any (ops := [.ref a, .ref s2.heap.objs.size]) ht.typeIs PyProof.Rows.slot_tuple_getitem.lookup hg (hs _ _)
def pBack : Pr := fun ds => match ds with
  | [.tup xs, .int i] => if i = -1 then some (.d (.tup xs.reverse)) else none
  | _ => none
theorem pr_back {K : PySem.W.Frag} : PrimR K pBack (two (rBack K)) := fun F H ds vs Q pr fd rt e q => by
  unfold pBack at e
  split at e
  · split at e
    · rename_i hi
      subst hi
      obtain ⟨v, _, rfl, ⟨p, us, rfl, hp, r1⟩, v2, _, rfl, h2, rfl⟩ := rt
      cases e
      rw [show v2 = V.int (-1) from h2]
      exact ⟨rfl, p, us, rfl, hp.sq, fun c o hd hc => q _ _ (same_new hc) ⟨c, _, rfl, ⟨o, hd, upd_same⟩, repL_same (same_new hc) (RepL.reverse r1)⟩⟩
    · cases e
  · cases e
theorem e_back {a b : Expr} {oa ob : Opd} {p2 pos : Pos} (ha : DOp X W a oa) (hb : DOp X W b ob) (hs : ∀ v u : Value, subscripted (.Slice none none (some b) p2) false v u = operate [v, u] (getItem v u) := by exact fun _ _ => by with_unfolding_all rfl) : DEv X W (.Subscript a (.Slice none none (some b) p2) pos) (dPrim pBack [oa, ob]) := by
  obtain ⟨ta, h1, s1⟩ := ha
  obtain ⟨tb, h2, s2⟩ := hb
  exact ⟨_, pe_back h1 h2 hs, sem_prim (asem2 s1 s2) pr_back⟩
end
end DL
/-! DLE: enumerate(t) of a tuple. -/
namespace DL
open PySem PySem.Spec PyProof.Rows L2
/-- the tuple at a, each item in a new pair with its place -/
def EnT (K : PySem.W.Frag) (a : Addr) : It where
  go i H := ∃ (xs : List V) (x : V), SqT K H a xs ∧ xs[i]? = some x
  yld i H v H' := ∃ T x, v = .ref T ∧ H T = none ∧ H' = upd H T (.tup [.int (i : Nat), x]) ∧ ∀ xs, SqT K H a xs → xs[i]? = some x
  stop i H := ∃ xs : List V, SqT K H a xs ∧ xs.length ≤ i
section
theorem enum_new1 {v : Value} {o : Obj} {G : Heap → Prop} (B : PySem.Begins v o G) :
    Meets (Builtin.«enumerate.__new__» ⟨[.type "enumerate", v], []⟩) (fun _ R s => G s.heap ∧
      R (.ok (.ret (.ref (s.heap.push o).objs.size))) { s with heap := (s.heap.push o).push { cls := .type "enumerate", data := .fields #[.none, .bool false, .ref s.heap.objs.size, rawInt 0, .none, .none] } }) :=
  .of_wp fun prog w A R s hh => by
    obtain ⟨hp, g, d, tk, os⟩ := s
    obtain ⟨gg, hh⟩ := hh
    have sub := sub_enumerate
    have it : ∀ {A' : Around} {E' : Value → Shared → Prop} {Q' : Value → Shared → Prop}, Q' (.ref hp.objs.size) ⟨hp.push o, g, d, tk, os⟩ → wpAny (model prog w) A' (pyIter v) Q' E' ⟨hp, g, d, tk, os⟩ :=
      fun q => B.iter prog w _ _ ⟨hp, g, d, tk, os⟩ _ gg q
    wp_walk using it
    refine wpAny_stack_any fun _ => (wpAny_pure ?_)
    split
    · rename_i c _ _ _ _ _
      cases (c == Value.type "enumerate") <;> (wp_walk using it; exact ⟨_, rfl, hh⟩)
    · wp_walk using it
      exact ⟨_, rfl, hh⟩
theorem enum_call1 {prog : Program} {w : World} {A : Around} {E : Value → Shared → Prop} {s : Shared} {v : Value} {o : Obj} {G : Heap → Prop} {Q : Value → Shared → Prop} (B : PySem.Begins v o G) (g : G s.heap)
    (q : ∀ h', IsEnum h' (s.heap.objs.size + 1) s.heap.objs.size 0 .none → h'.get? s.heap.objs.size = some o → h'.objs.size = s.heap.objs.size + 2 → (∀ b z, s.heap.get? b = some z → h'.get? b = some z) → Q (.ref (s.heap.objs.size + 1)) { s with heap := h' }) :
    wpAny (model prog w) A (call (.type "enumerate") [v]) Q E s := by
  refine callType_new F.called_enumerate (by decide) (F.typeCall_enumerate_1 _) (F.newCall_enumerate_1 _) (fun obj => F.args_object_init_2 obj _) F.entry_enumerate_new (enum_new1 B) ⟨g, ?_⟩
  have sz : (s.heap.push o).objs.size = s.heap.objs.size + 1 := Heap.size_push ..
  show _ ∧ _
  rw [sz]
  have at_ : IsEnum ((s.heap.push o).push { cls := .type "enumerate", data := .fields #[.none, .bool false, .ref s.heap.objs.size, rawInt 0, .none, .none] }) (s.heap.objs.size + 1) s.heap.objs.size 0 .none := by
    have z := Heap.get?_push_size (s.heap.push o) (o := { cls := .type "enumerate", data := .fields #[.none, .bool false, .ref s.heap.objs.size, rawInt 0, .none, .none] }) rfl
    rw [sz] at z
    exact z
  exact ⟨⟨_, at_, rfl⟩, q _ at_ (Heap.get?_push_of_some _ (Heap.get?_push_size _ B.free)) (by rw [Heap.size_push, sz]) fun b z y => Heap.get?_push_of_some _ (Heap.get?_push_of_some _ y)⟩
theorem enT_turn {P : Program} {w : World} {K : PySem.W.Frag} {elts : List Expr} {kk : Nat} {tpos : Pos} (a e it : Addr) :
    Turn P w K (.Tuple elts kk tpos) (EnT K a) [e, it] e (fun i h => (∃ old, IsEnum h e it ((i : Nat) : Int) old) ∧ h.IsTupleIter it a i ∧ e ≠ it) where
  mem := by simp
  obj i h st b hb := by
    obtain ⟨⟨old, he⟩, ⟨o, ho, _, hd⟩, _⟩ := st
    have z : b = e ∨ b = it := by simpa using hb
    rcases z with rfl | rfl
    · exact ⟨_, he, fun v q => nomatch q⟩
    · exact ⟨o, ho, fun v q => by rw [hd] at q; cases q⟩
  keep i h h' st k := let ⟨⟨old, he⟩, hi, hne⟩ := st; ⟨⟨old, k e (by simp) _ he⟩, hi.at fun o q => k it (by simp) o q, hne⟩
  self A i s Q E st h := let ⟨⟨_, he⟩, _⟩ := st; wpAny_pyIter_enum he h
  item := by
    intro X eP ew eK calm i pins s σ H E I hf st go
    subst eP ew eK
    obtain ⟨⟨old, he⟩, hit, hne⟩ := st
    obtain ⟨xs, x, hq, hx⟩ := go
    obtain ⟨its, rv, p, hz⟩ := I.tuple hq
    obtain ⟨u, hu, ru⟩ := rv.get hx
    have la : a ≠ it := fun z => by
      subst z
      obtain ⟨o1, g1, c1, _⟩ := hit
      obtain ⟨o2, g2, c2, _⟩ := p
      rw [g1] at g2; cases g2
      rw [c1] at c2; exact absurd c2 (by decide)
    have lb : e ≠ a := fun z => by
      subst z
      obtain ⟨o2, g2, c2, _⟩ := p
      have he' : s.heap.get? e = _ := he
      rw [he'] at g2; cases g2
      exact absurd c2 (by simp)
    have ui : its.toArray[i]? = some u := by simpa using hu
    have il : i < its.toArray.size := (Array.getElem?_eq_some_iff.mp ui).1
    have e_lt : e < s.heap.objs.size := Heap.lt_size he
    have i_lt : it < s.heap.objs.size := by obtain ⟨_, q, _⟩ := hit; exact Heap.lt_size q
    refine wpAny_pyNext_enum_itemD (PySem.Draws.tuple (A := X.A.in1) (I.ok.hd calm) it a la its.toArray) he ⟨hit, p⟩ il hne (by simp [hne, lb]) fun y h1 tk hy out st1 hT sz k1 => ?_
    have yu : y = u := by rw [ui] at hy; exact (Option.some.inj hy).symm
    subst yu
    refine ⟨_, rfl, wpAny_letOwnedTupleGo_enum (s := { s with heap := h1, toks := tk + 1 }) out fun h2 he2 sb => ?_⟩
    have T2 : h2.get? s.heap.objs.size = some { cls := .type "tuple", data := .seq #[.int i tk, y] } := (sb.2 _ (Nat.ne_of_gt e_lt)).trans hT
    have fresh : ObjOk X.prog X.w (upd H s.heap.objs.size (.tup [.int (i : Nat), x])) h2 s.heap.objs.size (.tup [.int (i : Nat), x]) := ⟨by show 2 ≤ sizeLine; decide, [.int i tk, y], .cons ⟨_, rfl⟩ (.cons ru .nil), ⟨_, T2, rfl, _, rfl⟩⟩
    have I1 : Inv X pins σ (upd H s.heap.objs.size (.tup [.int (i : Nat), x])) { s with heap := h2, toks := tk + 1 } := I.turnedNew (ch := [e, it]) (fun b ob hb q => (sb.2 b fun z => hb (by simp [z])).trans (k1 b ob (fun z => hb (by simp [z])) (fun z => hb (by simp [z])) q)) hf (Nat.le_refl _) fresh
    refine ⟨.ref s.heap.objs.size, _, I1, rfl, ⟨_, x, rfl, I.hok.fresh (Nat.le_refl _), rfl, fun ys hy => by rw [I.tuple_inj hy hq]; exact hx⟩, ⟨⟨y, ?_⟩, st1.1.at fun o q => (sb.2 it (Ne.symm hne)).trans q, hne⟩, fun b hb => ?_⟩
    · rw [show ((i + 1 : Nat) : Int) = (i : Int) + 1 by omega]
      exact he2
    · have b_lt : b < s.heap.objs.size := by
        have z : b = e ∨ b = it := by simpa using hb
        rcases z with rfl | rfl <;> assumption
      rw [upd_ne (Nat.ne_of_lt b_lt)]
      exact (hf b hb).1
  done := by
    intro X eP ew eK calm i pins s σ H E I hf st stp
    subst eP ew eK
    obtain ⟨⟨old, he⟩, hit, hne⟩ := st
    obtain ⟨xs, hq, hx⟩ := stp
    obtain ⟨its, rv, p, hz⟩ := I.tuple hq
    have none_ : its.toArray[i]? = none := by
      have := rv.length
      simp
      omega
    obtain ⟨f0, f1, f2, f3, f4, f5⟩ := hf it (by simp)
    have D : PySem.Draws X.prog X.w X.A.in1 it [it, a] i (fun _ _ => True) (fun j h => j = i ∧ h.IsTupleIter it a i ∧ h.IsTuple a its.toArray) := {
      live := fun _ _ ⟨_, ⟨o, ho, _⟩, _⟩ => ⟨o, ho⟩
      frame := fun _ _ _ ⟨k0, k1, k2⟩ hk => ⟨k0, k1.at fun o e => hk it (by simp) o e, k2.at fun o e => hk a (by simp) o e⟩
      item := fun j s Q E lt ⟨k0, _⟩ _ => absurd k0 (by omega)
      done := fun s Q E ⟨_, k1, k2⟩ hE => wpAny_nextOf_tuple_end (I.ok.hd calm) k1 k2 none_ hE }
    exact wpAny_pyNext_enum_endD D he ⟨rfl, hit, p⟩ fun h' eb => ⟨rfl, I.turned (t' := s.toks) (fun b o hb q => eb b o hb q) f0 f1 f3 f4 f5⟩
def iEnA (K : PySem.W.Frag) (ta : TA) : TI := fun σ H R => ta σ H fun vs H1 => ∃ a xs, vs = [.ref a] ∧ ((SqT K H1 a xs ∧ R (EnT K a) H1) ∨ (SqL K H1 a xs ∧ R (Ite K a) H1))
theorem pi_enA {X : Cx} {e : Expr} {ta : TA} {p pos tpos : Pos} {elts : List Expr} {kk : Nat} (hg : Gl X "enumerate") (hm : X.mg "enumerate" = none) (ha : PA X [e] ta) (hs : starEach [e] X.env = [(false, eval e X.env)] := by rfl) :
    PI X (.Tuple elts kk tpos) (.Call (.Name "enumerate" p) [e] [] pos) (iEnA X.K ta) := by
  refine ⟨fun pins s σ H R I h => Call_ (ld_blt I hg hm boot_enumerate (PyProof.Rows.callWith_type1 (thn (ha.run pos pins s σ H _ I h) fun us s1 ⟨vs, H1, I1, r1, a, xs, ex, q⟩ => ?_) hs rfl))⟩
  subst ex
  have fpk : ∀ b ∈ [s1.heap.objs.size + 1, s1.heap.objs.size], FpOk X pins H1 b := fun b hb => by
    have le : s1.heap.objs.size ≤ b := by
      have z : b = s1.heap.objs.size + 1 ∨ b = s1.heap.objs.size := by simpa using hb
      rcases z with rfl | rfl <;> omega
    exact I1.fpOk le (I1.hok.fresh le)
  cases r1 with
  | cons r rr =>
    cases rr
    cases r
    rcases q with ⟨hq, q⟩ | ⟨hq, q⟩
    · obtain ⟨its, rv, p', hz⟩ := I1.tuple hq
      refine enum_call1 (PySem.begins_tuple a its.toArray) p' fun h' he hit sz hk => wpAny_pyIter_enum he ?_
      exact ⟨s1.heap.objs.size + 1, [s1.heap.objs.size + 1, s1.heap.objs.size], _, _, H1, rfl, I1.kept (t' := s1.toks) hk, enT_turn a (s1.heap.objs.size + 1) s1.heap.objs.size, ⟨⟨.none, he⟩, ⟨_, hit, rfl, rfl⟩, Nat.succ_ne_self _⟩, fpk, q⟩
    · obtain ⟨its, rv, p', hz⟩ := I1.list hq
      refine enum_call1 (PySem.begins_list a its.toArray) p'.isList fun h' he hit sz hk => wpAny_pyIter_enum he ?_
      exact ⟨s1.heap.objs.size + 1, [s1.heap.objs.size + 1, s1.heap.objs.size], _, _, H1, rfl, I1.kept (t' := s1.toks) hk, turn_enum a (s1.heap.objs.size + 1) s1.heap.objs.size, ⟨⟨.none, he⟩, ⟨_, hit, rfl, rfl⟩, Nat.succ_ne_self _⟩, fpk, q⟩
theorem walks_enT {K : PySem.W.Frag} {O F : Fz} {H : Hp} {a : Addr} {vs : List V} {xs : List D} (hl : TpL H a vs) (hr : RepL K F H xs vs) : Walks K O F H (EnT K a) (enumD 0 xs) := fun F' H' E od i => by
  have q : SqT K H' a vs := (tpL_ext E hl).sq
  have rl := RepL.ext E xs vs hr
  rw [enumD_get]
  cases hx' : xs[i]? with
  | none => exact ⟨fun d hx => (nomatch hx), fun _ => ⟨vs, q, by rw [hr.length]; exact List.getElem?_eq_none_iff.mp hx'⟩⟩
  | some x =>
    refine ⟨fun d hx => ?_, fun hx => (nomatch hx)⟩
    cases hx
    obtain ⟨v, hv, r⟩ := rl.get hx'
    refine ⟨⟨vs, v, q, hv⟩, fun y H'' ⟨T, v2, ey, hT, eH, hy⟩ => ?_⟩
    subst ey eH
    have e2 := hy vs q
    rw [hv] at e2
    cases e2
    refine ⟨same_new hT, T, .int (i : Nat), v, rfl, upd_same, ?_⟩
    rw [show ((0 + i : Nat) : Int) = ((i : Nat) : Int) by rw [Nat.zero_add]]
    exact ⟨rfl, rep_same (same_new hT) r⟩
def enumA (ds : List D) : Option (List D) := match ds with
  | [.tup xs] => some (enumD 0 xs)
  | [.lst xs] => some (enumD 0 xs)
  | _ => none
theorem it_enA {X : Cx} {W : WX} {e : Expr} {os : List Opd} {p pos tpos : Pos} {elts : List Expr} {kk : Nat} (hg : Gl X "enumerate") (hm : X.mg "enumerate" = none) (ha : DAs X W [e] os) (hs : starEach [e] X.env = [(false, eval e X.env)] := by rfl) (hv : allV os = true := by rfl) :
    DIt X W (.Tuple elts kk tpos) (.Call (.Name "enumerate" p) [e] [] pos) (iArgs enumA os) := by
  obtain ⟨t, h, s⟩ := ha
  refine ⟨_, pi_enA hg hm h hs, isem_vals s hv fun O F H ds vs xs R' r e k => ?_⟩
  unfold enumA at e
  split at e
  · cases e
    obtain ⟨v, _, rfl, ⟨a, ws, rfl, ha, rl⟩, rfl⟩ := r
    exact ⟨a, ws, rfl, .inl ⟨ha.sq, k _ (walks_enT ha rl)⟩⟩
  · cases e
    obtain ⟨v, _, rfl, ⟨a, ws, rfl, fa, ha, rl⟩, rfl⟩ := r
    exact ⟨a, ws, rfl, .inr ⟨SqL.of ha, k _ (walks_enum (fun F' H' E => SqL.of (E.fz a _ fa ha)) rl)⟩⟩
  · cases e
end
end DL
/-! DLP: l.pop(i). -/
namespace DL
open PySem PySem.Spec PyProof.Rows L2
theorem RepL.erase {K : PySem.W.Frag} {F : Fz} {H : Hp} : ∀ {ds : List D} {vs : List V} (k : Nat), RepL K F H ds vs → RepL K F H (ds.eraseIdx k) (vs.eraseIdx k)
  | [], _, k, h => by
    rw [show _ = ([] : List V) from h]
    exact RepL.nil
  | d :: ds, _, 0, ⟨v, r, e, h1, h2⟩ => by
    subst e
    exact h2
  | d :: ds, _, k + 1, ⟨v, r, e, h1, h2⟩ => by
    subst e
    exact RepL.cons h1 (RepL.erase k h2)
def mPopAt : List D → List D → Option (List D × D) := fun xs ds => match ds with
  | [.int i] => if small62 i = true then ((ixN xs.length i).bind fun k => (xs[k]?).map fun d => (xs.eraseIdx k, d)) else none
  | _ => none
theorem mr_popAt {K : PySem.W.Frag} : MutR K mPopAt rPopAt := fun F H a xs us ds vs ys d Q h r rd e q => by
  unfold mPopAt at e
  split at e
  · rename_i i
    split at e
    · rename_i hs
      cases hk : ixN xs.length i with
      | none => rw [hk] at e; cases e
      | some k =>
        rw [hk] at e
        cases hx : xs[k]? with
        | none => simp [hx] at e
        | some z =>
          simp [hx] at e
          obtain ⟨e1, e2⟩ := e
          subst e1 e2
          obtain ⟨v, hv, rv⟩ := r.get hx
          obtain ⟨w, _, ew, hw, er⟩ := rd
          subst ew er
          rw [show w = V.int i from hw]
          simp only [small62, Bool.and_eq_true, decide_eq_true_eq] at hs
          exact ⟨a, us, i, k, v, rfl, rfl, h, by omega, by omega, by rw [r.length]; exact (ixN_seq hk).1, hv, q _ _ (r.erase k) rv⟩
    · cases e
  · cases e
section
variable {X : Cx} {W : WX}
theorem e_popAt (i : Nat) {y : Str} {e : Expr} {os : List Opd} {py apos cpos : Pos} (ha : DAs X W [e] os) (hv : allV os = true := by rfl)
    (hN : X.N[i]? = some y := by rfl) (hvis : Vis X.env.scope y := by first | exact Or.inl rfl | exact Or.inr (Or.inl rfl) | exact Or.inr (Or.inr rfl)) (hd : (y == ("__debug__" : Str)) = false := by decide) (hcd : (y == ("__classdict__" : Str)) = false := by decide)
    (hb : attributeBase (.Name y py) "pop" X.env (eval (.Name y py) X.env) = eval (.Name y py) X.env := by rfl) (hf : Few X e cpos := by rfl) (hl : (apos.endLine == cpos.line) = true := by rfl)
    (he : starEach (e :: []) X.env = (false, eval e X.env) :: starEach [] X.env := by rfl) (hpl : (backTo cpos (starEach [] X.env)).any (·.1) = false := by rfl) : DEv X W (.Call (.Attribute (.Name y py) "pop" apos) [e] [] cpos) (dMut mPopAt i os) :=
  e_mut i mr_popAt PySem.F.slot_list_pop PySem.F.type_list_pop mt_popAt ha hv hN hvis hd hcd hb hf hl he hpl
end
end DL
/-! DLX: abs, &, divmod, op= at names and items, l += m, list(range(..)), ranges kept by a name, t.count(x). -/
namespace DL
open PySem PySem.Spec PyProof.Rows L2
section
variable {X : Cx} {W : WX} {B : Bs} {e a b : Expr} {o oa ob : Opd} {p pos : Pos}
def pAbs : Pr := fun ds => match ds with
  | [.int i] => some (.d (.int (if i < 0 then -i else i)))
  | _ => none
def rAbs1 : Rl := fun xs H Q => ∃ i, xs = [.int i] ∧ Q (.int (if i < 0 then -i else i)) H
theorem pr_abs {K : PySem.W.Frag} : PrimR K pAbs rAbs1 := fun F H ds vs Q pr fd rt e q => by
  unfold pAbs at e
  split at e
  · obtain ⟨v, _, rfl, h1, rfl⟩ := rt
    cases h1
    cases e
    exact ⟨_, rfl, q H _ (Same.refl _) rfl⟩
  · cases e
theorem x_abs (hm : X.mg "abs" = none) (ha : DOp X W e o) (hg : Gl X "abs" := by rfl) (hs : S1 X e := by rfl) (hpl : (backTo pos (starEach [] X.env)).any (·.1) = false := by rfl) : DEv X W (.Call (.Name "abs" p) [e] [] pos) (dPrim pAbs [o]) := e_callB call_abs pr_abs hg hm (by decide +kernel) (a1 ha hs) (he := hs) (hpl := hpl)
def pBand : Pr := pInt2 fun a b => some (.int (Builtin.bitAnd a b))
theorem pr_band {K : PySem.W.Frag} : PrimR K pBand (two (rI0 fun i j => .int (Builtin.bitAnd i j))) := pr_int2 fun a b d H Q e q => by cases e; exact ⟨a, b, rfl, rfl, q _ fun _ _ _ => rfl⟩
theorem x_band (ha : DOp X W a oa) (hb : DOp X W b ob) : DEv X W (.BinOp a .BitAnd b pos) (dPrim pBand [oa, ob]) := e_op op_and pr_band ha hb

/-! ### list(range(..)) -/
def rgOk (a b : Int) : Bool := decide (-(2 ^ 62) ≤ a) && decide (a < 2 ^ 62) && decide (-(2 ^ 62) ≤ b) && decide (b < 2 ^ 62) && decide ((b - a).toNat ≤ 2 ^ 24)
theorem rgOk_of {a b : Int} (h : rgOk a b = true) : RgOk a b := by
  simp only [rgOk, Bool.and_eq_true, decide_eq_true_eq] at h
  exact ⟨h.1.1.1.1, h.1.1.1.2, h.1.1.2, h.1.2, h.2⟩
theorem repL_rg {K : PySem.W.Frag} {F : Fz} {H : Hp} (a b : Int) : RepL K F H (rngD a (b - a).toNat) (rgV a b) := by
  have key : ∀ (n : Nat) (lo : Int), RepL K F H (rngD lo n) ((List.range n).map fun i => V.int (lo + (i : Nat))) := fun n => by
    induction n with
    | zero => intro lo; exact RepL.nil
    | succ n ih =>
      intro lo
      rw [List.range_succ_eq_map, List.map_cons, List.map_map, rngD]
      refine RepL.cons (by show _ = V.int lo; simp) ?_
      have := ih (lo + 1)
      have e : ((fun i : Nat => V.int (lo + (i : Nat))) ∘ Nat.succ) = fun i : Nat => V.int (lo + 1 + (i : Nat)) := by
        funext i
        show V.int (lo + ((i + 1 : Nat) : Int)) = V.int (lo + 1 + (i : Nat))
        congr 1
        omega
      rw [e]
      exact this
  exact key _ a
def pLstRg1 : Pr := fun ds => match ds with
  | [.int n] => if rgOk 0 n = true then some (.nl (rngD 0 n.toNat)) else none
  | _ => none
def rLstRg1 : Rl := one fun x H Q => ∃ n, x = .int n ∧ RgOk 0 n ∧ ∀ q, H q = none → Q (.ref q) (upd H q (.lst (rgV 0 n)))
theorem pr_lstRg1 {K : PySem.W.Frag} : PrimR K pLstRg1 rLstRg1 := fun F H ds vs Q pr fd rt e q => by
  unfold pLstRg1 at e
  split at e
  · rename_i n
    obtain ⟨v, _, rfl, h1, rfl⟩ := rt
    cases h1
    split at e
    · rename_i h
      cases e
      have r := repL_rg (K := K) (F := F) (H := H) 0 n
      rw [Int.sub_zero] at r
      exact ⟨n, rfl, rgOk_of h, fun c hc => q _ _ (same_new hc) ⟨c, _, rfl, hc, upd_same, repL_same (same_new hc) r⟩⟩
    · cases e
  · cases e
theorem x_lstRg1 {p2 pos2 : Pos} (hc : X.calm = true) (hl : X.mg "list" = none) (hm : X.mg "range" = none) (ha : DOp X W a oa) (hg : Gl X "list" := by rfl) (hg2 : Gl X "range" := by rfl) (na : starEach [a] X.env = (false, eval a X.env) :: starEach [] X.env := by rfl)
    (nb : starEach [.Call (.Name "range" p2) [a] [] pos2] X.env = (false, eval (.Call (.Name "range" p2) [a] [] pos2) X.env) :: starEach [] X.env := by rfl) :
    DEv X W (.Call (.Name "list" p) [.Call (.Name "range" p2) [a] [] pos2] [] pos) (dPrim pLstRg1 [oa]) := by
  obtain ⟨ta, h, s⟩ := ha
  refine ⟨_, pe_listRg hc hg hl (prg_1 hg2 hm h na) nb, fun O F σ H env Q st g => ?_⟩
  exact sem_prim (r := rLstRg1) (asem1 s) pr_lstRg1 O F σ H env Q st g

/-! ### a range that a name keeps -/
def tRgV (ta tb : TE) : TE := fun σ H Q => ta σ H fun x H1 => tb σ H1 fun y H2 => ∃ i j, x = .int i ∧ y = .int j ∧ ∀ p o, H2 p = none → Q (.ref p) (upd H2 p (.frz o (.rng i j)))
theorem pe_rgV {ta tb : TE} (hg : Gl X "range") (hm : X.mg "range" = none) (ha : PE X a ta) (hb : PE X b tb) (na : starEach [a, b] X.env = (false, eval a X.env) :: starEach [b] X.env := by rfl)
    (nb : starEach [b] X.env = (false, eval b X.env) :: starEach [] X.env := by rfl) (hp : (backTo pos (starEach [b] X.env)).any (·.1) = false := by rfl) : PE X (.Call (.Name "range" p) [a, b] [] pos) (tRgV ta tb) := by
  refine ⟨fun pins s σ H Q I h => ?_⟩
  refine Call_ (ld_blt I hg hm boot_range (PyProof.Rows.callWith_type1 (args_cons (thn (ha.run pins s σ H _ I h) fun v s1 ⟨x, H1, I1, r1, q1⟩ => one_arg hb I1 q1 (fun u s2 y H2 I2 r2 q => ?_) nb) na) na hp))
  obtain ⟨i, j, rfl, rfl, q⟩ := q
  obtain ⟨t, rfl⟩ := r1
  obtain ⟨t', rfl⟩ := r2
  refine call_range_2 ⟨.ref s2.heap.objs.size, upd H2 s2.heap.objs.size (.frz { cls := .type "range", data := .fields #[.int i t, .int j t', .int 1 s2.toks] } (.rng i j)), ?_, rfl, q _ _ (I2.hok.fresh (Nat.le_refl _))⟩
  exact I2.laid (o := .frz { cls := .type "range", data := .fields #[.int i t, .int j t', .int 1 s2.toks] } (.rng i j)) (fun b u e => Heap.get?_push_of_some _ e) (Nat.le_refl _) ⟨Heap.get?_push_size _ rfl, _, _, _, Heap.get?_push_size _ rfl⟩
def pRg2 : Pr := fun ds => match ds with
  | [.int i, .int j] => some (.d (.rng i j))
  | _ => none
def rRg2 : Rl := two fun x y H Q => ∃ i j, x = .int i ∧ y = .int j ∧ ∀ p o, H p = none → Q (.ref p) (upd H p (.frz o (.rng i j)))
theorem pr_rg2 {K : PySem.W.Frag} : PrimR K pRg2 rRg2 := fun F H ds vs Q pr fd rt e q => by
  unfold pRg2 at e
  split at e
  · obtain ⟨v, _, rfl, h1, w, _, rfl, h2, rfl⟩ := rt
    cases h1
    cases h2
    cases e
    exact ⟨_, _, rfl, rfl, fun c o hc => q _ _ (same_new hc) ⟨c, o, rfl, upd_same⟩⟩
  · cases e
theorem x_rg2 (hm : X.mg "range" = none) (ha : DOp X W a oa) (hb : DOp X W b ob) (hg : Gl X "range" := by rfl) (na : starEach [a, b] X.env = (false, eval a X.env) :: starEach [b] X.env := by rfl)
    (nb : starEach [b] X.env = (false, eval b X.env) :: starEach [] X.env := by rfl) (hp : (backTo pos (starEach [b] X.env)).any (·.1) = false := by rfl) : DEv X W (.Call (.Name "range" p) [a, b] [] pos) (dPrim pRg2 [oa, ob]) := by
  obtain ⟨ta, h1, s1⟩ := ha
  obtain ⟨tb, h2, s2⟩ := hb
  refine ⟨_, pe_rgV hg hm h1 h2 na nb hp, fun O F σ H env Q st g => ?_⟩
  exact sem_prim (r := rRg2) (asem2 s1 s2) pr_rg2 O F σ H env Q st g
def iRng (m : DE) : DI := fun env => (m env).bind fun r env1 => match r.d with
  | .rng lo hi => if small62 lo = true then (if small62 hi = true then .ok (rngD lo (hi - lo).toNat) env1 else .bad) else .bad
  | _ => .bad
theorem pi_rngV {tg l : Expr} {tl : TE} (hl : PE X l tl) : PI X tg l (fun σ H R => tl σ H fun x H1 => ∃ r o lo hi, x = .ref r ∧ H1 r = some (.frz o (.rng lo hi)) ∧ (-(2 ^ 62) ≤ lo ∧ lo < 2 ^ 62 ∧ -(2 ^ 62) ≤ hi ∧ hi < 2 ^ 62) ∧ R (Itr lo (hi - lo).toNat) H1) := by
  refine ⟨fun pins s σ H R I h => ?_⟩
  refine thn (hl.run pins s σ H _ I h) fun u s1 ⟨x, H1, I1, rx, r, o, lo, hi, ex, hr, ⟨h1, h2, h3, h4⟩, q⟩ => ?_
  subst ex
  have ru : u = Value.ref r := rx
  subst ru
  obtain ⟨_, t, u, v, ho⟩ := I1.hok r _ hr
  refine wpAny_pyIter_range (r := r) (a := lo) (b := hi) (c := 1) (t := t) (u := u) (v := v) ho (small_one h1 h2 h3 h4) ?_
  refine ⟨s1.heap.objs.size, [s1.heap.objs.size], _, _, H1, rfl, I1.kept (t' := s1.toks) fun b o e => Heap.get?_push_of_some _ e, turn_range _ lo (hi - lo).toNat, ?_, fun b hb => ?_, q⟩
  · have e1 : lo + ((0 : Nat) : Int) * 1 = lo := by simp
    have e2 : (((hi - lo).toNat : Nat) : Int) - ((0 : Nat) : Int) = Builtin.Range.rangeSize lo hi 1 := by rw [rangeSize_one]; split <;> omega
    show IsRangeIter _ _ (lo + ((0 : Nat) : Int) * 1) ((((hi - lo).toNat : Nat) : Int) - ((0 : Nat) : Int)) 1
    rw [e1, e2]
    exact Heap.get?_push_size _ rfl
  · have e : b = s1.heap.objs.size := by simpa using hb
    subst e
    exact I1.fpOk (Nat.le_refl _) (I1.hok.fresh (Nat.le_refl _))
theorem it_rngV {tg : Expr} {m : DE} (h : DEv X W e m) : DIt X W tg e (iRng m) := by
  obtain ⟨t, h, s⟩ := h
  refine ⟨_, pi_rngV h, fun O F σ H env R' st g => ?_⟩
  refine s O F σ H env _ st ?_
  unfold iRng at g
  cases q : m env with
  | bad => rw [q] at g; exact g.elim
  | err x e => rw [q] at g; exact g
  | ok r env1 =>
    rw [q] at g
    simp only [R.bind] at g
    intro F1 H1 v E1 st1 r1
    obtain ⟨md, d⟩ := r
    cases d with
    | rng lo hi =>
      simp only [] at g
      cases md with
      | shr =>
        obtain ⟨a, o, rfl, ha⟩ := r1
        by_cases hlo : small62 lo = true
        · rw [if_pos hlo] at g
          by_cases hhi : small62 hi = true
          · rw [if_pos hhi] at g
            obtain ⟨b1, b2⟩ := small62_of hlo
            obtain ⟨b3, b4⟩ := small62_of hhi
            exact ⟨a, o, lo, hi, rfl, ha, ⟨b1, b2, b3, b4⟩, g F1 H1 _ E1 st1 walks_rng⟩
          · rw [if_neg hhi] at g; exact g.elim
        · rw [if_neg hlo] at g; exact g.elim
      | own => obtain ⟨_, _, _, z, _⟩ := r1; cases z
      | bor => obtain ⟨_, _, _, z, _⟩ := r1; cases z
    | _ => exact g.elim

/-! ### x *= e, numbers -/
def dAugP (i : Nat) (f : Int → Int → Option Int) (m : DE) : DS := fun env => match (env[i]? : Option (Option Ent)) with
  | some (some (Ent.mk Md.shr (.int a))) => (m env).bind fun r env1 => match r with
    | ⟨.shr, .int b⟩ => (match f a b with
      | some c => .ok .nx (env1.set i (some ⟨.shr, .int c⟩))
      | none => .bad)
    | _ => .bad
  | _ => .bad
theorem s_augP (i : Nat) {f : Int → Int → Option Int} {op : Operator} {t : TIp} {x : Str} {m : DE} {pos' pos : Pos} (hN : X.N.Nodup) (ho : PIp X op t) (ht : ∀ a b c H (Q : VK), f a b = some c → Q (.int c) H → t (.int a) (.int b) H Q) (hm : DEv X W e m) (hi : X.N[i]? = some x := by rfl) (hx : Loc X.env.scope x := by first | exact Or.inl rfl | exact Or.inr rfl) (hB : B i = false := by rfl)
    (hf : X.fn x = true ∨ X.env.scope.names.lookup x = some .local := by first | exact .inl rfl | exact .inr rfl | assumption) : DSt X W B (.AugAssign (.Name x pos') op e pos) (dAugP i f m) := by
  obtain ⟨te, h1, s1⟩ := hm
  refine ⟨_, ps_aug hN hi hx h1 ho hf, fun O F σ H env Dn st g => ?_⟩
  unfold dAugP at g
  split at g
  · rename_i a ha
    obtain ⟨v, hv, rv⟩ := st.shr i _ ha
    cases rv
    refine ⟨_, hv, s1 O F σ H env _ st ?_⟩
    cases q : m env with
    | bad => rw [q] at g; exact g.elim
    | err y' e => rw [q] at g; exact fun F' H' c d e' s' r => g F' H' σ c d e' s' Keeps.refl r
    | ok r env1 =>
      rw [q] at g
      simp only [R.bind] at g
      intro F1 H1 v E1 st1 r1
      split at g
      · rename_i b
        cases r1
        cases hc : f a b with
        | none => rw [hc] at g; exact g.elim
        | some c =>
          rw [hc] at g
          exact ht a b c _ _ hc (g F1 H1 _ E1 (st1.store (e := ⟨.shr, .int c⟩) rfl) (keeps_set hB))
      · exact g.elim
  · exact g.elim
def fMul (a b : Int) : Option Int := if -(2 ^ 64) < a ∧ a < 2 ^ 64 then some (a * b) else none
theorem s_augMul (i : Nat) {x : Str} {m : DE} {pos' pos : Pos} (hN : X.N.Nodup) (hm : DEv X W e m) (hi : X.N[i]? = some x := by rfl) (hx : Loc X.env.scope x := by first | exact Or.inl rfl | exact Or.inr rfl) (hB : B i = false := by rfl)
    (hf : X.fn x = true ∨ X.env.scope.names.lookup x = some .local := by first | exact .inl rfl | exact .inr rfl | assumption) : DSt X W B (.AugAssign (.Name x pos') .Mult e pos) (dAugP i fMul m) :=
  s_augP i (t := rI CMul fun i j => .int (i * j)) hN iop_mul (fun a b c H Q h q => by
    unfold fMul at h
    split at h
    · rename_i hh
      cases h
      exact ⟨a, b, rfl, rfl, .inl hh, q⟩
    · cases h) hm hi hx hB hf

/-! ### l += m -/
def dAugL (i : Nat) (m : DE) : DS := fun env => match (env[i]? : Option (Option Ent)) with
  | some (some (Ent.mk Md.own (.lst _))) => (m env).bind fun r env1 => match r.d, (env1[i]? : Option (Option Ent)) with
    | .lst ys, some (some (Ent.mk Md.own (.lst xs))) => if xs.length + ys.length ≤ sizeLine then .ok .nx (env1.set i (some ⟨.own, .lst (xs ++ ys)⟩)) else .bad
    | _, _ => .bad
  | _ => .bad
theorem set_same {σ : L2.St} {i : Nat} {v : V} (h : σ[i]? = some (some v)) : σ.set i (some v) = σ := by
  apply List.ext_getElem?
  intro j
  by_cases hj : j = i
  · subst hj
    rw [List.getElem?_set_self (List.getElem?_eq_some_iff.mp h).1, h]
  · rw [List.getElem?_set_ne (Ne.symm hj)]
theorem s_augL (i : Nat) {x : Str} {m : DE} {pos' pos : Pos} (hN : X.N.Nodup) (hm : DEv X W e m) (hi : X.N[i]? = some x := by rfl) (hx : Loc X.env.scope x := by first | exact Or.inl rfl | exact Or.inr rfl) (hB : B i = false := by rfl)
    (hf : X.fn x = true ∨ X.env.scope.names.lookup x = some .local := by first | exact .inl rfl | exact .inr rfl | assumption) : DSt X W B (.AugAssign (.Name x pos') .Add e pos) (dAugL i m) := by
  obtain ⟨te, h1, s1⟩ := hm
  refine ⟨_, ps_aug hN hi hx h1 (iop_ext : PIp X .Add rExt2) hf, fun O F σ H env Dn st g => ?_⟩
  unfold dAugL at g
  split at g
  · rename_i l0 ha
    obtain ⟨a, us0, es0, e0, hσ, hH, _, _, _⟩ := st.own i .own _ ha nofun
    refine ⟨_, hσ, s1 O F σ H env _ st ?_⟩
    cases q : m env with
    | bad => rw [q] at g; exact g.elim
    | err y' e => rw [q] at g; exact fun F' H' c d e' s' r => g F' H' σ c d e' s' Keeps.refl r
    | ok r env1 =>
      rw [q] at g
      simp only [R.bind] at g
      intro F1 H1 v E1 st1 r1
      obtain ⟨F2, E2, st2, r2⟩ := freeze st1 r1
      split at g
      · rename_i ys xs hd hi1
        rw [hd] at r2
        obtain ⟨b, zs, rfl, fb, hb, rb⟩ := r2
        obtain ⟨a', us, es, e2, hσ', hH1, rl, nF, nO⟩ := st2.own i .own _ hi1 nofun
        cases e2
        rw [hσ] at hσ'
        cases hσ'
        split at g
        · rename_i hz
          obtain ⟨st3, E3⟩ := st2.write hi1 nofun hσ hH1 nF nO (rl.append rb)
          refine ⟨a, b, us, zs, rfl, rfl, hH1, hb, by rw [rl.length, rb.length]; exact hz, ?_⟩
          show Dn.nx (σ.set i (some (V.ref a))) _
          rw [set_same hσ]
          exact g F2 _ σ ((E1.trans E2).trans E3) st3 Keeps.refl
        · exact g.elim
      · exact g.elim
  · exact g.elim

/-! ### l[k] += e, numbers -/
theorem pget_list : PGet X (rIxL X.K) := by
  intro pins s σ H x y v u Q I rx ry h
  obtain ⟨p, xs, i, z, rfl, rfl, hq, he, q⟩ := h
  cases rx
  obtain ⟨t, rfl⟩ := ry
  obtain ⟨its, r, pl, hz⟩ := I.list hq
  obtain ⟨j, h1, h2, h3, h4, h5⟩ := atI_get he
  obtain ⟨w, ew, rw'⟩ := r.get h2
  have hl := r.length
  have hn := line63
  have fin : EP X pins σ Q w s := ⟨z, H, I, rw', q⟩
  by_cases h0 : 0 ≤ i
  · have hj : i.toNat = j := by
      rw [seqIndex_of h0 h5] at h1
      exact Option.some.inj h1
    exact wpAny_getItem_list pl.isList h0 (by omega) (by rw [hj]; simpa using ew) fin
  · have hj : (i + (its.toArray.size : Int)).toNat = j := by
      rw [seqIndex_neg (by omega) h4] at h1
      rw [List.size_toArray, ← hl]
      exact Option.some.inj h1
    exact wpAny_getItem_list_neg pl.isList (by omega) (by rw [List.size_toArray] <;> omega) (by omega) (by rw [hj]; simpa using ew) fin
/-- l[k] += n, all written -/
def dAugIx (i : Nat) (k : Int) (n : Int) : DS := fun env => match (env[i]? : Option (Option Ent)) with
  | some (some (Ent.mk Md.own (.lst xs))) => (match ixN xs.length k with
    | some j => (match xs[j]? with
      | some (.int a) => .ok .nx (env.set i (some ⟨.own, .lst (xs.set j (.int (a + n)))⟩))
      | _ => .bad)
    | none => .bad)
  | _ => .bad
theorem s_augIx (i : Nat) {y : Str} {k n : Int} {j1 j2} {py pk pn tpos pos : Pos}
    (hN : X.N[i]? = some y := by rfl) (hvis : Vis X.env.scope y := by first | exact Or.inl rfl | exact Or.inr (Or.inl rfl) | exact Or.inr (Or.inr rfl)) (hd : (y == ("__debug__" : Str)) = false := by decide) (hcd : (y == ("__classdict__" : Str)) = false := by decide)
    (ha : ∀ ov iv new, augStore (.Constant (.int k) j1 pk) ov iv new = (do holding [new, ov, iv] (setItem ov iv new); release [new, ov, iv] []; pure .next) := by intros; rfl) :
    DSt X W B (.AugAssign (.Subscript (.Name y py) (.Constant (.int k) j1 pk) tpos) .Add (.Constant (.int n) j2 pn) pos) (dAugIx i k n) := by
  refine ⟨_, ps_augS (pe_var hN hvis hd hcd) pe_int pget_list pe_int ip_add set_list ha, fun O F σ H env Dn st g => ?_⟩
  unfold dAugIx at g
  split at g
  · rename_i xs hi
    obtain ⟨a, us, es, e0, hσ, hH, rl, nF, nO⟩ := st.own i .own _ hi nofun
    cases e0
    cases hj : ixN xs.length k with
    | none => rw [hj] at g; exact g.elim
    | some j =>
      rw [hj] at g
      simp only [] at g
      split at g
      · rename_i c hx
        obtain ⟨v, hv, rv⟩ := rl.get hx
        cases rv
        have hat : atI us k = some (.int c) := by
          unfold atI
          rw [rl.length, hj]
          exact hv
        obtain ⟨st1, E1⟩ := st.write (es := xs.set j (.int (c + n))) (ws := us.set j (.int (c + n))) hi nofun hσ hH nF nO (RepL.set (d := .int (c + n)) (v := .int (c + n)) (by show V.int (c + n) = V.int (c + n); rfl) j rl)
        refine ⟨_, hσ, ⟨a, us, k, .int c, rfl, rfl, SqL.of hH, hat, c, n, rfl, rfl, a, us, k, j, rfl, rfl, hH, by rw [rl.length]; exact hj, g F _ σ E1 st1 Keeps.refl⟩⟩
      · exact g.elim
  · exact g.elim

theorem sw_cell {elt : Expr} {gs : List Comprehension} {scope : Scope} {pos py : Pos} {y : Str} {l : Nat} {env : Env} (hy : env.scope.names.lookup y = some .cell) : swapsWith (.ListComp elt gs scope pos) (some (.Name y py)) l env = pure false := by
  have ky : env.kindOf y = some .cell := hy
  unfold swapsWith
  simp only [ky]
  have h : (some NameKind.cell == some NameKind.local) = false := by decide
  simp only [h, Bool.and_false, Bool.false_and]
/-! ### t.count(x), t a name -/
def tBMT (r : V → List V → Hp → VK → Prop) (to : TE) (t : TA) : TE := fun σ H Q => to σ H fun x H1 => (∃ a vs, x = .ref a ∧ TpL H1 a vs) ∧ t σ H1 fun xs H2 => r x xs H2 Q
theorem pe_bmT {o1 e1 : Expr} {es : List Expr} {to : TE} {t : TA} {name : Str} {apos cpos : Pos} {id : String} {r : V → List V → Hp → VK → Prop} (pa : PlainAttrs "tuple") (slot : Slot "tuple" name id) (hty : typeOf (.builtin id) = pure (.type "method_descriptor")) (hm : MtR X id r) (ho : PE X o1 to) (ha : PA X (e1 :: es) t)
    (hbase : attributeBase o1 name X.env (eval o1 X.env) = eval o1 X.env := by rfl)
    (hfew : ((backTo cpos (starEach (e1 :: es) X.env)).all (fun x => !x.1) && (backToKw cpos (keywordEach [] X.env)).all (fun x => x.1.isSome)
      && decide ((e1 :: es).length + ([] : List Keyword).length + (if ([] : List Keyword).isEmpty then 0 else 1) < 30)) = true := by rfl)
    (hline : (apos.endLine == cpos.line) = true := by rfl) (hs : starEach (e1 :: es) X.env = (false, eval e1 X.env) :: starEach es X.env := by rfl) (hplain : (backTo cpos (starEach es X.env)).any (·.1) = false := by rfl) :
    PE X (.Call (.Attribute o1 name apos) (e1 :: es) [] cpos) (tBMT r to t) := by
  refine ⟨fun pins s σ H Q I h => ?_⟩
  refine wpAny_Call_method_late hbase hfew hline rfl (thn (ho.run pins s σ H _ I h) fun v s1 ⟨x, H1, I1, r1, ⟨a, vs, ex, o, hd, hx⟩, q1⟩ => ?_)
  subst ex
  cases r1
  obtain ⟨hget, _, its, _, ob, hob, hc, _⟩ := I1.hok a _ hx
  have hoo : o = ob := by rw [hget] at hob; exact Option.some.inj hob
  subst hoo
  refine ⟨"tuple", id, pa, slot, hty, ⟨o, hget, hc⟩, fun b e => ?_, ?_⟩
  · cases e
    exact ⟨o, hget, hd⟩
  have hA := ha.run cpos pins s1 σ H1 _ I1 q1
  rw [hs] at hA ⊢
  refine Calls.callWith_builtin (by show (false || (backTo cpos (starEach es X.env)).any (·.1)) = false; rw [hplain] <;> rfl) (Calls.evalArgs_plain ?_)
  exact thn hA fun us s2 ⟨vs, H2, I2, r2, q2⟩ => hm pins s2 σ H2 (.ref a) vs (.ref a) us Q I2 rfl r2 q2
def rCountT (K : PySem.W.Frag) : V → List V → Hp → VK → Prop := fun x xs H Q => ∃ (a : Addr) (y : V) (d : PyData) (ds : List PyData), x = V.ref a ∧ xs = [y] ∧ Dp K H (V.ref a) (.tuple ds) ∧ Dp K H y d ∧
  SeqAt.shaped (.tuple ds) = true ∧ SeqAt.shaped d = true ∧ Q (.int ((ds.countP fun z => PyData.eqv z d : Nat) : Int)) H
theorem mt_countT (hu : X.A.units + 65 < cLine) : MtR X "tuple.count" (rCountT X.K) := by
  intro pins s σ H x xs v us Q I rx rxs h
  obtain ⟨a, y, d, ds, rfl, rfl, hl, hy, sl, sd, q⟩ := h
  cases rx
  obtain ⟨uy, rfl, ry⟩ := rxs.one
  obtain ⟨bs, r1⟩ := Dp.reads I d y uy hy ry
  have hxs : PyData.canLayAll0 ds = true := by
    have := SeqAt.canLay_of_shaped sl
    simpa only [PyData.canLay0] using this
  cases hl with
  | tup hs ha =>
    obtain ⟨its, rv, pt, hlen⟩ := I.tuple hs
    obtain ⟨as, h4⟩ := Dp.readsAll I ds _ its ha rv
    exact SeqAt.count_tuple_data (vs := its.toArray) pt (by simpa using h4) r1 (PyData.plainAll_of_canLay0 ds hxs) (PyData.plain_of_canLay0 d (SeqAt.canLay_of_shaped sd)) (room_in_shaped sd hu) ⟨.int _, H, I.tok _, ⟨_, rfl⟩, q⟩
def pCnt : List D → List D → Option D := fun xs ds => match ds with
  | [d] => if (okD (.tup xs) && okD d) = true then some (.int (xs.countP fun y => deq y d : Nat)) else none
  | _ => none
def dCount (i : Nat) (os : List Opd) : DE := fun env => match (env[i]? : Option (Option Ent)) with
  | some (some (Ent.mk Md.shr (.tup xs))) => (evOs os env).bind fun avs env1 => match getAVs env1 avs with
    | some ds => (match pCnt xs ds with
      | some d => .ok ⟨.shr, d⟩ env1
      | none => .bad)
    | none => .bad
  | _ => .bad
theorem countP_toPs (d : D) : ∀ xs : List D, (toPs xs).countP (fun z => PyData.eqv z (toP d)) = xs.countP fun y => deq y d
  | [] => rfl
  | x :: xs => by
    simp only [toPs, List.countP_cons, countP_toPs d xs, deq]
theorem e_count {k : Nat} (hr : GRoom k X.A) (i : Nat) {y : Str} {os : List Opd} {py apos cpos : Pos} (ha : DAs X W [e] os) (hv : allV os = true := by rfl)
    (hN : X.N[i]? = some y := by rfl) (hvis : Vis X.env.scope y := by first | exact Or.inl rfl | exact Or.inr (Or.inl rfl) | exact Or.inr (Or.inr rfl)) (hd : (y == ("__debug__" : Str)) = false := by decide) (hcd : (y == ("__classdict__" : Str)) = false := by decide)
    (hb : attributeBase (.Name y py) "count" X.env (eval (.Name y py) X.env) = eval (.Name y py) X.env := by rfl) (hf : Few X e cpos := by rfl) (hl : (apos.endLine == cpos.line) = true := by rfl)
    (he : starEach (e :: []) X.env = (false, eval e X.env) :: starEach [] X.env := by rfl) (hpl : (backTo cpos (starEach [] X.env)).any (·.1) = false := by rfl) : DEv X W (.Call (.Attribute (.Name y py) "count" apos) [e] [] cpos) (dCount i os) := by
  obtain ⟨t, h, s⟩ := ha
  have hu : X.A.units + 65 < cLine := by have := hr.room.un; omega
  refine ⟨_, pe_bmT (cpos := cpos) (apos := apos) PySem.F.plainAttrs_tuple PySem.F.slot_tuple_count PySem.F.type_tuple_count (mt_countT hu) (pe_var (pos := py) hN hvis hd hcd) h hb hf hl he hpl, fun O F σ H env Q st g => ?_⟩
  unfold dCount at g
  split at g
  · rename_i xs hi
    obtain ⟨v, hv1, a, vs, rfl, ht, rl⟩ := st.shr i _ hi
    refine ⟨_, hv1, ⟨a, vs, rfl, ht⟩, s O F σ H env _ st ?_⟩
    cases q : evOs os env with
    | bad => rw [q] at g; exact g.elim
    | err x e => rw [q] at g; exact g
    | ok avs env1 =>
      rw [q] at g
      simp only [R.bind] at g
      intro F1 H1 ws E1 s1 r1
      cases q2 : getAVs env1 avs with
      | none => rw [q2] at g; exact g.elim
      | some ds =>
        rw [q2] at g
        simp only [] at g
        have rd := AVs.vals hv q r1 q2
        cases q3 : pCnt xs ds with
        | none => rw [q3] at g; exact g.elim
        | some d =>
          rw [q3] at g
          unfold pCnt at q3
          split at q3
          · rename_i x
            split at q3
            · rename_i hok
              cases q3
              obtain ⟨⟨p1, sh1⟩, p2, sh2⟩ := okD_and hok
              obtain ⟨w, _, rfl, hw, rfl⟩ := rd
              have rt : Rep X.K F1 H1 (.tup xs) (.ref a) := Rep.ext E1 _ _ ⟨a, vs, rfl, ht, rl⟩
              have d1 := dp_of (.tup xs) (.ref a) p1 rt
              have d2 := dp_of x w p2 hw
              simp only [toP] at d1 sh1
              refine ⟨a, w, toP x, toPs xs, rfl, rfl, d1, d2, sh1, sh2, ?_⟩
              rw [countP_toPs]
              exact g F1 H1 _ E1 s1 rfl
            · cases q3
          · cases q3
  · exact g.elim
end
end DL
/-! DLY: x, y = a, b stored as a pair that is never made. -/
namespace DL
open PySem PySem.Spec PyProof.Rows L2
section
variable {X : Cx} {W : WX} {B : Bs}
def dPar (i j : Nat) (os : List Opd) : DS := fun env => (evOs os env).bind fun avs env1 => match avs with
  | [.d a, .d b] => .ok .nx ((env1.set i (some ⟨.shr, a⟩)).set j (some ⟨.shr, b⟩))
  | _ => .bad
theorem s_par (i j : Nat) {x y : Str} {a b : Expr} {os : List Opd} {px py pt : Pos} {kt k2 pt2} {pos : Pos} (hN : X.N.Nodup) (ha : DAs X W [a, b] os) (hc : X.calm = true := by rfl) (hi : X.N[i]? = some x := by rfl) (hj : X.N[j]? = some y := by rfl) (hij : i ≠ j := by decide)
    (hx : X.env.scope.names.lookup x = some .local := by rfl) (hy : X.env.scope.names.lookup y = some .local := by rfl) (hB : B i = false := by rfl) (hB2 : B j = false := by rfl)
    (hw : swappedStores [.Tuple [.Name x px, .Name y py] kt pt] (.Tuple [a, b] k2 pt2) X.env = pure (some [x, y]) := by rfl)
    (hs : swapsWithSole [.Tuple [.Name x px, .Name y py] kt pt] (.Tuple [a, b] k2 pt2) pos.line X.env = pure false := by rfl) :
    DSt X W B (.Assign [.Tuple [.Name x px, .Name y py] kt pt] (.Tuple [a, b] k2 pt2) pos) (dPar i j os) := by
  obtain ⟨t, h1, s1⟩ := ha
  refine ⟨_, ps_par hc hN hi hj hij hx hy h1 hw hs, fun O F σ H env Dn s g => s1 O F σ H env _ s ?_⟩
  unfold dPar at g
  cases q : evOs os env with
  | bad => rw [q] at g; exact g.elim
  | err x e => rw [q] at g; exact fun F' H' c d e' s' r => g F' H' σ c d e' s' Keeps.refl r
  | ok avs env1 =>
    rw [q] at g
    simp only [R.bind] at g
    intro F1 H1 vs E1 st1 r1
    match avs, g, r1 with
    | [.d a, .d b], g, r1 =>
      obtain ⟨v, r, rfl, hv, w, r', rfl, hw', rfl⟩ := r1
      exact ⟨v, w, rfl, g F1 H1 _ E1 ((st1.store (e := ⟨.shr, a⟩) hv).store (e := ⟨.shr, b⟩) hw') ((keeps_set hB).trans (keeps_set hB2))⟩
    | [], g, _ => exact g.elim
    | [.d _], g, _ => exact g.elim
    | [.s _], g, _ => exact g.elim
    | .s _ :: _ :: _, g, _ => exact g.elim
    | .d _ :: .s _ :: _, g, _ => exact g.elim
    | .d _ :: .d _ :: _ :: _, g, _ => exact g.elim
end
end DL
/-! DLZ5: sorted(x) of a list of ints. -/
namespace DL
open PySem PySem.Spec PyProof.Rows L2
section
variable {X : Cx} {W : WX}
theorem srt_eq : ∀ a b : List Int, a.Perm b → a.Pairwise (· ≤ ·) → b.Pairwise (· ≤ ·) → a = b
  | [], b, h, _, _ => h.nil_eq
  | x :: a, [], h, _, _ => h.symm.nil_eq.symm
  | x :: a, y :: b, h, ha, hb => by
    have h1 : x ∈ y :: b := h.mem_iff.mp (List.mem_cons_self ..)
    have h2 : y ∈ x :: a := h.mem_iff.mpr (List.mem_cons_self ..)
    rw [List.pairwise_cons] at ha hb
    have e : x = y := by
      rcases List.mem_cons.mp h1 with h1 | h1
      · exact h1
      · rcases List.mem_cons.mp h2 with h2 | h2
        · exact h2.symm
        · have := ha.1 y h2
          have := hb.1 x h1
          omega
    subst e
    rw [srt_eq a b h.cons_inv ha.2 hb.2]
def isrt (ns : List Int) : List Int := ns.mergeSort fun a b => decide (a ≤ b)
theorem isrt_perm (ns : List Int) : (isrt ns).Perm ns := List.mergeSort_perm ns _
theorem isrt_pair (ns : List Int) : (isrt ns).Pairwise (· ≤ ·) := by
  have h := List.pairwise_mergeSort (le := fun a b : Int => decide (a ≤ b)) (fun a b c h1 h2 => decide_eq_true (by have := of_decide_eq_true h1; have := of_decide_eq_true h2; omega)) (fun a b => by
    by_cases hab : a ≤ b
    · simp [hab]
    · simp [show b ≤ a by omega]) ns
  exact h.imp fun h => of_decide_eq_true h
theorem repL_intsS {K : PySem.W.Frag} {F : Fz} {H : Hp} : ∀ ns : List Int, RepL K F H (ns.map D.int) (ns.map V.int)
  | [] => rfl
  | n :: ns => ⟨V.int n, ns.map V.int, rfl, rfl, repL_intsS ns⟩
def pSorted : Pr := fun ds => match ds with
  | [.lst xs] => (intsOf xs).bind fun bs => if bs.length < 64 then some (.nl ((isrt bs).map D.int)) else none
  | _ => none
theorem pr_sorted {K : PySem.W.Frag} : PrimR K pSorted (rSorted K) := fun F H ds vs Q pr fd rt e q => by
  unfold pSorted at e
  split at e
  · rename_i xs
    obtain ⟨v, _, rfl, ⟨p, us, rfl, hp, r1⟩, rfl⟩ := rt
    cases hb : intsOf xs with
    | none => rw [hb] at e; cases e
    | some bs =>
      rw [hb, Option.bind_some] at e
      split at e
      · rename_i hl
        cases e
        have := intsOf_v r1 hb
        subst this
        refine ⟨p, bs, rfl, SqL.of hp, hl, fun ns' c h1 h2 hc => ?_⟩
        rw [srt_eq ns' (isrt bs) (h1.trans (isrt_perm bs).symm) h2 (isrt_pair bs)]
        exact q _ _ (same_new hc) ⟨c, _, rfl, hc, upd_same, repL_intsS _⟩
      · cases e
  · cases e
theorem x_sorted (hm : X.mg "sorted" = none) (ha : DOp X W e o) (hg : Gl X "sorted" := by rfl) (hs : S1 X e := by rfl) (hpl : (backTo pos (starEach [] X.env)).any (·.1) = false := by rfl) : DEv X W (.Call (.Name "sorted" p) [e] [] pos) (dPrim pSorted [o]) := e_callB cr_sorted pr_sorted hg hm (by decide +kernel) (a1 ha hs) (he := hs) (hpl := hpl)
end
end DL
/-! DLZ7: l.index(x), l a name of a list; min, max of a list of ints. -/
namespace DL
open PySem PySem.Spec PyProof.Rows L2
section
variable {X : Cx} {W : WX}
def fstIx (x : D) : List D → Option Nat
  | [] => none
  | y :: ys => if deq y x = true then some 0 else (fstIx x ys).map (· + 1)
theorem fstIx_spec (x : D) : ∀ (xs : List D) (j : Nat), fstIx x xs = some j → ∃ z, (toPs xs)[j]? = some z ∧ PyData.eqv z (toP x) = true ∧ ∀ (m : Nat) (z' : PyData), m < j → (toPs xs)[m]? = some z' → PyData.eqv z' (toP x) = false
  | [], j, h => by cases h
  | y :: ys, j, h => by
    rw [fstIx] at h
    by_cases hy : deq y x = true
    · rw [if_pos hy] at h
      cases h
      exact ⟨toP y, by simp only [toPs]; rfl, hy, fun m z' hm => absurd hm (Nat.not_lt_zero m)⟩
    · rw [if_neg hy] at h
      cases hf : fstIx x ys with
      | none => rw [hf] at h; cases h
      | some i =>
        rw [hf] at h
        cases h
        obtain ⟨z, h1, h2, h3⟩ := fstIx_spec x ys i hf
        refine ⟨z, by simp only [toPs]; exact h1, h2, fun m z' hm hz => ?_⟩
        simp only [toPs] at hz
        cases m with
        | zero =>
          cases hz
          cases hd : PyData.eqv (toP y) (toP x) with
          | false => rfl
          | true => exact absurd hd hy
        | succ m => exact h3 m z' (Nat.lt_of_succ_lt_succ hm) hz
def pIdx : List D → List D → Option D := fun xs ds => match ds with
  | [d] => if (okD (.lst xs) && okD d) = true then (fstIx d xs).map fun j => .int (j : Nat) else none
  | _ => none
def dIndex (i : Nat) (os : List Opd) : DE := fun env => match (env[i]? : Option (Option Ent)) with
  | some (some (Ent.mk _ (.lst _))) => (evOs os env).bind fun avs env1 => match (env1[i]? : Option (Option Ent)), getAVs env1 avs with
    | some (some (Ent.mk _ (.lst xs))), some ds => (match pIdx xs ds with
      | some d => .ok ⟨.shr, d⟩ env1
      | none => .bad)
    | _, _ => .bad
  | _ => .bad
theorem e_index {k : Nat} (hr : GRoom k X.A) (i : Nat) {y : Str} {os : List Opd} {py apos cpos : Pos} (ha : DAs X W [e] os) (hv : allV os = true := by rfl)
    (hN : X.N[i]? = some y := by rfl) (hvis : Vis X.env.scope y := by first | exact Or.inl rfl | exact Or.inr (Or.inl rfl) | exact Or.inr (Or.inr rfl)) (hd : (y == ("__debug__" : Str)) = false := by decide) (hcd : (y == ("__classdict__" : Str)) = false := by decide)
    (hb : attributeBase (.Name y py) "index" X.env (eval (.Name y py) X.env) = eval (.Name y py) X.env := by rfl) (hf : Few X e cpos := by rfl) (hl : (apos.endLine == cpos.line) = true := by rfl)
    (he : starEach (e :: []) X.env = (false, eval e X.env) :: starEach [] X.env := by rfl) (hpl : (backTo cpos (starEach [] X.env)).any (·.1) = false := by rfl) : DEv X W (.Call (.Attribute (.Name y py) "index" apos) [e] [] cpos) (dIndex i os) := by
  obtain ⟨t, h, s⟩ := ha
  have hu : X.A.units + 65 < cLine := by have := hr.room.un; omega
  refine ⟨_, pe_bm (cpos := cpos) (apos := apos) PySem.F.plainAttrs_list PySem.F.slot_list_index PySem.F.type_list_index (mt_indexD hu) (pe_var (pos := py) hN hvis hd hcd) h hb hf hl he hpl, fun O F σ H env Q st g => ?_⟩
  unfold dIndex at g
  split at g
  · rename_i m0 xs0 hi
    obtain ⟨v, hv1, hrt⟩ := st.top hi
    obtain ⟨a, vs, rfl, ht, rl⟩ := hrt
    refine ⟨_, hv1, .inl ⟨rfl, vs, SqL.of ht⟩, s O F σ H env _ st ?_⟩
    cases q : evOs os env with
    | bad => rw [q] at g; exact g.elim
    | err x e => rw [q] at g; exact g
    | ok avs env1 =>
      rw [q] at g
      simp only [R.bind] at g
      intro F1 H1 ws E1 s1 r1
      split at g
      · rename_i m1 xs ds hi1 q2
        have rd := AVs.vals hv q r1 q2
        obtain ⟨v1, hv2, hrt1⟩ := s1.top hi1
        rw [hv1] at hv2
        cases hv2
        cases q3 : pIdx xs ds with
        | none => rw [q3] at g; exact g.elim
        | some d =>
          rw [q3] at g
          unfold pIdx at q3
          split at q3
          · rename_i x
            split at q3
            · rename_i hok
              cases q4 : fstIx x xs with
              | none => rw [q4] at q3; cases q3
              | some j =>
                rw [q4] at q3
                cases q3
                obtain ⟨⟨p1, sh1⟩, p2, sh2⟩ := okD_and hok
                obtain ⟨w, _, rfl, hw, rfl⟩ := rd
                have d1 := dp_top p1 hrt1
                have d2 := dp_of x w p2 hw
                simp only [toP] at d1 sh1
                obtain ⟨z, z1, z2, z3⟩ := fstIx_spec x xs j q4
                exact ⟨a, w, toP x, toPs xs, j, z, rfl, rfl, d1, d2, sh1, sh2, z1, z2, z3, g F1 H1 _ E1 s1 rfl⟩
            · cases q3
          · cases q3
      · exact g.elim
  · exact g.elim
/-! ### min, max of a list -/
theorem isrt_mem {n : Int} {ns : List Int} : n ∈ isrt ns ↔ n ∈ ns := (isrt_perm ns).mem_iff
def pMinL : Pr := fun ds => match ds with
  | [.lst xs] => (intsOf xs).bind fun bs => match isrt bs with
    | [] => none
    | b :: _ => some (.d (.int b))
  | _ => none
theorem pr_minL {K : PySem.W.Frag} : PrimR K pMinL (rMin K) := fun F H ds vs Q pr fd rt e q => by
  unfold pMinL at e
  split at e
  · rename_i xs
    obtain ⟨v, _, rfl, ⟨p, us, rfl, hp, r1⟩, rfl⟩ := rt
    cases hb : intsOf xs with
    | none => rw [hb] at e; cases e
    | some bs =>
      rw [hb, Option.bind_some] at e
      have := intsOf_v r1 hb
      subst this
      cases hs : isrt bs with
      | nil => rw [hs] at e; cases e
      | cons b t =>
        rw [hs] at e
        cases e
        have hbm : b ∈ bs := isrt_mem.mp (by rw [hs]; exact List.mem_cons_self ..)
        refine ⟨p, bs, rfl, SqL.of hp, List.length_pos_of_mem hbm, fun m hm hall => ?_⟩
        have hpair := isrt_pair bs
        rw [hs, List.pairwise_cons] at hpair
        have h1 : m ≤ b := hall b hbm
        have h2 : b ≤ m := by
          rcases List.mem_cons.mp (hs ▸ isrt_mem.mpr hm : m ∈ b :: t) with e | e
          · omega
          · exact hpair.1 m e
        have e : m = b := by omega
        subst e
        exact q H _ (Same.refl _) rfl
  · cases e
theorem x_minL (hc : X.calm = true) (hm : X.mg "min" = none) (ha : DOp X W e o) (hg : Gl X "min" := by rfl) (hs : S1 X e := by rfl) (hpl : (backTo pos (starEach [] X.env)).any (·.1) = false := by rfl) : DEv X W (.Call (.Name "min" p) [e] [] pos) (dPrim pMinL [o]) := e_callB (cr_min hc) pr_minL hg hm (by decide +kernel) (a1 ha hs) (he := hs) (hpl := hpl)
end
end DL
/-! DLZA: the signs of a text, one by one; str(int | None). -/
namespace DL
open PySem PySem.Spec PyProof.Rows L2
section
variable {X : Cx} {W : WX} {pos p : Pos} {e : Expr} {o : Opd}
def signsD (z : Str) : List D := z.cps.toList.map fun c => D.str ⟨#[c]⟩
def iStrD (m : DE) : DI := fun env => (m env).bind fun r env1 => match r.d with
  | .str z => .ok (signsD z) env1
  | _ => .bad
theorem walks_str {K : PySem.W.Frag} {O F : Fz} {H : Hp} {z : Str} : Walks K O F H (Its z) (signsD z) := fun F' H' E od i => by
  have e : (signsD z)[i]? = (z.cps[i]?).map fun c => D.str ⟨#[c]⟩ := by
    rw [signsD, List.getElem?_map, Array.getElem?_toList]
  refine ⟨fun d hx => ?_, fun hx => ?_⟩
  · rw [e] at hx
    cases hc : z.cps[i]? with
    | none => rw [hc] at hx; cases hx
    | some c =>
      rw [hc] at hx
      cases hx
      refine ⟨(Array.getElem?_eq_some_iff.mp hc).1, fun x H'' y => ?_⟩
      obtain ⟨e1, c2, h2, e3⟩ := y
      rw [hc] at h2
      cases h2
      subst e1
      exact ⟨Same.refl _, e3⟩
  · rw [e] at hx
    cases hc : z.cps[i]? with
    | none => exact Array.getElem?_eq_none_iff.mp hc
    | some c => rw [hc] at hx; cases hx
theorem it_str {tg e : Expr} {m : DE} (h : DEv X W e m) : DIt X W tg e (iStrD m) := by
  obtain ⟨t, p, s⟩ := h
  refine ⟨_, pi_str p, fun O F σ H env R' st g => ?_⟩
  refine s O F σ H env _ st ?_
  unfold iStrD at g
  cases q : m env with
  | bad => rw [q] at g; exact g.elim
  | err x e => rw [q] at g; exact g
  | ok r env1 =>
    rw [q] at g
    simp only [R.bind] at g
    intro F1 H1 v E1 s1 r1
    obtain ⟨F2, E2, s2, r2⟩ := freeze s1 r1
    obtain ⟨md, d⟩ := r
    cases d with
    | str z =>
      have hv : v = V.str z := r2
      subst hv
      exact ⟨z, rfl, g F2 H1 _ (E1.trans E2) s2 walks_str⟩
    | _ => exact g.elim
def pStrOf : Pr := fun ds => match ds with
  | [.int i] => if i.natAbs.log2 < 1920 then some (.d (.str (toString i))) else none
  | [.non] => some (.d (.str "None"))
  | _ => none
def rStr1 : Rl := fun xs H Q => (∃ i, xs = [.int i] ∧ i.natAbs.log2 < 1920 ∧ Q (.str (toString i)) H) ∨ (xs = [.non] ∧ Q (.str "None") H)
theorem call_str1 : CallR X (.type "str") rStr1 := by
  intro pins s σ H xs us Q I r h
  rcases h with ⟨i, rfl, hz, q⟩ | ⟨rfl, q⟩
  · obtain ⟨u, rfl, t, rfl⟩ := vals1 r
    exact PySem.P.str_of_int hz ⟨.str _, H, I.tok _, ⟨_, rfl⟩, q⟩
  · obtain ⟨u, rfl, r1⟩ := vals1 r
    cases r1
    exact PySem.P.str_of_none ⟨.str _, H, I.tok _, ⟨_, rfl⟩, q⟩
theorem pr_strOf {K : PySem.W.Frag} : PrimR K pStrOf rStr1 := fun F H ds vs Q pr fd rt e q => by
  unfold pStrOf at e
  split at e
  · rename_i i
    obtain ⟨v, _, rfl, h1, rfl⟩ := rt
    cases h1
    split at e
    · rename_i hl
      cases e
      exact .inl ⟨i, rfl, hl, q _ _ (Same.refl _) rfl⟩
    · cases e
  · obtain ⟨v, _, rfl, h1, rfl⟩ := rt
    cases h1
    cases e
    exact .inr ⟨rfl, q _ _ (Same.refl _) rfl⟩
  · cases e
theorem x_str (hm : X.mg "str" = none) (ha : DOp X W e o) (hg : Gl X "str" := by rfl) (hs : S1 X e := by rfl) (hpl : (backTo pos (starEach [] X.env)).any (·.1) = false := by rfl) : DEv X W (.Call (.Name "str" p) [e] [] pos) (dPrim pStrOf [o]) := e_callTy call_str1 pr_strOf hg hm (by decide +kernel) (a1 ha hs) (he := hs) (hpl := hpl)
end
end DL
/-! DLT0: an error that is caught and kept: it becomes a thing that stands. -/
namespace DL
open PySem PySem.Spec PyProof.Rows L2

/-- an error object that is kept -/
abbrev excO (oe : Obj) : HO := .frz oe (.ext fun _ => True)
theorem adopt {X : Cx} {pins : List (Addr × Obj)} {σ : List (Option V)} {H : Hp} {s : Shared} {a : Addr} {oe : Obj} (I : L2.Inv X ((a, oe) :: pins) σ H s) (n0 : X.s_0.heap.get? a = none) (np : ∀ p ∈ X.pn ++ pins, p.1 ≠ a) : L2.Inv X pins σ (upd H a (excO oe)) s := by
  obtain ⟨g1, g2, g3, g4, g5⟩ := I.pin (a, oe) (List.mem_append.mpr (.inr List.mem_cons_self))
  simp only [] at g1 g2 g3 g4 g5
  have ne : ∀ {b : Addr} {u : HO}, H b = some u → b ≠ a := fun h z => by subst z; rw [g2] at h; cases h
  refine ⟨I.ok, I.os, I.bare, ?_, I.loc, I.cell, ?_, ?_, ?_, ?_, I.len⟩
  · refine ⟨I.base.keep, I.base.slot, fun b o h1 h2 h3 => ?_, I.base.there, fun b xs h => ?_, fun b o u h => ?_, fun b ps h => ?_⟩
    · rw [upd_ne (fun z => by subst z; rw [n0] at h1; cases h1)]; exact I.base.free b o h1 h2 h3
    · have := I.base.tups b xs h
      rw [upd_ne (ne this)]; exact this
    · have := I.base.frzs b o u h
      rw [upd_ne (ne this)]; exact this
    · obtain ⟨more, this⟩ := I.base.tbls b ps h
      exact ⟨more, by rw [upd_ne (ne this)]; exact this⟩
  · rw [upd_ne (Ne.symm g3)]; exact I.free
  · intro x c hc
    rw [upd_ne (fun z => ?_)]
    · exact I.freeC x c hc
    · subst z
      obtain ⟨v, o, h1, h2⟩ := I.cell x c hc
      rw [g1] at h1
      cases h1
      exact g5 _ h2
  · intro p hp
    obtain ⟨k1, k2, k3⟩ := I.pin p (by
      rcases List.mem_append.mp hp with h | h
      · exact List.mem_append.mpr (.inl h)
      · exact List.mem_append.mpr (.inr (List.mem_cons_of_mem _ h)))
    exact ⟨k1, by rw [upd_ne (np p hp)]; exact k2, k3⟩
  · intro b o hb
    by_cases e : b = a
    · subst e
      rw [upd_same] at hb
      cases hb
      simp only [ObjOk]
      exact ⟨g1, trivial, ⟨oe, g1⟩, fun _ _ _ _ => trivial⟩
    · rw [upd_ne e] at hb
      exact (I.hok b o hb).stay (fun _ _ _ h => h) (fun c hc => by rw [upd_ne (ne hc)]; exact hc) (fun c xs hc => by rw [upd_ne (ne hc)]; exact hc)

def wKeep (K : PySem.W.Frag) (c : Value) (i : Nat) (ts : Addr → Value → Option Addr → TS) (D : Ends) : WX := fun cls d σ H => PySem.W.exmOne K cls c = some true ∧ ∀ a oe, H a = none → Zc cls d oe → (∃ vs, oe.data = .fields vs) →
  ts a cls d { nx := fun σ' H' => D.nx (List.set σ' i none) (upd H' a (excO oe)), rt := fun v H' => D.rt v (upd H' a (excO oe)), bk := fun σ' H' => D.bk (List.set σ' i none) (upd H' a (excO oe)), ct := fun σ' H' => D.ct (List.set σ' i none) (upd H' a (excO oe)) } (List.set σ i (some (V.ref a))) H

theorem ps_try_keep {X : Cx} {x n : Str} {c : Value} {i : Nat} {body suite : List Stmt} {b₀ : Stmt} {np pos pos' : Pos} {tb : WX → TS} {ts : Addr → Value → Option Addr → TS} (hs : X.stack = X.env :: X.outer) (hf : X.env.frame = some X.env.locals) (hex : X.ex = []) (hN : X.N.Nodup) (hi : X.N[i]? = some n) (hln : X.env.kindOf n = some .local) (hc : Names X x c)
    (hb : ∀ (W : WX) (pn : List (Addr × Obj)) (xe : Value → Shared → Prop), L2.Takes (X.tr pn xe) W → PassesOwn (model X.prog X.w) X.A X.env xe → PSs (X.tr pn xe) body (tb W))
    (hsu : ∀ (a : Addr) (oe : Obj) (cls : Value) (d : Option Addr) (pn : List (Addr × Obj)), Zc cls d oe → (∃ vs, oe.data = Data.fields vs) → PSs (X.suite a ((a, oe) :: pn)) (b₀ :: suite) (ts a cls d)) :
    PS X (.Try body [.ExceptHandler (some (.Name x np)) (some n) (b₀ :: suite) pos'] [] [] pos) (fun D σ H => tb (wKeep X.K c i ts D) D σ H) := by
  refine ⟨fun pins s σ H D I h => ?_⟩
  have ok := I.ok
  have hfr : X.A.frames = some (X.env :: X.outer) := by rw [ok.frames, hs]
  have hloc : L2.Loc X.env.scope n := Or.inl hln
  let xe : Value → Shared → Prop := fun e s₁ => wpAny (model X.prog X.w) X.A (noteFrame e X.env) (fun _ s₂ => wpAny (model X.prog X.w) X.A (setFlight e none) (fun _ s₃ => wpAny (model X.prog X.w) X.A (handleBy e X.env [.ExceptHandler (some (.Name x np)) (some n) (b₀ :: suite) pos']) (SP X pins D) X.xe s₃) X.xe s₂) X.xe s₁
  refine wpAny_Try_except (wpAny_mono ((hb (wKeep X.K c i ts D) (X.pn ++ pins) xe (fun u s' xx => ?_) PassesOwn.looking).run [] s σ H D (I.toTry xe) h) (fun f s1 hsp => ?_) fun e s1 he => he)
  · obtain ⟨a, B, sI, pins', σ', H', cls, d, rfl, J', nb, up, sky, na, os, ag, hb1, hyes⟩ := xx
    have J := Inv.ofTry J' ok
    have sky' : Sky B (X.env :: X.outer) a (Zc cls d) X.env.locals s'.heap := by rw [← hs]; exact sky
    refine sky'.land Zc.steady hfr hf fun h3 fl3 up3 => ?_
    have J3 : L2.Inv X pins σ' H' { heap := h3, gens := s'.gens, drawn := s'.drawn, toks := s'.toks, os := s'.os } := Inv.landed J nb fl3.1 (up.trans up3) os ag
    obtain ⟨oe3, vs3, he3, hz3, hd3⟩ := fl3.there
    have nfr : a ∉ frs (X.env :: X.outer) := fun hm => by
      obtain ⟨_, o', e', hnf⟩ := Heap.FunFrames.mem fl3.2.2.1 hm
      rw [he3] at e'
      cases e'
      exact hnf vs3 hd3
    have nL : a ≠ X.env.locals := fun z => nfr (List.mem_filterMap.mpr ⟨X.env, List.mem_cons_self, by rw [hf, z]⟩)
    have nF : a ∉ X.fs := fun hm => by
      obtain ⟨e, he, q⟩ := List.mem_filterMap.mp hm
      exact nfr (List.mem_filterMap.mpr ⟨e, List.mem_cons_of_mem _ he, q⟩)
    have S3 := Inv.suite J3 he3 hd3 na nL nF
    have newB : B.get? a = none := fl3.2.1
    have newI : sI.heap.get? a = none := by
      cases q : sI.heap.get? a with
      | none => rfl
      | some o =>
        have := nb a o q (by show a ∉ frs X.stack; rw [hs]; exact nfr)
        rw [newB] at this; cases this
    have new0 : X.s_0.heap.get? a = none := by
      cases q : X.s_0.heap.get? a with
      | none => rfl
      | some o =>
        obtain ⟨o', h⟩ := J.base.there a o q (by rw [hex]; simp)
        rw [newI] at h; cases h
    have npp : ∀ p ∈ X.pn ++ pins, p.1 ≠ a := fun p hp z => by
      have := (J.pin p hp).1
      rw [z, newI] at this; cases this
    have LT : PySem.W.Looks (model X.prog X.w) h3 (typeOf (.ref a)) cls := fun A Q E s k q => wpAny_typeOf_ref (k a oe3 he3) (by rw [hz3.1]; exact q)
    have LM := PySem.W.exm_one (Inv.kIn J3) LT hb1
    refine wpAny_handleBy_cons (codeAny_handlers_test ?_) (fun q => by cases q)
    have test : ∀ {Q : Value → Shared → Prop} {E : Value → Shared → Prop}, Q c { heap := h3, gens := s'.gens, drawn := s'.drawn, toks := s'.toks, os := s'.os } → wpAny (model X.prog X.w) (X.A.mark (some (.ref a))) (eval (.Name x np) X.env) Q E { heap := h3, gens := s'.gens, drawn := s'.drawn, toks := s'.toks, os := s'.os } := fun q => by
      obtain ⟨hg, hdbg, hm | ⟨hm, hv, hnn⟩⟩ := hc
      · exact ld_glob S3 hg hm q hdbg
      · exact ld_blt S3 hg hm hv q hnn hdbg
    refine test (PySem.W.Looks.here LM ?_)
    simp only [if_true]
    refine codeAny_handlers_suite_as (PySem.HandSPX.lands_againZ fl3 fun h4 fl4 up4 => ?_)
    have J4 : L2.Inv X pins σ' H' { heap := h4, gens := s'.gens, drawn := s'.drawn, toks := s'.toks, os := s'.os } := Inv.landed J nb fl4.1 ((up.trans up3).trans up4) os ag
    obtain ⟨oe4, vs4, he4, hz4, hd4⟩ := fl4.there
    have S4 := Inv.suite J4 he4 hd4 na nL nF
    refine store_ok (X := X.suite a ((a, oe4) :: (X.pn ++ pins))) S4 hN hi hloc (show L2.RelV (V.ref a) (Value.ref a) from rfl) (fun s5 S5 => ?_) (Or.inr hln)
    refine wpAny_mono ((hsu a oe4 cls d (X.pn ++ pins) hz4 ⟨vs4, hd4⟩).run [] s5 (List.set σ' i (some (.ref a))) H' _ S5 (hyes a oe4 na hz4 ⟨vs4, hd4⟩)) (fun f s6 hsp => ?_) (fun _ _ z => z.elim)
    have end_ : ∀ {σ6 : L2.St} {H6 : Hp} {Q : Unit → Shared → Prop}, L2.Inv (X.suite a ((a, oe4) :: (X.pn ++ pins))) [] σ6 H6 s6 → (∀ s7, L2.Inv X pins (List.set σ6 i none) (upd H6 a (excO oe4)) s7 → Q () s7) →
        wpAny (model X.prog X.w) X.A (do bindName X.env n .none; unbindBehindTheSuite X.env n pos') Q X.xe s6 := fun S6 hq => by
      have U := Inv.unsuite S6 ok
      have U2 : L2.Inv X ((a, oe4) :: pins) _ _ s6 := { U with pin := fun p hp => S6.pin p (List.mem_append.mpr (.inl (by
        rcases List.mem_append.mp hp with h | h
        · exact List.mem_cons_of_mem _ (List.mem_append.mpr (.inl h))
        · rcases List.mem_cons.mp h with h | h
          · rw [h]; exact List.mem_cons_self
          · exact List.mem_cons_of_mem _ (List.mem_append.mpr (.inr h))))) }
      exact gone_ok U2 hN hi hln fun s7 J7 => hq s7 (adopt J7 new0 npp)
    match f, hsp with
    | .next, ⟨σ6, H6, S6, q6⟩ => exact end_ S6 fun s7 J7 => ⟨_, _, J7, q6⟩
    | .brk, ⟨σ6, H6, S6, q6⟩ => exact end_ S6 fun s7 J7 => ⟨_, _, J7, q6⟩
    | .cont, ⟨σ6, H6, S6, q6⟩ => exact end_ S6 fun s7 J7 => ⟨_, _, J7, q6⟩
    | .ret u, ⟨v6, σ6, H6, S6, r6, q6⟩ => exact end_ S6 fun s7 J7 => ⟨v6, _, _, J7, r6, q6⟩
  · match f, hsp with
    | .next, ⟨σ', H', J', q⟩ => exact wpAny_execs_nil ⟨σ', H', Inv.ofTry J' ok, q⟩
    | .brk, ⟨σ', H', J', q⟩ => exact ⟨σ', H', Inv.ofTry J' ok, q⟩
    | .cont, ⟨σ', H', J', q⟩ => exact ⟨σ', H', Inv.ofTry J' ok, q⟩
    | .ret u, ⟨v, σ', H', J', r, q⟩ => exact ⟨v, σ', H', Inv.ofTry J' ok, r, q⟩

section
open PySem.W PySem.Calls
variable {prog : Program} {w : World} {A : Around} {E : Value → Shared → Prop} {s : Shared} {K : Frag} {x D : Addr} {ox : Obj} {od : Option Obj}
theorem findObj_dataD {C : Addr} {name : Str} {a g : Value} (hc : (clsIn K C).isSome = true) (ha : findIn K (.ref C) name = some (some a)) (hg : specialIn K a "__get__" = some (some g)) (ht : takesIn K a = some true) : findObj K C od name = some (.bind g a) := by
  obtain ⟨cd, hc⟩ := Option.isSome_iff_exists.mp hc
  unfold findObj
  rw [hc, Option.bind_some, ha, Option.bind_some]
  simp [hg, ht]
theorem kin_classD {Q : Option Value → Shared → Prop} (hga : findIn K (.ref D) "__getattribute__" = some (some (.builtin "BaseException.__getattribute__"))) (hgt : findIn K (.ref D) "__getattr__" = some none) (hsub : subIn K (.ref D) (.type "BaseException") = some true)
    (hdct : hasDictIn K D = true) (ha : findIn K (.ref D) "__class__" = some (some (.builtin "object.__class__")))
    (hn : specialIn K (.builtin "object.__class__") "__get__" = some (some (.builtin "getset_descriptor.__get__"))) (htk : takesIn K (.builtin "object.__class__") = some true) (hm : mroIn K D (.type "object") = some true)
    (X : K.In s.heap) (I : InstAt s.heap x ox D od) (h : Q (some (.ref D)) { s with toks := s.toks + 1 }) : wpAny (model prog w) A (getAttr? (.ref x) "__class__") Q E s := by
  have hf : findObj K D od "__class__" = some (.bind (.builtin "getset_descriptor.__get__") (.builtin "object.__class__")) := findObj_dataD (by obtain ⟨cd, hc, _⟩ := any_some hdct; rw [hc]; rfl) ha hn htk
  obtain ⟨hp, g, d, t, os⟩ := s
  have L0 := I.type (M := model prog w)
  have L1 := looks_findIn (M := model prog w) X hga
  have L2 := looks_findIn (M := model prog w) X hgt
  have L3 := looks_find (M := model prog w) X I hf
  have sub : Looks (model prog w) hp (isInstance (.ref x) (.type "BaseException")) true := L0.andThen (looks_subIn X hsub)
  have hx0 : (false && onTheHeap (Value.builtin "BaseException.__getattribute__")) = false := rfl
  have hx2 : (Value.builtin "BaseException.__getattribute__" == Value.builtin "object.__getattribute__") = false := by decide +kernel
  have hx1 : (onTheHeap (Value.ref D) && Value.builtin "BaseException.__getattribute__" == Value.builtin "object.__getattribute__") = false := by rw [hx2]; rfl
  unfold getAttr? getAttrBy? getAttrBy
  refine wpAny_bind (wpAny_mkText (wpAny_bind (wpAny_attempt (wpAny_holding (wpAny_bind (L0.at (wpAny_bind (L1.at ?_))))))))
  show wpAny _ _ (if (onTheHeap (Value.ref D) && Value.builtin "BaseException.__getattribute__" == Value.builtin "object.__getattribute__") = true then _ else _) _ _ _
  rw [hx1, if_neg Bool.false_ne_true]
  unfold getAttrByItsOwn hookBefore
  refine wpAny_bind ?_
  rw [if_pos (show onTheHeap (Value.ref D) = true from rfl)]
  refine L2.at ?_
  refine wpAny_bind (wpAny_attempt (wpAny_holding ?_))
  unfold callGetattribute
  rw [hx0, if_neg Bool.false_ne_true]
  unfold boundAndCalled
  rw [PySem.F.excAttr_ValueError.ga.bind (.ref x)]
  refine wpAny_bind (wpAny_pure ?_)
  show wpAny _ _ (call (.builtin "BaseException.__getattribute__") [.ref x, .str "__class__" t]) _ _ _
  refine wpAny_call (codeAny_call_builtin PySem.F.excAttr_ValueError.ga.plain PySem.F.entry_bexc_ga ?_)
  refine @check_slot (model prog w) _ _ ⟨hp, g, d, t + 1, os⟩ "BaseException.__getattribute__" "BaseException" "__getattribute__" (.ref x) [.str "__class__" t] [] _ (by decide +kernel) (by decide +kernel) sub (PySem.F.args_bexc_ga (.ref x) (.str "__class__" t)) ?_
  unfold Builtin.«object.__getattribute__»
  refine wpAny_bind (wpAny_of_eq (a := ((Value.ref x : Value), [Value.str "__class__" t])) (by first | rfl | (simp only [slotArgs]; rfl)) ?_)
  refine wpAny_bind (wpAny_pure (wpAny_bind (L0.at (wpAny_bind (L3.at ?_)))))
  show wpAny _ _ (holding [Value.builtin "object.__class__"] (call (.builtin "getset_descriptor.__get__") [.builtin "object.__class__", .ref x, .ref D]) >>= ret) _ _ _
  refine wpAny_bind (wpAny_holding (wpAny_call (class_get (s := ⟨hp, g, d, t + 1, os⟩) (ox := ox) (od := od) X I hm ?_)))
  refine wpAny_pure ?_
  show wpAny _ _ (handedOut (.ref D)) _ _ _
  rw [handedOut_of (v := .ref D) rfl]
  first
    | exact wpAny_pure (wpAny_pure h)
    | exact wpAny_pure h
    | exact wpAny_pure (wpAny_bind (wpAny_pure (wpAny_pure h)))
theorem kitx_excD (hga : findIn K (.ref D) "__getattribute__" = some (some (.builtin "BaseException.__getattribute__"))) (hgt : findIn K (.ref D) "__getattr__" = some none) (hsub : subIn K (.ref D) (.type "BaseException") = some true) (hdct : hasDictIn K D = true) (ha : findIn K (.ref D) "__class__" = some (some (.builtin "object.__class__")))
    (hn : specialIn K (.builtin "object.__class__") "__get__" = some (some (.builtin "getset_descriptor.__get__"))) (htk : takesIn K (.builtin "object.__class__") = some true) (hm : mroIn K D (.type "object") = some true) :
    KitX K (.ref x) (.ref D) (fun h => InstAt h x ox D od) where
  ty := fun _ _ _ I => I.type
  it := fun _ _ X _ => by
    obtain ⟨cdD, hcD, _⟩ := any_some hdct
    unfold clsIn at hcD
    split at hcD
    · rename_i c' d' cd' sl' ho
      intro A' Q' E' s' k q
      unfold isType loadHead
      exact wpAny_bind (wpAny_loadPart (k _ _ (X _ _ ho)) (wpAny_pure q))
    · cases hcD
  ne := fun h tp dd its n sl X htp => by
    obtain ⟨cdD, hcD, _⟩ := any_some hdct
    refine Bool.eq_false_iff.mpr fun q => ?_
    have e : D = tp := Value.ref.inj (beq_iff_eq.mp q)
    subst e
    unfold clsIn at hcD
    split at hcD
    · rename_i c' d' cd' sl' ho
      have z := (X _ _ ho).symm.trans htp
      cases z
    · cases hcD
  ca := fun X I k => kin_classD hga hgt hsub hdct ha hn htk hm X I k
end
/-- isinstance of an error that is kept -/
def rIsX (K : PySem.W.Frag) : List V → Hp → VK → Prop := fun xs H Q => ∃ (a D : Addr) (oe : Obj) (u : HO) (c : V) (cv : Value) (b : Bool), xs = [V.ref a, c] ∧ H a = some (.frz oe u) ∧ L2.ExcC K D ∧ (∃ d, Zc (.ref D) d oe ∧ DictAt H d) ∧ (∃ vs, oe.data = Data.fields vs) ∧ (∀ w : Value, RelV c w → w = cv) ∧ PySem.W.kitOne K (.ref D) cv = some b ∧ Q (.bl b) H
theorem call_isX {X : Cx} : CallR X (.builtin "isinstance") (rIsX X.K) := fun pins s σ H xs us Q I r h => by
  obtain ⟨a, D, oe, u, c, cv, b, rfl, ha, C, ⟨d, hz, hdt⟩, ⟨vs, hv⟩, hcv, hk, q⟩ := h
  cases r with
  | cons rx rr =>
  cases rr with
  | cons rt rr =>
  cases rr
  cases (show _ = Value.ref a from rx)
  have e := hcv _ rt
  subst e
  have hg := (I.hok a _ ha)
  simp only [ObjOk] at hg
  obtain ⟨oX, J⟩ : ∃ oX, PySem.W.InstAt s.heap a oe D oX := by
    obtain ⟨oc, od, oda, osl⟩ := oe
    obtain ⟨h1, h2⟩ := hz
    simp only [] at h1 h2 hv
    subst h1 h2 hv
    cases od with
    | none => exact ⟨none, hg.1, rfl, rfl, trivial⟩
    | some dx =>
      obtain ⟨od, u', hd⟩ := hdt dx rfl
      have hg2 := I.hok dx _ hd
      simp only [ObjOk] at hg2
      exact ⟨some od, hg.1, rfl, rfl, hg2.1⟩
  refine PySem.W.kia_one (kitx_excD (ox := oe) (od := oX) C.hg C.hk C.hs C.hd C.ha C.hn C.ht C.hm) (Inv.kIn I) J hk (fun z => by cases z) fun tk => ?_
  exact ⟨.bl b, H, I.kept (t' := tk) fun _ _ e => e, rfl, q⟩
end DL
/-! DLT1: try: .. except E as e: kept = e; isinstance of an error. -/
namespace DL
open PySem PySem.Spec PyProof.Rows L2

/-- a class of the program, by its name -/
structure XcT (K : PySem.W.Frag) (mg : Str → Option Value) (c : Str) where
  C : Addr
  n : PySem.W.nsIn K mainGlobals c = some (some (.ref C))
  g : mg c = some (.ref C)
/-- a class that is raised -/
structure XcR (K : PySem.W.Frag) (C : Addr) : Prop where
  q : PySem.W.excIn K C [.type "ValueError", .type "Exception", .type "BaseException", .type "object"] "ValueError.__new__" = true
  k : PySem.W.keepIn K (.ref C) = true
  r1 : PySem.W.subIn K (.ref C) (.type "BaseException") = some true
  r2 : PySem.W.typeIn K (.ref C) = some (.type "type")
theorem kit_own {K : PySem.W.Frag} {C Y : Addr} {b : Bool} (h2 : PySem.W.isClsIn K Y = true) (h3 : PySem.W.typeIn K (.ref Y) = some (.type "type")) (h0 : PySem.W.subIn K (.ref C) (.ref C) = some true) (h4 : PySem.W.subIn K (.ref C) (.ref Y) = some b) : PySem.W.kitOne K (.ref C) (.ref Y) = some b := by
  have e2 : ((PySem.W.clsIn K Y).isSome && PySem.W.typeIn K (.ref Y) == some (.type "type")) = true := by
    have h2' : (PySem.W.clsIn K Y).isSome = true := h2
    rw [h2', h3] <;> rfl
  show (if (Value.ref C == Value.ref Y) = true then some true else (if ((PySem.W.clsIn K Y).isSome && PySem.W.typeIn K (.ref Y) == some (.type "type")) = true then PySem.W.subIn K (.ref C) (.ref Y) else none)) = some b
  by_cases q : (Value.ref C == Value.ref Y) = true
  · rw [if_pos q]
    have e : Value.ref C = Value.ref Y := beq_iff_eq.mp q
    cases e
    rw [h0] at h4
    exact h4
  · rw [if_neg q, if_pos e2]
    exact h4
theorem kit_blt {K : PySem.W.Frag} {C : Addr} {T : String} {b : Bool} (hT : PySem.W.kitMeta T = true) (h4 : PySem.W.subIn K (.ref C) (.type T) = some b) : PySem.W.kitOne K (.ref C) (.type T) = some b := by
  have e : (Value.ref C == Value.type T) = false := by
    cases q : (Value.ref C == Value.type T) with
    | false => rfl
    | true =>
      have : Value.ref C = Value.type T := beq_iff_eq.mp q
      cases this
  show (if (Value.ref C == Value.type T) = true then some true else (if PySem.W.kitMeta T = true then PySem.W.subIn K (.ref C) (.type T) else none)) = some b
  rw [e, if_neg Bool.false_ne_true, if_pos hT]
  exact h4
theorem exm_own {K : PySem.W.Frag} {C Y : Addr} (h1 : PySem.W.subIn K (.ref Y) (.type "BaseException") = some true) (h2 : PySem.W.isClsIn K Y = true) (h3 : PySem.W.typeIn K (.ref Y) = some (.type "type")) (h4 : PySem.W.subIn K (.ref C) (.ref Y) = some true) : PySem.W.exmOne K (.ref C) (.ref Y) = some true := by
  have e1 : (PySem.W.subIn K (.ref Y) (.type "BaseException") == some true) = true := by rw [h1] <;> rfl
  have e2 : ((PySem.W.clsIn K Y).isSome && PySem.W.typeIn K (.ref Y) == some (.type "type")) = true := by
    have h2' : (PySem.W.clsIn K Y).isSome = true := h2
    rw [h2', h3] <;> rfl
  show (if (PySem.W.subIn K (.ref Y) (.type "BaseException") == some true) = true then (if ((PySem.W.clsIn K Y).isSome && PySem.W.typeIn K (.ref Y) == some (.type "type")) = true then PySem.W.subIn K (.ref C) (.ref Y) else none) else none) = some true
  rw [if_pos e1, if_pos e2]
  exact h4
section
variable {X : Cx} {W : WX} {B : Bs}
def tOfS (X : Cx) (W : WX) (B : Bs) (m : DS) : TS := fun D σ H => ∃ O F env, StOk X.K O F H σ env ∧ SGoal X W B O F σ H D (m env)
theorem DSs.ps {sts : List Stmt} {m : DS} (h : DSs X W B sts m) : PSs X sts (tOfS X W B m) := by
  obtain ⟨t, p, s⟩ := h
  exact ⟨fun pins s0 σ H D I ⟨O, F, env, st, g⟩ => p.run pins s0 σ H D I (s O F σ H env D st g)⟩
def dTry (ok : List Str) (i j : Nat) (body : DS) : DS := fun env => match body env with
  | .ok fl env1 => .ok fl env1
  | .err x env1 => if ok.contains x.c = true ∧ i < env1.length ∧ j < env1.length then .ok .nx ((env1.set i none).set j (some ⟨.shr, .exc x.c []⟩)) else .bad
  | .bad => .bad
theorem StOk.wild {K : PySem.W.Frag} {O F : Fz} {H : Hp} {σ : L2.St} {env : DEnv} (s : StOk K O F H σ env) {i : Nat} (o : Option V) (h : ∀ x, env[i]? ≠ some (some x)) : StOk K O F H (σ.set i o) env := by
  have g : ∀ {j : Nat} {x : Ent}, env[j]? = some (some x) → (σ.set i o)[j]? = σ[j]? := fun {j x} q => by
    rw [List.getElem?_set_ne (fun z => by subst z; exact h x q)]
  refine ⟨by rw [List.length_set]; exact s.len, fun j d q => ?_, fun j m d q n => ?_, fun j k a ⟨m, d, h1, h2, h3⟩ ⟨m', d', k1, k2, k3⟩ => ?_, s.fdom, s.odom⟩
  · obtain ⟨v, h1, h2⟩ := s.shr j d q
    exact ⟨v, by rw [g q]; exact h1, h2⟩
  · obtain ⟨a, vs, ds, h1, h2, h3⟩ := s.own j m d q n
    exact ⟨a, vs, ds, h1, by rw [g q]; exact h2, h3⟩
  · rw [g h1] at h3
    rw [g k1] at k3
    exact s.inj j k a ⟨m, d, h1, h2, h3⟩ ⟨m', d', k1, k2, k3⟩
theorem set_none_at {l : DEnv} {i : Nat} : ∀ x, (l.set i none)[i]? ≠ some (some x) := fun x q => by
  by_cases hl : i < l.length
  · rw [List.getElem?_set_self hl] at q; cases q
  · rw [List.getElem?_eq_none (by simpa using hl)] at q; cases q
theorem s_tryKeep (i j : Nat) {ok : List Str} {x n m : Str} {c : Value} {body : List Stmt} {mb : DS} {np pe pm pa pos pos' : Pos} (hij : i ≠ j) (hN : X.N.Nodup) (hc : Names X x c)
    (hb : ∀ (W' : WX) (pn : List (Addr × Obj)) (xe : Value → Shared → Prop), L2.Takes (X.tr pn xe) W' → PassesOwn (model X.prog X.w) X.A X.env xe → DSs (X.tr pn xe) W' B body mb)
    (hok : ∀ y ∈ ok, ∃ C, X.mg y = some (.ref C) ∧ PySem.W.nsIn X.K mainGlobals y = some (some (.ref C)) ∧ PySem.W.exmOne X.K (.ref C) c = some true)
    (hs : X.stack = X.env :: X.outer := by rfl) (hf : X.env.frame = some X.env.locals := by rfl) (hex : X.ex = [] := by rfl) (hi : X.N[i]? = some n := by rfl) (hln : X.env.kindOf n = some .local := by rfl) (hj : X.N[j]? = some m := by rfl) (hlm : L2.Loc X.env.scope m := by first | exact Or.inl rfl | exact Or.inr rfl)
    (hvn : Vis X.env.scope n := by first | exact Or.inl rfl | exact Or.inr (Or.inl rfl) | exact Or.inr (Or.inr rfl)) (hd : (n == ("__debug__" : Str)) = false := by decide) (hcd : (n == ("__classdict__" : Str)) = false := by decide)
    (hfm : X.fn m = true ∨ X.env.scope.names.lookup m = some .local := by first | exact .inl rfl | exact .inr rfl | assumption)
    (hsw : ∀ (a : Addr) (pn : List (Addr × Obj)), swapsWithSole [.Name m pm] (.Name n pe) pa.line X.env = pure false := by intro _ _; rfl)
    (hBi : B i = false := by rfl) (hBj : B j = false := by rfl) :
    DSt X W B (.Try body [.ExceptHandler (some (.Name x np)) (some n) [.Assign [.Name m pm] (.Name n pe) pa] pos'] [] [] pos) (dTry ok i j mb) := by
  refine ⟨_, ps_try_keep (ts := fun _ _ _ => tAsg (tVar i) (gName j)) (tb := fun W' => tOfS X W' B mb) hs hf hex hN hi hln hc (fun W' pn xe tk po => (hb W' pn xe tk po).ps) (fun a oe cls d pn hz hfl => pss_one (ps_set (X := X.suite a ((a, oe) :: pn)) hN hj hlm (pe_var (X := X.suite a ((a, oe) :: pn)) hi hvn hd hcd) (hf := hfm))), fun O F σ H env Dn st g => ?_⟩
  refine ⟨O, F, env, st, ?_⟩
  unfold dTry at g
  cases q : mb env with
  | bad => rw [q] at g; exact g.elim
  | ok fl env1 =>
    rw [q] at g
    cases fl <;> exact g
  | err y env1 =>
    rw [q] at g
    simp only [] at g
    split at g
    case isFalse => exact g.elim
    case isTrue hcond =>
    obtain ⟨hin, hl1, hl2⟩ := hcond
    intro F' H' σ' cls d E s' kp er
    obtain ⟨C, hC, rfl, hfs, rfl⟩ := er
    obtain ⟨C', h1, h2, h3⟩ := hok y.c (by simpa using hin)
    rw [hC] at h1
    cases h1
    refine ⟨h3, fun a oe ha hz hfl => ?_⟩
    refine ⟨.ref a, List.getElem?_set_self (by rw [s'.len]; exact hl1), ?_⟩
    have sm : Same H' (upd H' a (excO oe)) := same_new ha
    have s2 := (s'.same sm).drop (i := i)
    have s3 := s2.wild (some (V.ref a)) set_none_at
    have s4 := StOk.set (e := ⟨.shr, .exc y.c []⟩) (v := .ref a) (i := j) s3 ⟨[], a, oe, _, C, none, RepL.nil, DictAt.none, rfl, upd_same, h2, hz, hfl⟩ (by rw [List.length_set, s'.len]; exact hl2)
    have s5 := s4.wild (i := i) none (fun z q => by
      rw [List.getElem?_set_ne (Ne.symm hij)] at q
      exact set_none_at z q)
    exact g F' (upd H' a (excO oe)) _ (E.trans (Ext.same sm s'.odom)) s5 (((kp.trans (keeps_set hBi)).trans (keeps_set hBj)).trans (keeps_set hBi))

/-! ### isinstance of an error -/
/-- R: the classes that are raised; all: every one of them stands under y -/
def pIsO (R : List Str) (y : Str) (all : Bool) : Pr := fun ds => match ds with
  | [.exc c _] => if R.contains c = true then some (.d (.bl (all || c == y))) else none
  | _ => none
structure YT (K : PySem.W.Frag) (R : List Str) (y : Str) (all : Bool) (cv : Value) : Prop where
  t : ∀ c ∈ R, ∀ C, PySem.W.nsIn K mainGlobals c = some (some (.ref C)) → PySem.W.kitOne K (.ref C) cv = some (all || c == y)
theorem pr_isO {K : PySem.W.Frag} {R : List Str} {y : Str} {all : Bool} {cv : Value} {cV : V} (hcv : ∀ w : Value, RelV cV w → w = cv) (hE : ∀ c ∈ R, ∀ C, PySem.W.nsIn K mainGlobals c = some (some (.ref C)) → L2.ExcC K C) (T : YT K R y all cv) :
    PrimR K (pIsO R y all) (fun vs H Q => match vs with | [x] => rIsX K [x, cV] H Q | _ => False) := fun F H ds vs Q pr fd rt e q => by
  unfold pIsO at e
  split at e
  · rename_i c fs0
    obtain ⟨v, _, rfl, h1, rfl⟩ := rt
    obtain ⟨fv, a, o, u, C, dq, rfv, hfd, rfl, ha, hn, hz, hv⟩ := h1
    split at e
    · rename_i hR
      cases e
      have hR' : c ∈ R := by simpa using hR
      exact ⟨a, C, o, u, cV, cv, _, rfl, ha, hE c hR' C hn, ⟨dq, hz, hfd.dict⟩, hv, hcv, T.t c hR' C hn, q H _ (Same.refl _) rfl⟩
    · cases e
  · cases e
section
variable {e : Expr} {o : Opd} {p py pos : Pos} {y : Str} {R : List Str} {all : Bool}
/-- isinstance(e, C), C a class of the program -/
theorem e_isO {C : Addr} (ha : DOp X W e o) (hm : X.mg "isinstance" = none) (hm2 : X.mg y = some (.ref C)) (hE : ∀ c ∈ R, ∀ C, PySem.W.nsIn X.K mainGlobals c = some (some (.ref C)) → L2.ExcC X.K C) (T : YT X.K R y all (.ref C)) (hg : Gl X "isinstance" := by rfl) (hg2 : Gl X y := by rfl)
    (hd : (y == ("__debug__" : Str)) = false := by decide)
    (h1 : starEach [e, .Name y py] X.env = (false, eval e X.env) :: starEach [.Name y py] X.env := by rfl) (h2 : starEach [.Name y py] X.env = (false, eval (.Name y py) X.env) :: starEach [] X.env := by rfl)
    (hpl : (backTo pos (starEach [.Name y py] X.env)).any (·.1) = false := by rfl) : DEv X W (.Call (.Name "isinstance" p) [e, .Name y py] [] pos) (dPrim (pIsO R y all) [o]) := by
  obtain ⟨t, h, s⟩ := ha
  refine ⟨_, pe_callB call_isX hg hm (by decide +kernel) (pa_cons h (pa_cons (pe_glob (v := .ref C) hg2 hm2 (show L2.RelV (V.ref C) (Value.ref C) from rfl) hd) pa_nil h2) h1) (he := h1) (hpl := hpl), ?_⟩
  exact fun O F σ H env Q st g => sem_prim (asem1 s) (pr_isO (cV := .ref C) (fun w h => h) hE T) O F σ H env Q st g
/-- isinstance(e, C), C a built-in class -/
theorem e_isOB {t : String} (ha : DOp X W e o) (hm : X.mg "isinstance" = none) (hm2 : X.mg y = none) (hv2 : bootBuiltins y = some (.type t)) (hE : ∀ c ∈ R, ∀ C, PySem.W.nsIn X.K mainGlobals c = some (some (.ref C)) → L2.ExcC X.K C) (T : YT X.K R y all (.type t)) (hg : Gl X "isinstance" := by rfl) (hg2 : Gl X y := by rfl)
    (hn : y ≠ "__name__" := by decide) (hd : (y == ("__debug__" : Str)) = false := by decide)
    (h1 : starEach [e, .Name y py] X.env = (false, eval e X.env) :: starEach [.Name y py] X.env := by rfl) (h2 : starEach [.Name y py] X.env = (false, eval (.Name y py) X.env) :: starEach [] X.env := by rfl)
    (hpl : (backTo pos (starEach [.Name y py] X.env)).any (·.1) = false := by rfl) : DEv X W (.Call (.Name "isinstance" p) [e, .Name y py] [] pos) (dPrim (pIsO R y all) [o]) := by
  obtain ⟨t', h, s⟩ := ha
  refine ⟨_, pe_callB call_isX hg hm (by decide +kernel) (pa_cons h (pa_cons (pe_bltn (v := .ty t) hg2 hm2 hv2 rfl hn hd) pa_nil h2) h1) (he := h1) (hpl := hpl), ?_⟩
  exact fun O F σ H env Q st g => sem_prim (asem1 s) (pr_isO (cV := .ty t) (fun w h => h) hE T) O F σ H env Q st g
end
end
end DL
/-! DLT5: errors made as values: E("x"); isinstance and type(x) == T of any value, errors too. -/
namespace DL
open PySem PySem.Spec PyProof.Rows L2

theorem rc_same_declined {M : Model} {A : Around} {E : Value → Shared → Prop} {s : Shared} {a b : Value} {T ida idb : String} {k : Bool} {Q : Value → Shared → Prop}
    (ha : s.TypeIs a T) (hb : s.TypeIs b T) (h1 : Slot T (cmpInfo CmpOp.Eq).snd.fst ida) (h2 : Slot T (cmpInfo CmpOp.Eq).snd.snd idb)
    (c1 : ∀ Q' : Value → Shared → Prop, Q' Value.notImplemented s → wpAny M A (call (Value.builtin ida) [a, b]) Q' E s)
    (c2 : ∀ Q' : Value → Shared → Prop, Q' Value.notImplemented s → wpAny M A (call (Value.builtin idb) [b, a]) Q' E s)
    (hk : ∀ Q' : Bool → Shared → Prop, Q' k s → wpAny M A (isSame a b) Q' E s) (hr : [a, b].any Value.onHeap = false ∨ A.units < cLine) (q : Q (Value.bool k) s) : wpAny M A (richCompare CmpOp.Eq a b) Q E s := by
  rcases hi : cmpInfo CmpOp.Eq with ⟨sym, f, r⟩
  rw [hi] at h1 h2
  unfold richCompare
  simp only [ha.oneThing_none, hi]
  refine wpAny_holding (wpAny_bind (wpAny_cRoomFor_or hr ?_))
  refine wpAny_bind (wpAny_typeOf ha ?_)
  refine wpAny_bind (wpAny_typeOf hb ?_)
  simp only [bne_self_eq_false, Bool.false_eq_true, if_false, pure_bind]
  refine wpAny_bind (wpAny_tryCompare_declines ha h1 (c1 _ ⟨rfl, ?_⟩))
  simp only [Bool.not_false, if_true]
  refine wpAny_bind (wpAny_tryCompare_declines hb h2 (c2 _ ⟨rfl, ?_⟩))
  exact wpAny_bind (wpAny_rule (wpAny_bind (hk _ (wpAny_pure q))))
section
variable {X : Cx} {W : WX}
/-! ### type(x) -/
def rTypX (K : PySem.W.Frag) : List V → Hp → VK → Prop := fun xs H Q => rTyp K xs H Q ∨ ∃ (a D : Addr) (oe : Obj) (u : HO), xs = [V.ref a] ∧ H a = some (.frz oe u) ∧ (∃ d, Zc (.ref D) d oe) ∧ Q (V.ref D) H
theorem call_typeX : CallR X (.type "type") (rTypX X.K) := fun pins s σ H xs us Q I r h => by
  rcases h with h | ⟨a, D, oe, u, rfl, ha, ⟨dq, hz⟩, q⟩
  · exact call_type1 pins s σ H xs us Q I r h
  · cases r with
    | cons rx rr =>
    cases rr
    cases (show _ = Value.ref a from rx)
    have hg := I.hok a _ ha
    simp only [ObjOk] at hg
    refine call_type_obj (h := s.heap) (g := s.gens) (d := s.drawn) (t := s.toks) (os := s.os) hg.1 ?_ ?_
    · rw [hz.1]; rfl
    · rw [hz.1]; exact ⟨V.ref D, H, I, rfl, q⟩
def rTyEqX (K : PySem.W.Frag) : R2 := fun x y H Q => rTyEq x y H Q ∨ ∃ (D : Addr) (T : String), x = V.ref D ∧ y = .ty T ∧ PySem.W.typeIn K (.ref D) = some (.type "type") ∧ metaN.contains T = true ∧ Q (.bl false) H
theorem op_tyEqX (hr : X.A.units < cLine) : OpR X (compareOp .Eq) (rTyEqX X.K) := by
  intro pins s σ H x y v u Q I rx ry h
  rcases h with h | ⟨D, T, rfl, rfl, h1, h2, q⟩
  · exact op_tyEq pins s σ H x y v u Q I rx ry h
  · cases (show v = Value.ref D from rx)
    cases (show u = Value.type T from ry)
    have hX : s.TypeIs (.ref D) "type" := by
      have h1' : (X.K.lookup D).map (fun x => x.cls) = some (.type "type") := h1
      cases e : X.K.lookup D with
      | none => rw [e] at h1'; cases h1'
      | some o =>
        rw [e] at h1'
        have hc : o.cls = .type "type" := Option.some.inj h1'
        obtain ⟨c, d, da, sl⟩ := o
        exact ⟨_, (Inv.kIn I) D _ e, hc⟩
    have hY := meta_of h2 s
    refine rc_same_declined (k := false) hX hY TypeEq.slot_type_eq TypeEq.slot_type_eq_refl (fun Q' q' => call_gives TypeEq.slot_type_eq hX F.entry_object_eq (F.args_object_eq_2 _ _) (TypeEq.object_eq_other rfl rfl) q') (fun Q' q' => call_gives TypeEq.slot_type_eq_refl hY F.entry_object_eq (F.args_object_eq_2 _ _) (TypeEq.object_eq_other rfl rfl) q') (fun Q' q' => wpAny_of_eq (isSame_plain rfl) q') (.inr hr) ⟨.bl false, H, I, rfl, q⟩
/-- R: the classes of the errors that there are -/
def excR (R : List Str) : D → Bool
  | .exc c _ => R.contains c
  | _ => false
def pTyIsO (R : List Str) (T : String) : Pr := fun ds => match ds with
  | [d] => if metaN.contains T = true then (match tyOf d with
    | some a => some (.d (.bl (decide (a = T))))
    | none => if excR R d = true then some (.d (.bl false)) else none) else none
  | _ => none
def rTyIsO (K : PySem.W.Frag) (T : String) : Rl := fun vs H Q => rTypX K vs H fun x H' => rTyEqX K x (.ty T) H' Q
theorem pr_tyIsO {K : PySem.W.Frag} {R : List Str} {T : String} (hR : ∀ c ∈ R, ∀ C, PySem.W.nsIn K mainGlobals c = some (some (.ref C)) → PySem.W.typeIn K (.ref C) = some (.type "type")) : PrimR K (pTyIsO R T) (rTyIsO K T) := fun F H ds vs Q pr fd rt e q => by
  unfold pTyIsO at e
  split at e
  · rename_i d
    obtain ⟨v, _, rfl, h1, rfl⟩ := rt
    split at e
    · rename_i hT
      cases ht : tyOf d with
      | none =>
        rw [ht] at e
        simp only [] at e
        split at e
        · rename_i hx
          cases e
          unfold excR at hx
          split at hx
          · rename_i c fs0
            obtain ⟨fv, a, o, u, C, dq, rfv, hfd, rfl, ha, hn, hz, hv⟩ := h1
            exact .inr ⟨a, C, o, u, rfl, ha, ⟨dq, hz⟩, .inr ⟨C, T, rfl, rfl, hR c (by simpa using hx) C hn, hT, q H _ (Same.refl _) rfl⟩⟩
          · cases hx
        · cases e
      | some a =>
        rw [ht] at e
        cases e
        exact .inl ⟨_, a, rfl, tyB_of h1 ht, .inl ⟨a, T, rfl, rfl, tyOf_meta ht, hT, q H _ (Same.refl _) rfl⟩⟩
    · cases e
  · cases e
theorem e_tyIsO {k : Nat} {R : List Str} {T : String} {y : Str} {e : Expr} {o : Opd} {p py cp pos : Pos} (hr : GRoom k X.A) (hR : ∀ c ∈ R, ∀ C, PySem.W.nsIn X.K mainGlobals c = some (some (.ref C)) → PySem.W.typeIn X.K (.ref C) = some (.type "type")) (ha : DOp X W e o) (hm : X.mg "type" = none) (hm2 : X.mg y = none) (hv2 : bootBuiltins y = some (.type T)) (hg : Gl X "type" := by rfl) (hg2 : Gl X y := by rfl)
    (hn : y ≠ "__name__" := by decide) (hd : (y == ("__debug__" : Str)) = false := by decide)
    (h1 : starEach [e] X.env = (false, eval e X.env) :: starEach [] X.env := by rfl) : DEv X W (.Compare (.Call (.Name "type" p) [e] [] cp) [.Eq] [.Name y py] pos) (dPrim (pTyIsO R T) [o]) := by
  obtain ⟨t, h, s⟩ := ha
  refine ⟨_, pe_cmpR (op_tyEqX (by have := units_of hr; omega)) (pe_callTy call_typeX hg hm (by decide +kernel) (pa_cons h pa_nil h1) (by decide) (by decide) h1 (by rfl)) (pe_bltn (v := .ty T) hg2 hm2 hv2 rfl hn hd) (nomark _), ?_⟩
  exact fun O F σ H env Q st g => sem_prim (asem1 s) (pr_tyIsO (T := T) hR) O F σ H env Q st g
theorem t_tyIsO {k : Nat} {R : List Str} {T : String} {y : Str} {e : Expr} {o : Opd} {p py cp pos : Pos} (hr : GRoom k X.A) (hR : ∀ c ∈ R, ∀ C, PySem.W.nsIn X.K mainGlobals c = some (some (.ref C)) → PySem.W.typeIn X.K (.ref C) = some (.type "type")) (ha : DOp X W e o) (hm : X.mg "type" = none) (hm2 : X.mg y = none) (hv2 : bootBuiltins y = some (.type T)) (hg : Gl X "type" := by rfl) (hg2 : Gl X y := by rfl)
    (hn : y ≠ "__name__" := by decide) (hd : (y == ("__debug__" : Str)) = false := by decide)
    (h1 : starEach [e] X.env = (false, eval e X.env) :: starEach [] X.env := by rfl) : DTst X W (.Compare (.Call (.Name "type" p) [e] [] cp) [.Eq] [.Name y py] pos) (dTst (dPrim (pTyIsO R T) [o])) := by
  obtain ⟨t, h, s⟩ := ha
  refine ⟨_, pt_cmpR (op_tyEqX (by have := units_of hr; omega)) (pe_callTy call_typeX hg hm (by decide +kernel) (pa_cons h pa_nil h1) (by decide) (by decide) h1 (by rfl)) (pe_bltn (v := .ty T) hg2 hm2 hv2 rfl hn hd) (nomark _), ?_⟩
  exact sem_tst (t := tOp (rTyEqX X.K) (tCB (rTypX X.K) (tCons t tNil)) (tC (.ty T))) (fun O F σ H env Q st g => sem_prim (asem1 s) (pr_tyIsO (T := T) hR) O F σ H env Q st g) fun σ H Q q => q
/-! ### isinstance(x, T), T built in -/
def rIsIX (K : PySem.W.Frag) : List V → Hp → VK → Prop := fun xs H Q => rIsi K xs H Q ∨ rIsX K xs H Q
theorem call_isIX : CallR X (.builtin "isinstance") (rIsIX X.K) := fun pins s σ H xs us Q I r h => by
  rcases h with h | h
  · exact call_isi pins s σ H xs us Q I r h
  · exact call_isX pins s σ H xs us Q I r h
def pIsIO (R : List Str) (T : String) : Pr := fun ds => match ds with
  | [d] => (match tyOf d with
    | some a => (kitB a T).map fun b => PR.d (.bl b)
    | none => if excR R d = true then some (.d (.bl false)) else none)
  | _ => none
def rIsIO (K : PySem.W.Frag) (T : String) : Rl := fun vs H Q => match vs with
  | [x] => rIsIX K [x, .ty T] H Q
  | _ => False
/-- no class of R stands under T -/
def NoT (K : PySem.W.Frag) (R : List Str) (T : String) : Prop := ∀ c ∈ R, ∀ C, PySem.W.nsIn K mainGlobals c = some (some (.ref C)) → PySem.W.kitOne K (.ref C) (.type T) = some false
theorem pr_isIO {K : PySem.W.Frag} {R : List Str} {T : String} (hE : ∀ c ∈ R, ∀ C, PySem.W.nsIn K mainGlobals c = some (some (.ref C)) → L2.ExcC K C) (hT : NoT K R T) : PrimR K (pIsIO R T) (rIsIO K T) := fun F H ds vs Q pr fd rt e q => by
  unfold pIsIO at e
  split at e
  · rename_i d
    obtain ⟨v, _, rfl, h1, rfl⟩ := rt
    cases ht : tyOf d with
    | none =>
      rw [ht] at e
      simp only [] at e
      split at e
      · rename_i hx
        cases e
        unfold excR at hx
        split at hx
        · rename_i c fs0
          obtain ⟨fv, a, o, u, C, dq, rfv, hfd, rfl, ha, hn, hz, hv⟩ := h1
          have hc : c ∈ R := by simpa using hx
          exact .inr ⟨a, C, o, u, .ty T, .type T, _, rfl, ha, hE c hc C hn, ⟨dq, hz, hfd.dict⟩, hv, fun w h => h, hT c hc C hn, q H _ (Same.refl _) rfl⟩
        · cases hx
      · cases e
    | some a =>
      rw [ht] at e
      cases hk : kitB a T with
      | none => simp [hk] at e
      | some b =>
        simp [hk] at e
        subst e
        exact .inl ⟨v, .ty T, .type a, .type T, b, rfl, .ty T, tyX_of h1 ht, kit_ty hk, q H _ (Same.refl _) rfl⟩
  · cases e
theorem e_isIO {R : List Str} {T : String} {y : Str} {e : Expr} {o : Opd} {p py pos : Pos} (hE : ∀ c ∈ R, ∀ C, PySem.W.nsIn X.K mainGlobals c = some (some (.ref C)) → L2.ExcC X.K C) (hT : NoT X.K R T) (ha : DOp X W e o) (hm : X.mg "isinstance" = none) (hm2 : X.mg y = none) (hv2 : bootBuiltins y = some (.type T)) (hg : Gl X "isinstance" := by rfl) (hg2 : Gl X y := by rfl)
    (hn : y ≠ "__name__" := by decide) (hd : (y == ("__debug__" : Str)) = false := by decide)
    (h1 : starEach [e, .Name y py] X.env = (false, eval e X.env) :: starEach [.Name y py] X.env := by rfl) (h2 : starEach [.Name y py] X.env = (false, eval (.Name y py) X.env) :: starEach [] X.env := by rfl)
    (hpl : (backTo pos (starEach [.Name y py] X.env)).any (·.1) = false := by rfl) : DEv X W (.Call (.Name "isinstance" p) [e, .Name y py] [] pos) (dPrim (pIsIO R T) [o]) := by
  obtain ⟨t, h, s⟩ := ha
  refine ⟨_, pe_callB call_isIX hg hm (by decide +kernel) (pa_cons h (pa_cons (pe_bltn (v := .ty T) hg2 hm2 hv2 rfl hn hd) pa_nil h2) h1) (he := h1) (hpl := hpl), ?_⟩
  exact fun O F σ H env Q st g => sem_prim (asem1 s) (pr_isIO (T := T) hE hT) O F σ H env Q st g
/-! ### E("x") -/
theorem freezeX {pins : List (Addr × Obj)} {σ : L2.St} {H : Hp} {s : Shared} {a : Addr} {cls : Value} (h0 : H a = none) (I : L2.Inv X pins σ (upd H a (ExO cls a)) s) : ∃ oe : Obj, Zc cls none oe ∧ (∃ vs, oe.data = Data.fields vs) ∧ L2.Inv X pins σ (upd H a (excO oe)) s := by
  have g := I.hok a _ upd_same
  simp only [ExO, ObjOk] at g
  obtain ⟨⟨oe, vs, g1, g2, g3, _⟩, _⟩ := g
  have hx : upd H a (ExO cls a) a = some (ExO cls a) := upd_same
  have ne : ∀ {b : Addr}, b ≠ a → upd H a (excO oe) b = upd H a (ExO cls a) b := fun h => by rw [upd_ne h, upd_ne h]
  refine ⟨oe, g2, ⟨vs, g3⟩, I.ok, I.os, I.bare, ?_, I.loc, I.cell, ?_, ?_, ?_, ?_, I.len⟩
  · refine ⟨I.base.keep, I.base.slot, fun b o h1 h2 h3 => ?_, I.base.there, fun b xs h => ?_, fun b o u h => ?_, fun b ps h => ?_⟩
    · have := I.base.free b o h1 h2 h3
      rw [ne (fun z => by subst z; rw [hx] at this; cases this)]; exact this
    · have := I.base.tups b xs h
      rw [ne (fun z => by subst z; rw [hx] at this; cases this)]; exact this
    · have := I.base.frzs b o u h
      rw [ne (fun z => by subst z; rw [hx] at this; cases this)]; exact this
    · obtain ⟨more, this⟩ := I.base.tbls b ps h
      exact ⟨more, by rw [ne (fun z => by subst z; rw [hx] at this; cases this)]; exact this⟩
  · have := I.free
    rw [ne (fun z => by rw [z, hx] at this; cases this)]; exact this
  · intro x c hc
    have := I.freeC x c hc
    rw [ne (fun z => by rw [z, hx] at this; cases this)]; exact this
  · intro p hp
    obtain ⟨k1, k2, k3⟩ := I.pin p hp
    exact ⟨k1, by rw [ne (fun z => by rw [z, hx] at k2; cases k2)]; exact k2, k3⟩
  · intro b o hb
    by_cases e : b = a
    · subst e
      rw [upd_same] at hb
      cases hb
      simp only [ObjOk]
      exact ⟨g1, trivial, ⟨oe, g1⟩, fun _ _ _ _ => trivial⟩
    · rw [ne e] at hb
      refine (I.hok b o hb).stay (fun _ _ _ h => h) (fun c hc => ?_) (fun c xs hc => ?_)
      · rw [ne (fun z => by rw [z, hx] at hc; cases hc)]; exact hc
      · rw [ne (fun z => by rw [z, hx] at hc; cases hc)]; exact hc
/-- E(x), E a class of errors: the error as a worth -/
def dExcV (c : Str) (m : DE) : DE := fun env => (m env).bind fun _ e => .ok ⟨.shr, .exc c []⟩ e
theorem e_excV {C : Addr} {c : Str} {e : Expr} {m : DE} {p pos : Pos} (hq : PySem.W.excIn X.K C [.type "ValueError", .type "Exception", .type "BaseException", .type "object"] "ValueError.__new__" = true) (hk : PySem.W.keepIn X.K (.ref C) = true)
    (hn : PySem.W.nsIn X.K mainGlobals c = some (some (.ref C))) (hm : X.mg c = some (.ref C)) (ha : DEv X W e m) (hg : Gl X c := by rfl)
    (hs : starEach [e] X.env = (false, eval e X.env) :: starEach [] X.env := by rfl) (hd : (c == ("__debug__" : Str)) = false := by decide) : DEv X W (.Call (.Name c p) [e] [] pos) (dExcV c m) := by
  obtain ⟨t, h, s⟩ := ha
  have P := pe_exc1 (p := p) (pos := pos) PySem.F.excBase_ValueError hq hm hk hg h hs hd
  refine ⟨fun σ H Q => t σ H fun x H1 => ∀ a, H1 a = none → (fun v H2 => ∃ a H1, v = V.ref a ∧ H1 a = none ∧ H2 = upd H1 a (ExO (.ref C) a) ∧ ∀ oe : Obj, Zc (.ref C) none oe → (∃ vs, oe.data = Data.fields vs) → Q v (upd H1 a (excO oe))) (V.ref a) (upd H1 a (ExO (.ref C) a)), ⟨fun pins s0 σ H Q I q => ?_⟩, fun O F σ H env Q st g => ?_⟩
  · refine wpAny_mono (P.run pins s0 σ H (fun v H2 => ∃ a H1, v = V.ref a ∧ H1 a = none ∧ H2 = upd H1 a (ExO (.ref C) a) ∧ ∀ oe : Obj, Zc (.ref C) none oe → (∃ vs, oe.data = Data.fields vs) → Q v (upd H1 a (excO oe))) I q) ?_ fun _ _ h => h
    rintro u s' ⟨v, H2, I2, r2, a, H1, rfl, h0, rfl, q2⟩
    obtain ⟨oe, hz, hf, I3⟩ := freezeX h0 I2
    exact ⟨_, _, I3, r2, q2 oe hz hf⟩
  · refine s O F σ H env _ st ?_
    unfold dExcV at g
    cases q : m env with
    | bad => rw [q] at g; exact g.elim
    | err x e => rw [q] at g; exact g
    | ok r env1 =>
      rw [q] at g
      intro F1 H1 v E1 s1 rep a h0
      refine ⟨a, H1, rfl, h0, rfl, fun oe hz hf => ?_⟩
      have sm : Same H1 (upd H1 a (excO oe)) := same_new h0
      exact g F1 _ _ (E1.trans (Ext.same sm s1.odom)) (s1.same sm) ⟨[], a, oe, _, C, none, RepL.nil, DictAt.none, rfl, upd_same, hn, hz, hf⟩
/-! ### x == [], x == () -/
def pEqE : Pr := fun ds => match ds with
  | [.lst xs, .lst []] => some (.d (.bl xs.isEmpty))
  | [.tup xs, .tup []] => some (.d (.bl xs.isEmpty))
  | _ => none
def rEqE (K : PySem.W.Frag) : R2 := fun x y H Q => (∃ a b us, x = V.ref a ∧ y = V.ref b ∧ H a = some (.lst us) ∧ H b = some (.lst []) ∧ Q (.bl us.isEmpty) H) ∨ (∃ a b us, x = V.ref a ∧ y = V.ref b ∧ TpL H a us ∧ TpL H b [] ∧ Q (.bl us.isEmpty) H)
theorem is_tup_of {h : Heap} {a : Addr} {its : Array Value} (g : IsTup h a its) : h.IsTuple a its := by
  first
  | exact g
  | (obtain ⟨o, h1, h2, n, h3⟩ := g; exact ⟨o, h1, h2, n, h3⟩)
theorem tpl_is {pins : List (Addr × Obj)} {σ : L2.St} {H : Hp} {s : Shared} {a : Addr} {us : List V} (I : L2.Inv X pins σ H s) (h : TpL H a us) : ∃ its : List Value, Vals us its ∧ s.heap.IsTuple a its.toArray := by
  obtain ⟨o, _, h⟩ := h
  have g := I.hok a _ h
  simp only [ObjOk] at g
  obtain ⟨_, _, its, hv, hg⟩ := g
  exact ⟨its, hv, is_tup_of hg⟩
theorem op_eqE (hu : X.A.units < cLine) : OpR X (compareOp .Eq) (rEqE X.K) := by
  intro pins s σ H x y v u Q I rx ry h
  rcases h with ⟨a, b, us, rfl, rfl, ha, hb, q⟩ | ⟨a, b, us, rfl, rfl, ha, hb, q⟩
  · cases (show v = Value.ref a from rx)
    cases (show u = Value.ref b from ry)
    have g := I.hok a _ ha
    have g2 := I.hok b _ hb
    simp only [ObjOk] at g g2
    obtain ⟨_, its, n, hv, hg⟩ := g
    obtain ⟨_, its2, n2, hv2, hg2⟩ := g2
    cases hv2
    cases hv with
    | nil => exact SeqAt.eq_listAt (e := fun _ => true) ⟨_, hg, rfl, _, rfl⟩ ⟨_, hg2, rfl, _, rfl⟩ rfl hu (fun j h1 => by exact absurd h1 (Nat.not_lt_zero _)) ⟨.bl true, H, I, rfl, q⟩
    | cons => exact SeqAt.eq_list_lengthsAt ⟨_, hg, rfl, _, rfl⟩ ⟨_, hg2, rfl, _, rfl⟩ (by simp) hu ⟨.bl false, H, I, rfl, q⟩
  · cases (show v = Value.ref a from rx)
    cases (show u = Value.ref b from ry)
    obtain ⟨its, hv, g⟩ := tpl_is I ha
    obtain ⟨its2, hv2, g2⟩ := tpl_is I hb
    cases hv2
    refine SeqAt.eq_tupleAt (e := fun _ => true) g g2 hu (fun j _ h2 => by exact absurd h2 (Nat.not_lt_zero _)) ?_
    cases hv with
    | nil => exact ⟨.bl true, H, I, rfl, q⟩
    | cons =>
      refine ⟨.bl false, H, I, ?_, q⟩
      show Value.bool _ = Value.bool false
      simp
theorem pr_eqE {K : PySem.W.Frag} : PrimR K pEqE (two (rEqE K)) := fun F H ds vs Q pr fd rt e q => by
  unfold pEqE at e
  split at e
  · rename_i xs
    cases e
    obtain ⟨v, _, rfl, h1, u, _, rfl, h2, rfl⟩ := rt
    obtain ⟨a, us, rfl, ha, ra⟩ := h1
    obtain ⟨b, us2, rfl, hb, rb⟩ := h2
    have e2 : us2 = [] := rb
    subst e2
    have hl : us.isEmpty = xs.isEmpty := by
      have := RepL.length ra
      cases us <;> cases xs <;> simp_all
    exact .inl ⟨a, b, us, rfl, rfl, ha, hb, by rw [hl]; exact q H _ (Same.refl _) rfl⟩
  · rename_i xs
    cases e
    obtain ⟨v, _, rfl, h1, u, _, rfl, h2, rfl⟩ := rt
    obtain ⟨a, us, rfl, ha, ra⟩ := h1
    obtain ⟨b, us2, rfl, hb, rb⟩ := h2
    have e2 : us2 = [] := rb
    subst e2
    have hl : us.isEmpty = xs.isEmpty := by
      have := RepL.length ra
      cases us <;> cases xs <;> simp_all
    exact .inr ⟨a, b, us, rfl, rfl, ha, hb, by rw [hl]; exact q H _ (Same.refl _) rfl⟩
  · cases e
theorem x_eqE {k : Nat} {a b : Expr} {oa ob : Opd} {pos : Pos} (hr : GRoom k X.A) (ha : DOp X W a oa) (hb : DOp X W b ob) : DEv X W (.Compare a [.Eq] [b] pos) (dPrim pEqE [oa, ob]) := e_cmp (op_eqE (by have := units_of hr; omega)) pr_eqE ha hb (nomark _)
theorem y_eqE {k : Nat} {a b : Expr} {oa ob : Opd} {pos : Pos} (hr : GRoom k X.A) (ha : DOp X W a oa) (hb : DOp X W b ob) : DTst X W (.Compare a [.Eq] [b] pos) (dTst (dPrim pEqE [oa, ob])) := t_cmp (op_eqE (by have := units_of hr; omega)) pr_eqE ha hb (nomark _)
/-- an expression that is never reckoned -/
def dNeverE : DE := fun _ => .bad
theorem e_never {e : Expr} : DEv X W e dNeverE := ⟨fun _ _ _ => False, ⟨fun _ _ _ _ _ _ h => h.elim⟩, fun _ _ _ _ _ _ _ g => g.elim⟩
/-! ### w.upper() -/
def dUpper (m : DE) : DE := fun env => (m env).bind fun r e => match r with
  | Ent.mk Md.shr (.str z) => if z.length ≤ 5592405 then .ok ⟨.shr, .str (Txt.upper z)⟩ e else .bad
  | _ => .bad
theorem e_upper {o : Expr} {m : DE} {apos pos : Pos} (ha : DEv X W o m) (hbase : attributeBase o "upper" X.env (eval o X.env) = eval o X.env := by rfl) (hline : (apos.endLine == pos.line) = true := by rfl) :
    DEv X W (.Call (.Attribute o "upper" apos) [] [] pos) (dUpper m) := by
  obtain ⟨t, h, s⟩ := ha
  refine ⟨_, pe_upper h hbase hline, fun O F σ H env Q st g => ?_⟩
  refine s O F σ H env _ st ?_
  unfold dUpper at g
  cases q : m env with
  | bad => rw [q] at g; exact g.elim
  | err x e => rw [q] at g; exact g
  | ok r env1 =>
    rw [q] at g
    intro F1 H1 v E1 s1 rep
    simp only [R.bind] at g
    split at g
    · rename_i z
      have hv : v = V.str z := rep
      subst hv
      split at g
      · rename_i hl
        exact ⟨⟨z, rfl⟩, z, rfl, rfl, hl, g F1 H1 _ E1 s1 rfl⟩
      · exact g.elim
    · exact g.elim
end
end DL
/-! DLR0: an error whose class has an __init__ that says super().__init__("..") and keeps one field: made, on the heap. -/
namespace DL
open PySem PySem.W PySem.Calls PyProof.Rows

section
variable {prog : Program} {w : World} {M : Model} {A : Around} {E : Value → Shared → Prop} {h : Heap} {g : Array GenState} {d : Drawn} {t : Nat} {os : OsState}
/-- the bound __init__ of the built-in class is called -/
theorem call_mw {K : Frag} {nm q : Str} {C N u x t0 : Addr} {bs bm : List Value} {hdct : Bool} {sn : List Str} {sub : List Value} {ab : Bool} {col : Option Bool} {dd : Option Addr} {k0 k1 k2 k3 k5 : Option Value} {rest : List Value} {Q : Value → Shared → Prop}
    (hC : h.get? C = some (excClassObj nm q C N bs bm hdct sn sub ab col dd k0 k1 k2 k3 k5 "ValueError.__new__")) (hx : h.get? x = some (PySem.HandSPX.excO C t0)) (hu : h.get? u = some (kxs_mw "ValueError.__init__" x)) (hz : rest.length ≤ sizeLine)
    (hq : ∀ h' t1, (∀ b o, b ≠ x → h.get? b = some o → h'.get? b = some o) → h'.get? x = some (PySem.HandSPX.excO C t1) → Q .none ⟨h', g, d, t, os⟩) :
    wpAny (model prog w) A (call (.ref u) rest) Q E ⟨h, g, d, t, os⟩ := by
  refine wpAny_call (codeAny_of_tree ?_)
  show wpAny _ A.in1 (callAny (.ref u) ⟨rest, []⟩) _ _ _
  simp only [callAny]
  refine wpAny_bind (wpAny_load hu ?_)
  simp only [kxs_mw, show (Value.type "method-wrapper" == Value.type "method" || Value.type "method-wrapper" == Value.type "builtin_function_or_method" || Value.type "method-wrapper" == Value.type "method-wrapper") = true by decide, if_true]
  refine KFB.if_so (by decide) ?_
  refine wpAny_bind (check_bound_init PySem.F.excBase_ValueError.toExcCallFacts hC hx rfl ?_)
  refine wpAny_bind (wpAny_pure (wpAny_pure ?_))
  refine ⟨plainId_quiet PySem.F.excBase_ValueError.init.plain _, codeAny_builtin PySem.F.excBase_ValueError.initEntry ?_⟩
  exact exc_init_tree (cls := .ref C) (t0 := t0) (dv := none) (c2 := .none) (c3 := .none) (b4 := .bool false) hx hz fun h' k e' _ => hq h' _ k e'
end

/-- what super().__init__ finds, the class above having none of its own -/
theorem ks_of {K : Frag} {C W : Addr} {nm q : Str} {N : Addr} {bs bm r : List Value} {hd : Bool} {sn : List Str} {sub : List Value} {ab : Bool} {col : Option Bool} {dd wd : Option Addr} {k0 k1 k2 k3 k5 : Option Value} {ni : String} {wc : Value} {wcd : ClassData} {wsl : Array (Option Value)}
    (hC : K.lookup C = some (excClassObj nm q C N bs bm hd sn sub ab col dd k0 k1 k2 k3 k5 ni)) (e : bm = .ref W :: .type "ValueError" :: r) (hW : K.lookup W = some ⟨wc, wd, .cls wcd, wsl⟩) (hn : nsIn K wcd.ns "__init__" = some none) :
    ks_superIn K C C "__init__" = some (some (.builtin "ValueError.__init__")) := by
  have hcl : clsIn K C = some { name := nm, bases := bs, mro := .ref C :: bm, ns := N, qualname := q, hasDict := hd, slotNames := sn, subclasses := sub, abstract := ab, collection := col, hasDel := false } := by unfold clsIn; rw [hC] <;> rfl
  unfold ks_superIn
  rw [hcl, Option.bind_some]
  have h1 : ((Value.ref C :: bm).dropWhile (· != .ref C)).drop 1 = bm := by simp [List.dropWhile_cons]
  show alongIn K "__init__" (((Value.ref C :: bm).dropWhile (· != .ref C)).drop 1) = _
  rw [h1, e]
  have h2 : ownIn K "__init__" (.ref W) = some none := by
    show (match K.lookup W with | some ⟨_, _, .cls cd, _⟩ => nsIn K cd.ns "__init__" | _ => none) = _
    rw [hW]
    exact hn
  have h3 : ownIn K "__init__" (.type "ValueError") = some (some (.builtin "ValueError.__init__")) := by
    show some (fastBuiltinOwn "ValueError" "__init__") = _
    kernel_rfl
  unfold alongIn
  rw [h2]
  simp only []
  unfold alongIn
  rw [h3]
/-- the body of a class statement -/
def clsB (s : Stmt) : List Stmt := match s with
  | .ClassDef _ _ _ b _ _ _ _ _ _ _ => b
  | _ => []
/-- what the text says of such an __init__: f the field, x the second parameter -/
structure IniS (st : Stmt) (f x : Str) : Prop where
  body : ∃ (z : Str) (kz : Nat) (p0 p1 p2 p3 p4 pz q1 q2 q3 q4 : Pos), L2.defBody st = [.Expr (.Call (.Attribute (.Call (.Name "super" p0) [] [] p1) "__init__" p2) [.Constant (.str z) kz pz] [] p3) p4, .Assign [.Attribute (.Name "self" q1) f q2] (.Name x q3) q4] ∧
    (∀ env : Env, ∃ pl : Sem Bool, eval (.Call (.Attribute (.Call (.Name "super" p0) [] [] p1) "__init__" p2) [.Constant (.str z) kz pz] [] p3) env = (do
      let ov ← attributeBase (.Call (.Name "super" p0) [] [] p1) "__init__" env (eval (.Call (.Name "super" p0) [] [] p1) env)
      standAt p2.atName
      let (f, first) ← holding [ov] (getMethod ov "__init__" pl)
      callWith p3 f first (backTo p3 (starEach [.Constant (.str z) kz pz] env)) [])) ∧
    (∀ env : Env, swapsWith (.Call (.Attribute (.Call (.Name "super" p0) [] [] p1) "__init__" p2) [.Constant (.str z) kz pz] [] p3) none p4.line env = pure false) ∧ (∀ env : Env, swapsWith (.Name x q3) (some (.Attribute (.Name "self" q1) f q2)) q4.line env = pure false) ∧
    (∀ env : Env, starEach [.Constant (.str z) kz pz] env = [(false, eval (.Constant (.str z) kz pz) env)])
  kind : (L2.defScope st).kind = .function
  co : (L2.defScope st).isCoroutine = false
  gen : (L2.defScope st).isGenerator = false
  names : (L2.defScope st).names = [(("self" : Str), NameKind.local), (x, .local), ("__class__", .free), ("super", .globalImplicit)]
  head : ∃ ar, ((L2.defArgs st).posonlyargs ++ (L2.defArgs st).args).head? = some ar ∧ ar.arg = "self"
  bind : ∀ (name qual : Str) (cc : Addr) (kV doc pm : Value) (an : Option Addr) (cdv ct a b : Value), bindArgs (fnX name qual (L2.defArgs st) (L2.defBody st) (L2.defScope st) [("__class__", cc)] .none kV doc pm an cdv ct) ⟨[a, b], []⟩ = pure [(("self" : Str), a), (x, b)]
  bindk : ∀ (name qual : Str) (cc : Addr) (kV doc pm : Value) (an : Option Addr) (cdv ct a b : Value), bindArgs (fnX name qual (L2.defArgs st) (L2.defBody st) (L2.defScope st) [("__class__", cc)] .none kV doc pm an cdv ct) ⟨[a], [(x, b)]⟩ = pure [(("self" : Str), a), (x, b)]
  hx : x ≠ "self" ∧ x ≠ "super" ∧ x ≠ "__class__" ∧ (x == ("__debug__" : Str)) = false
/-- what the written part says of such a class -/
structure IniC (K : Frag) (prog : Program) (C : Addr) (f x : Str) : Prop where
  oex : L2.OexC K C
  no : findIn K (.ref C) f = some none
  sup : nsIn K mainGlobals "super" = some none
  opq : nsIn K cStatics "thirdparty.any" = some none
  ksi : ks_superIn K C C "__init__" = some (some (.builtin "ValueError.__init__"))
  sB : subIn K (.ref C) (.type "ValueError") = some true
  sC : mroIn K C (.ref C) = some true
  htop : (prog.main.scope.names.lookup ("super" : Str)).isSome = false
  ini : ∃ (st : Stmt) (fI cc cda : Addr) (name qual : Str) (kV doc pm ct oc ccl cl : Value) (an od cdd cld : Option Addr) (osl ccs csl : Array (Option Value)) (vs : Array Value) (file : Str) (tf : Tok), IniS st f x ∧
    findIn K (.ref C) "__init__" = some (some (.ref fI)) ∧ typeIn K (.ref fI) = some (.type "function") ∧
    K.lookup fI = some ⟨oc, od, .func (fnX name qual (L2.defArgs st) (L2.defBody st) (L2.defScope st) [("__class__", cc)] .none kV doc pm an (.ref cda) ct), osl⟩ ∧
    codeIn K (.ref cda) qual = true ∧ K.lookup cda = some ⟨ccl, cdd, .fields vs, ccs⟩ ∧ vs[2]? = some (.str file tf) ∧ ((prog.main.file : Str) == file) = true ∧
    K.lookup cc = some ⟨cl, cld, .cell (some (.ref C)), csl⟩

section
variable {prog : Program} {w : World} {A : Around} {E : Value → Shared → Prop} {hp : Heap} {g : Array GenState} {d : Drawn} {t : Nat} {os : OsState} {K : Frag} {C : Addr} {f x : Str} {v : Value} {mg : Str → Option Value} {Q : Value → Shared → Prop}
theorem ini_run {R : Result → Shared → Prop} {fI e t0 : Addr} {H1 : Heap} {args : Args} (T : IniC K prog C f x) (X1 : K.In H1) (X3' : ∀ h', (∀ b o, b ≠ e → H1.get? b = some o → h'.get? b = some o) → K.In h') (nl : H1.NoLimit) (G : H1.Ns mainGlobals mg) (B : ∃ mb, H1.Ns builtinsNs mb ∧ ∀ x : Str, x ≠ "__name__" → mb x = bootBuiltins x)
    (room : A.depth < recursionLimit) (hget : H1.get? e = some (PySem.HandSPX.excO C t0)) (iC : findIn K (.ref C) "__init__" = some (some (.ref fI))) (hargs : args = ⟨[.ref e, v], []⟩ ∨ args = ⟨[.ref e], [(x, v)]⟩)
    (hq : ∀ h' tk' dx t1, (∀ b o, b ≠ e → H1.get? b = some o → h'.get? b = some o) → H1.objs.size ≤ dx → dx ≠ e → h'.get? e = some ({ cls := .ref C, dict := some dx, data := .fields #[.ref t1, .none, .none, .none, .bool false, .none] } : Obj) →
      h'.Ns1 dx (fun y => if y = f then some v else none) → R (.ok (.ret .none)) ⟨h', g, d, tk', os⟩) :
    codeAny (model prog w) A (.call (.ref fI) args) R ⟨H1, g, d, t, os⟩ := by
  obtain ⟨nm, q, N, bs, bm, sn, sub, ab, col, dd, k0, k1, k2, k3, k5, hC, hbm⟩ := T.oex.cls
  obtain ⟨st, fI', cc, cda, name, qual, kV, doc, pm, ct, oc, ccl, cl, an, od, cdd, cld, osl, ccs, csl, vs, file, tf, TS, iC', tI, hfn, hcode, hcda, hvs, hfile, hcc⟩ := T.ini
  obtain rfl : fI = fI' := by
    have z := iC.symm.trans iC'
    simpa using z
  obtain ⟨z, kz, p0, p1, p2, p3, p4, pz, q1, q2, q3, q4, hbody, heval, hsw1, hsw2, hst⟩ := TS.body
  obtain ⟨ar, hhead, har⟩ := TS.head
  obtain ⟨hx1, hx2, hx3, hx4⟩ := TS.hx
  have hbind : bindArgs (fnX name qual (L2.defArgs st) (L2.defBody st) (L2.defScope st) [("__class__", cc)] .none kV doc pm an (.ref cda) ct) args = pure [(("self" : Str), .ref e), (x, v)] := by
    rcases hargs with rfl | rfl
    · exact TS.bind name qual cc kV doc pm an (.ref cda) ct _ _
    · exact TS.bindk name qual cc kV doc pm an (.ref cda) ct _ _
  have sk := TS.kind
  have sco := TS.co
  have sgen := TS.gen
  have snames := TS.names
  rw [hbody] at hfn hbind
  generalize L2.defArgs st = params at hhead hfn hbind
  generalize L2.defScope st = scope at sk sco sgen snames hfn hbind
  have hcl : clsIn K C = some { name := nm, bases := bs, mro := .ref C :: bm, ns := N, qualname := q, hasDict := true, slotNames := sn, subclasses := sub, abstract := ab, collection := col, hasDel := false } := by unfold clsIn; rw [hC] <;> rfl
  have lk : ∀ y, scope.names.lookup y = ([(("self" : Str), NameKind.local), (x, .local), ("__class__", .free), ("super", .globalImplicit)] : List (Str × NameKind)).lookup y := fun y => by rw [snames]
  have l1 : scope.names.lookup ("self" : Str) = some .local := by rw [lk]; rfl
  have l2 : scope.names.lookup x = some .local := by
    rw [lk]
    have e1 : (x == ("self" : Str)) = false := by simpa using hx1
    simp [List.lookup, e1]
  have l3 : scope.names.lookup ("__class__" : Str) = some .free := by
    rw [lk]
    have e1 : (("__class__" : Str) == x) = false := by simpa using Ne.symm hx3
    have e0 : (("__class__" : Str) == ("self" : Str)) = false := by decide
    simp [List.lookup, e1, e0]
  have l4 : scope.names.lookup ("super" : Str) = some .globalImplicit := by
    rw [lk]
    have e1 : (("super" : Str) == x) = false := by simpa using Ne.symm hx2
    have e0 : (("super" : Str) == ("self" : Str)) = false := by decide
    have e2 : (("super" : Str) == ("__class__" : Str)) = false := by decide
    simp [List.lookup, e1, e0, e2]
  refine ks_codeAny_call_defAt room (X1 _ _ hfn) rfl nl (codeRec_of X1 hcode) rfl (BindsTo.of_eq hbind) (fun y hy => ?_) (fun y hy => ?_) (fun h0 hns hk0 => ?_) sco sgen sk
  · have hy' : y ∈ scope.names := hy
    rw [snames] at hy'
    simp only [List.mem_cons, List.not_mem_nil, or_false] at hy'
    rcases hy' with rfl | rfl | rfl | rfl <;> exact nofun
  · simp only [List.mem_cons, List.not_mem_nil, or_false] at hy
    rcases hy with rfl | rfl
    · exact l1
    · exact l2
  have ns1 : ([(("self" : Str), Value.ref e), (x, v)] : List (Str × Value)).reverse.lookup ("self" : Str) = some (Value.ref e) := by
    have e1 : (("self" : Str) == x) = false := by simpa using Ne.symm hx1
    simp [List.lookup, e1]
  have ns2 : ([(("self" : Str), Value.ref e), (x, v)] : List (Str × Value)).reverse.lookup x = some v := by
    simp [List.lookup]
  have X0 : K.In h0 := X1.keeps hk0
  have hx0 := hk0 _ _ hget
  have f1 : interactive (callEnv (fnX name qual params [.Expr (.Call (.Attribute (.Call (.Name "super" p0) [] [] p1) "__init__" p2) [.Constant (.str z) kz pz] [] p3) p4, .Assign [.Attribute (.Name "self" q1) f q2] (.Name x q3) q4] scope [("__class__", cc)] .none kV doc pm an (.ref cda) ct) H1.objs.size fI) = false := by
    unfold interactive
    first
      | rfl
      | (show (_ && _) = false; simp [callEnv, newEnv, sk]; done)
      | (simp [callEnv, newEnv, sk]; done)
  have f2 : ∀ y, (callEnv (fnX name qual params [.Expr (.Call (.Attribute (.Call (.Name "super" p0) [] [] p1) "__init__" p2) [.Constant (.str z) kz pz] [] p3) p4, .Assign [.Attribute (.Name "self" q1) f q2] (.Name x q3) q4] scope [("__class__", cc)] .none kV doc pm an (.ref cda) ct) H1.objs.size fI).kindOf y = scope.names.lookup y := fun y => rfl
  have f3 : (callEnv (fnX name qual params [.Expr (.Call (.Attribute (.Call (.Name "super" p0) [] [] p1) "__init__" p2) [.Constant (.str z) kz pz] [] p3) p4, .Assign [.Attribute (.Name "self" q1) f q2] (.Name x q3) q4] scope [("__class__", cc)] .none kV doc pm an (.ref cda) ct) H1.objs.size fI).scope = scope := rfl
  have f4 : (callEnv (fnX name qual params [.Expr (.Call (.Attribute (.Call (.Name "super" p0) [] [] p1) "__init__" p2) [.Constant (.str z) kz pz] [] p3) p4, .Assign [.Attribute (.Name "self" q1) f q2] (.Name x q3) q4] scope [("__class__", cc)] .none kV doc pm an (.ref cda) ct) H1.objs.size fI).func = some fI := rfl
  have f5 : (callEnv (fnX name qual params [.Expr (.Call (.Attribute (.Call (.Name "super" p0) [] [] p1) "__init__" p2) [.Constant (.str z) kz pz] [] p3) p4, .Assign [.Attribute (.Name "self" q1) f q2] (.Name x q3) q4] scope [("__class__", cc)] .none kV doc pm an (.ref cda) ct) H1.objs.size fI).code = .ref cda := rfl
  have f6 : (callEnv (fnX name qual params [.Expr (.Call (.Attribute (.Call (.Name "super" p0) [] [] p1) "__init__" p2) [.Constant (.str z) kz pz] [] p3) p4, .Assign [.Attribute (.Name "self" q1) f q2] (.Name x q3) q4] scope [("__class__", cc)] .none kV doc pm an (.ref cda) ct) H1.objs.size fI).cells.lookup ("__class__" : Str) = some cc := rfl
  have f7 : (callEnv (fnX name qual params [.Expr (.Call (.Attribute (.Call (.Name "super" p0) [] [] p1) "__init__" p2) [.Constant (.str z) kz pz] [] p3) p4, .Assign [.Attribute (.Name "self" q1) f q2] (.Name x q3) q4] scope [("__class__", cc)] .none kV doc pm an (.ref cda) ct) H1.objs.size fI).locals = H1.objs.size := rfl
  have f8 : (callEnv (fnX name qual params [.Expr (.Call (.Attribute (.Call (.Name "super" p0) [] [] p1) "__init__" p2) [.Constant (.str z) kz pz] [] p3) p4, .Assign [.Attribute (.Name "self" q1) f q2] (.Name x q3) q4] scope [("__class__", cc)] .none kV doc pm an (.ref cda) ct) H1.objs.size fI).globals = mainGlobals := rfl
  have f9 : (callEnv (fnX name qual params [.Expr (.Call (.Attribute (.Call (.Name "super" p0) [] [] p1) "__init__" p2) [.Constant (.str z) kz pz] [] p3) p4, .Assign [.Attribute (.Name "self" q1) f q2] (.Name x q3) q4] scope [("__class__", cc)] .none kV doc pm an (.ref cda) ct) H1.objs.size fI).builtins = builtinsNs := rfl
  revert f1 f2 f3 f4 f5 f6 f7 f8 f9
  show _ → _ → _ → _ → _ → _ → _ → _ → _ → _root_.PySem.wpAt (model prog w) (A.deeper (callEnv (fnX name qual params [.Expr (.Call (.Attribute (.Call (.Name "super" p0) [] [] p1) "__init__" p2) [.Constant (.str z) kz pz] [] p3) p4, .Assign [.Attribute (.Name "self" q1) f q2] (.Name x q3) q4] scope [("__class__", cc)] .none kV doc pm an (.ref cda) ct) H1.objs.size fI)) _ _ _ _ _
  generalize (callEnv (fnX name qual params [.Expr (.Call (.Attribute (.Call (.Name "super" p0) [] [] p1) "__init__" p2) [.Constant (.str z) kz pz] [] p3) p4, .Assign [.Attribute (.Name "self" q1) f q2] (.Name x q3) q4] scope [("__class__", cc)] .none kV doc pm an (.ref cda) ct) H1.objs.size fI) = env
  intro f1 f2 f3 f4 f5 f6 f7 f8 f9
  obtain ⟨pl, hev⟩ := heval env
  have sk' : env.scope.kind = .function := by rw [f3]; exact sk
  refine ks_wpAt_execs_cons (ks_wpAt_Expr_any (ks_wpAt_MethodCall (pl := pl) ?_ hev) f1 (hsw1 _))
  refine ks_wpAt_super_base ((f2 _).trans l4) ((f2 _).trans l3) (by decide) f4 (X0 _ _ hfn) rfl hhead f5 (X0 _ _ hcda) rfl hvs hfile T.htop ?_
  obtain ⟨mb, hmb1, hmb2⟩ := B
  refine ks_loadName_global sk' ((f2 _).trans l4) (loadGlobal_builtin (by rw [f8]; exact G.keeps hk0) (mg_none_of X1 G T.sup) (by rw [f9]; exact hmb1.keeps hk0) ((hmb2 _ (by decide)).trans PyProof.Rows.Boot.«super») ⟨rfl, ?_⟩)
  refine wpAny_loadName_free sk' ((f2 _).trans l3) f6 ⟨_, X0 _ _ hcc, rfl⟩ ?_
  rw [har]
  have hns' : h0.Ns env.locals (fun x_1 => ([(("self" : Str), Value.ref e), (x, v)] : List (Str × Value)).reverse.lookup x_1) := by rw [f7]; exact hns
  refine wpAny_loadName_local sk' ((f2 _).trans l1) hns' ns1 ?_
  refine ks_wpAny_isType_cls (X0 _ _ hC) rfl ⟨rfl, ?_⟩
  refine ks_wpAny_call_super (X0 _ _ hC) rfl hx0 rfl (fun c e => by cases e) (looks_mroIn X0 T.sC) (fun h1 e1 kh1 => ?_)
  have X2 : K.In h1 := X0.keeps kh1
  have hx1' := kh1 _ _ hx0
  have I1 : InstAt h1 e (PySem.HandSPX.excO C t0) C none := ⟨hx1', rfl, rfl, trivial⟩
  have hksi := T.ksi
  unfold ks_superIn at hksi
  rw [hcl] at hksi
  refine kxs_getMethod kxs_ValueError e1 (looks_opaque X2 T.opq) (l₀ := .ref C :: bm) (fun A Q E s k q => wpAny_bind ((looks_clsIn X2 hcl) A _ E s k (wpAny_pure q))) rfl X2 hksi (I1.type.andThen (looks_subIn X2 T.sB)) (ks_ne X2 I1 hcl) (by decide) ?_
  have k2 : ∀ b o, h1.get? b = some o → (h1.push (kxs_mw "ValueError.__init__" e)).get? b = some o := fun b o e => Heap.get?_push_of_some _ e
  have hu : (h1.push (kxs_mw "ValueError.__init__" e)).get? h1.objs.size = some (kxs_mw "ValueError.__init__" e) := Heap.get?_push_size _ rfl
  have hx2' := k2 _ _ hx1'
  have X3 : K.In (h1.push (kxs_mw "ValueError.__init__" e)) := X2.keeps k2
  have hns2 : (h1.push (kxs_mw "ValueError.__init__" e)).Ns env.locals (fun x_1 => ([(("self" : Str), Value.ref e), (x, v)] : List (Str × Value)).reverse.lookup x_1) := hns'.keeps fun b o e => k2 b o (kh1 b o e)
  have kall : ∀ b o, H1.get? b = some o → (h1.push (kxs_mw "ValueError.__init__" e)).get? b = some o := fun b o e => k2 b o (kh1 b o (hk0 b o e))
  generalize (h1.push (kxs_mw "ValueError.__init__" e)) = H2 at k2 hu hx2' X3 hns2 kall ⊢
  refine kxs_callWith (i := "ValueError.__init__") (x := e) (by rw [hst]; rfl) ?_
  rw [hst]
  refine evalArgs_plain (spliced_cons (Calls.Constant_str (k := kz) (pos := pz) (spliced_nil ⟨hu, ?_⟩)))
  refine call_mw (K := K) (X3 _ _ hC) hx2' hu (by show 1 ≤ sizeLine; rw [sizeLine_eq]; decide) fun h3 t1 k3 e3 => ?_
  have hle : e < H1.objs.size := Heap.lt_size hget
  have xK : ∀ b o, b ≠ e → H1.get? b = some o → h3.get? b = some o := fun b o ne z => k3 b o ne (kall b o z)
  have X4 : K.In h3 := X3' h3 xK
  have hns3 : h3.Ns env.locals (fun x_1 => ([(("self" : Str), Value.ref e), (x, v)] : List (Str × Value)).reverse.lookup x_1) := by
    obtain ⟨oL, es, ep, hL, r⟩ := hns2
    exact ⟨oL, es, ep, k3 _ _ (by rw [f7]; exact Nat.ne_of_gt hle) hL, r⟩
  refine ks_wpAt_execs_cons (wpAt_of_wpAny (plainObj_wpAny_Assign_Attribute ?_ (hsw2 _)))
  refine wpAny_Name (wpAny_loadName_local sk' ((f2 _).trans l2) hns3 ns2 ?_) hx4
  refine wpAny_Name (wpAny_loadName_local sk' ((f2 _).trans l1) hns3 ns1 ?_)
  refine set_plain X4 (ox := PySem.HandSPX.excO C t1) (od := none) ⟨e3, rfl, rfl, trivial⟩ T.oex.sa ?_
  refine PySem.HandSPX.exc_osa X4 e3 hcl (show PySem.HandSPX.refsVE (.ref C :: bm) = true from hbm) rfl T.no (fun h' tk' dx k dn dne hx hn => ?_)
  refine wpAt_of_wpAny (wpAny_execs_nil ?_)
  refine hq h' tk' dx t1 (fun b o ne z => k b o ne (xK b o ne z)) (Nat.le_trans ?_ dn) dne hx hn
  obtain ⟨oL, es, ep, hL, _⟩ := hns3
  rw [f7] at hL
  exact Nat.le_of_lt (Heap.lt_size hL)
theorem call_ini (T : IniC K prog C f x) (X : K.In hp) (nl : hp.NoLimit) (G : hp.Ns mainGlobals mg) (B : ∃ mb, hp.Ns builtinsNs mb ∧ ∀ x : Str, x ≠ "__name__" → mb x = bootBuiltins x)
    (room : (A.under (.builtin "type.__call__" ⟨[.ref C, v], []⟩)).depth < recursionLimit)
    (hq : ∀ h' tk' a dx t1, (∀ b o, hp.get? b = some o → h'.get? b = some o) → hp.objs.size ≤ a → hp.objs.size ≤ dx → dx ≠ a → h'.get? a = some ({ cls := .ref C, dict := some dx, data := .fields #[.ref t1, .none, .none, .none, .bool false, .none] } : Obj) →
      h'.Ns1 dx (fun y => if y = f then some v else none) → Q (.ref a) ⟨h', g, d, tk', os⟩) :
    wpAny (model prog w) A (call (.ref C) [v]) Q E ⟨hp, g, d, t, os⟩ := by
  obtain ⟨nm, q, N, bs, bm, sn, sub, ab, col, dd, k0, k1, k2, k3, k5, hC, hbm⟩ := id T.oex.cls
  obtain ⟨st, fI, cc, cda, name, qual, kV, doc, pm, ct, oc, ccl, cl, an, od, cdd, cld, osl, ccs, csl, vs, file, tf, TS, iC, tI, hrest⟩ := id T.ini
  refine wpAny_call (PySem.HandSPX.call_own PySem.F.excBase_ValueError (fun Y => PySem.HandSPX.refsVE_contains Y bm hbm) (X _ _ hC) (looks_findIn X iC) (fun self => bind_fn X self tI) (by show 1 ≤ sizeLine; rw [sizeLine_eq]; decide) ?_)
  have kk : ∀ b o, hp.get? b = some o → ((hp.push (kdv_tup [v])).push (PySem.HandSPX.excO C hp.objs.size)).get? b = some o := fun b o e => Heap.get?_push_of_some _ (Heap.get?_push_of_some _ e)
  have hget : ((hp.push (kdv_tup [v])).push (PySem.HandSPX.excO C hp.objs.size)).get? (hp.objs.size + 1) = some (PySem.HandSPX.excO C hp.objs.size) := by heap_get
  generalize ((hp.push (kdv_tup [v])).push (PySem.HandSPX.excO C hp.objs.size)) = H1 at kk hget ⊢
  refine ini_run T (X.keeps kk) (fun h' k => X.keeps fun b o e => k b o (Nat.ne_of_lt (Nat.lt_succ_of_lt (Heap.lt_size e))) (kk b o e)) (nl.keeps kk) (G.keeps kk) (let ⟨mb, h1, h2⟩ := B; ⟨mb, h1.keeps kk, h2⟩) room hget iC (.inl rfl) fun h' tk' dx t1 k ld ne hx hn => ⟨rfl, ?_⟩
  exact hq h' tk' (hp.objs.size + 1) dx t1 (fun b o e => k b o (Nat.ne_of_lt (Nat.lt_succ_of_lt (Heap.lt_size e))) (kk b o e)) (Nat.le_succ _) (Nat.le_trans (Nat.le_of_lt (Nat.lt_of_succ_lt (Heap.lt_size hget))) ld) ne hx hn
end
end DL
/-! DLR1: such an error made by C(f = v). -/
namespace DL
section
open PySem PySem.HandSPX Builtin Builtin.ObjectAttr
section
variable {M : Model} {A : Around} {E : Value → Shared → Prop} {h : Heap} {g : Array GenState} {d : Drawn} {t : Nat} {os : OsState}
variable {nm q : Str} {C N : Addr} {bs bm bmB : List Value} {hdct : Bool} {sn : List Str} {sub : List Value} {ab : Bool} {col : Option Bool} {dd : Option Addr} {k0 k1 k2 k3 k5 : Option Value} {B newId initId : String} {kw : List (Str × Value)}
theorem check_new_ownK (F : ExcBaseFacts B newId initId bmB) (hT : ∀ X : String, bm.contains (.type X) = bmB.contains (.type X)) {rest : List Value} {Q : Unit → Shared → Prop}
    (hC : h.get? C = some (excClassObj nm q C N bs bm hdct sn sub ab col dd k0 k1 k2 k3 k5 newId)) (hq : Q () ⟨h, g, d, t, os⟩) : wpAny M A (checkBuiltinCall newId ⟨.ref C :: rest, kw⟩) Q E ⟨h, g, d, t, os⟩ := by
  have hcont : (Value.ref C :: bm).contains (.type B) = true := by rw [List.contains_cons, hT, F.hasB, Bool.or_true]
  have hstar := F.noStar
  simp only [checkBuiltinCall, F.newKind, F.newSplit, F.newRow]
  repeat (first | refine wpAny_loadPart_at hC ?_ | (refine wpAny_isSubtype_exc hC ?_; rw [hcont]) | refine wpAny_staticBase_exc hC ?_ | refine wpAny_madeBy_exc hC ?_ | simp only [bne_self_eq_false, Bool.false_eq_true, if_false] | wp_step)
  exact hq
end
section
variable {prog : Program} {w : World} {A : Around} {E : Value → Shared → Prop} {R : Result → Shared → Prop} {h : Heap} {g : Array GenState} {d : Drawn} {t : Nat} {os : OsState}
variable {nm q : Str} {C N : Addr} {bs bm bmB : List Value} {hdct : Bool} {sn : List Str} {sub : List Value} {ab : Bool} {col : Option Bool} {dd : Option Addr} {k0 k1 k2 k3 k5 : Option Value} {B newId initId : String} {kw : List (Str × Value)}
theorem new_ownK (F : ExcBaseFacts B newId initId bmB) (hT : ∀ X : String, bm.contains (.type X) = bmB.contains (.type X)) {rest : List Value}
    (hC : h.get? C = some (excClassObj nm q C N bs bm hdct sn sub ab col dd k0 k1 k2 k3 k5 newId))
    (hq : R (.ok (.ret (.ref (h.objs.size + 1)))) ⟨(h.push { cls := .type "tuple", data := .seq rest.toArray }).push
      { cls := .ref C, data := .fields #[.ref h.objs.size, .none, .none, .none, .bool false, .none] }, g, d, t, os⟩) (hrest : rest.length ≤ sizeLine) :
    codeAny (model prog w) A (.builtin newId ⟨.ref C :: rest, kw⟩) R ⟨h, g, d, t, os⟩ := by
  have hends := F.ends
  have hcB : (Value.ref C :: bm).contains (.type B) = true := by rw [List.contains_cons, hT, F.hasB, Bool.or_true]
  have hcA : (Value.ref C :: bm).contains (.type "AttributeError") = false := by rw [List.contains_cons, hT, F.noAttr]; rfl
  have hcN : (Value.ref C :: bm).contains (.type "NameError") = false := by rw [List.contains_cons, hT, F.noName]; rfl
  refine codeAny_builtinAt F.entry ?_
  unfold Builtin.«BaseException.__new__»
  refine wpAt_bind ?_
  show wpAt _ _ _ (stack >>= _) _ _ _
  refine wpAt_bind (wpAt_stack fun p below => wpAt_of_wpAny ?_)
  wp_walk
  refine wpAt_of_wpAny ?_
  rw [F.owner]
  repeat (first | with_reducible refine wpAny_madeHere_exc F.canon hC ?_ | with_reducible refine wpAny_loadPart_at hC ?_ | (with_reducible refine wpAny_isSubtype_exc hC ?_; first | rw [hcB] | rw [hcA] | rw [hcN]) | wp_step)
  show R _ _
  rw [Heap.size_push]
  exact hq

theorem type_call_ownK (F : ExcBaseFacts B newId initId bmB) (hT : ∀ X : String, bm.contains (.type X) = bmB.contains (.type X)) {rest : List Value} {fI : Addr} {Q : Fin → Shared → Prop}
    (hC : h.get? C = some (excClassObj nm q C N bs bm hdct sn sub ab col dd k0 k1 k2 k3 k5 newId))
    (hi : W.Looks (model prog w) h (typeLookup (.ref C) "__init__") (some (.ref fI))) (hb : ∀ self, W.Looks (model prog w) h (bindSpecial (.ref fI) self) (.ref fI, [self])) (hrest : rest.length ≤ sizeLine)
    (hq : codeAny (model prog w) A (.call (.ref fI) ⟨.ref (h.objs.size + 1) :: rest, kw⟩)
      (fun r s' => match r with | .ok (.ret v) => v = .none ∧ Q (.done (.ret (.ref (h.objs.size + 1)))) s' | .ok _ => False | .error e => E e s')
      ⟨(h.push (W.kdv_tup rest)).push (PySem.HandSPX.excO C h.objs.size), g, d, t, os⟩) :
    wpAny (model prog w) A (Builtin.«type.__call__» ⟨.ref C :: rest, kw⟩) Q E ⟨h, g, d, t, os⟩ := by
  repeat (first | with_reducible refine wpAny_loadPart_at hC ?_ | with_reducible refine wpAny_madeBy_exc hC ?_ | wp_step)
  refine codeAny_call_builtin_code (Code.quiet_builtin _ F.quiet) (check_new_ownK F hT hC ?_)
  refine new_ownK F hT hC ?_ hrest
  show wpAny _ _ _ _ _ _
  have k : ∀ b o, h.get? b = some o → ((h.push (W.kdv_tup rest)).push (PySem.HandSPX.excO C h.objs.size)).get? b = some o := fun b o e => Heap.get?_push_of_some _ (Heap.get?_push_of_some _ e)
  have hC₁ := k _ _ hC
  have hget : ((h.push (W.kdv_tup rest)).push (PySem.HandSPX.excO C h.objs.size)).get? (h.objs.size + 1) = some (PySem.HandSPX.excO C h.objs.size) := by heap_get
  have hcC : (Value.ref C :: bm).contains (.ref C) = true := by simp
  have i1 := hi.keeps k
  have b1 := (hb (.ref (h.objs.size + 1))).keeps k
  unfold isInstance
  repeat (first | with_reducible refine wpAny_loadPart_at hget ?_ | (with_reducible refine wpAny_isSubtype_exc hC₁ ?_; rw [hcC]) | wp_step)
  show wpAny _ _ (typeLookup (.ref C) _) _ _ _
  refine i1.at ?_
  refine wpAny_holding (wpAny_bind (b1.at ?_))
  refine wpAny_bind (wpAny_call (codeAny_mono hq fun r s' z => ?_))
  rcases r with e | (v | _ | _ | _) <;> first | exact z | exact z.elim | skip
  obtain ⟨rfl, z⟩ := z
  first
    | exact wpAny_pure (wpAny_pure z)
    | (wp_walk; exact z)

theorem call_ownK (F : ExcBaseFacts B newId initId bmB) (hT : ∀ X : String, bm.contains (.type X) = bmB.contains (.type X)) {rest : List Value} {fI : Addr}
    (hC : h.get? C = some (excClassObj nm q C N bs bm hdct sn sub ab col dd k0 k1 k2 k3 k5 newId))
    (hi : W.Looks (model prog w) h (typeLookup (.ref C) "__init__") (some (.ref fI))) (hb : ∀ self, W.Looks (model prog w) h (bindSpecial (.ref fI) self) (.ref fI, [self])) (hrest : rest.length ≤ sizeLine)
    (hq : codeAny (model prog w) (A.under (.builtin "type.__call__" ⟨.ref C :: rest, kw⟩)) (.call (.ref fI) ⟨.ref (h.objs.size + 1) :: rest, kw⟩) (W.InitBack (h.objs.size + 1) R)
      ⟨(h.push (W.kdv_tup rest)).push (PySem.HandSPX.excO C h.objs.size), g, d, t, os⟩) :
    codeAny (model prog w) A (.call (.ref C) ⟨rest, kw⟩) R ⟨h, g, d, t, os⟩ := by
  have f1 := tc_lookup
  have f2 := tc_bind (.ref C)
  have hTy : (⟨h, g, d, t, os⟩ : Shared).TypeIs (.ref C) "type" := ⟨_, hC, rfl⟩
  refine codeAny_of_tree ?_
  show wpAny _ _ (callAny (.ref C) _) _ _ _
  repeat (any_goals (first | assumption | with_reducible refine wpAny_loadPart_at hC ?_ | wp_step))
  refine ⟨rfl, ?_⟩
  refine codeAny_call_builtin_at (Code.quiet_builtin _ (by decide +kernel)) entry_typeCall (wpAny_check_type_call_sub hC (type_call_ownK F hT hC hi hb hrest ?_))
  refine codeAny_mono hq fun r s' z => ?_
  rcases r with e | (v | _ | _ | _) <;> exact z

end
end
section
open PySem PySem.W PySem.Calls PyProof.Rows
variable {prog : Program} {w : World} {A : Around} {E : Value → Shared → Prop} {hp : Heap} {g : Array GenState} {d : Drawn} {t : Nat} {os : OsState} {K : Frag} {C : Addr} {f x : Str} {v : Value} {mg : Str → Option Value} {Q : Value → Shared → Prop}
theorem call_iniK (T : IniC K prog C f x) (X : K.In hp) (nl : hp.NoLimit) (G : hp.Ns mainGlobals mg) (B : ∃ mb, hp.Ns builtinsNs mb ∧ ∀ x : Str, x ≠ "__name__" → mb x = bootBuiltins x)
    (room : (A.under (.builtin "type.__call__" ⟨[.ref C], [(x, v)]⟩)).depth < recursionLimit)
    (hq : ∀ h' tk' a dx t1, (∀ b o, hp.get? b = some o → h'.get? b = some o) → hp.objs.size ≤ a → hp.objs.size ≤ dx → dx ≠ a → h'.get? a = some ({ cls := .ref C, dict := some dx, data := .fields #[.ref t1, .none, .none, .none, .bool false, .none] } : Obj) →
      h'.Ns1 dx (fun y => if y = f then some v else none) → Q (.ref a) ⟨h', g, d, tk', os⟩) :
    wpAny (model prog w) A (call (.ref C) [] [(x, v)]) Q E ⟨hp, g, d, t, os⟩ := by
  obtain ⟨nm, q, N, bs, bm, sn, sub, ab, col, dd, k0, k1, k2, k3, k5, hC, hbm⟩ := id T.oex.cls
  obtain ⟨st, fI, cc, cda, name, qual, kV, doc, pm, ct, oc, ccl, cl, an, od, cdd, cld, osl, ccs, csl, vs, file, tf, TS, iC, tI, hrest⟩ := id T.ini
  refine wpAny_call (call_ownK PySem.F.excBase_ValueError (fun Y => PySem.HandSPX.refsVE_contains Y bm hbm) (X _ _ hC) (looks_findIn X iC) (fun self => bind_fn X self tI) (by show 0 ≤ sizeLine; rw [sizeLine_eq]; decide) ?_)
  have kk : ∀ b o, hp.get? b = some o → ((hp.push (kdv_tup [])).push (PySem.HandSPX.excO C hp.objs.size)).get? b = some o := fun b o e => Heap.get?_push_of_some _ (Heap.get?_push_of_some _ e)
  have hget : ((hp.push (kdv_tup [])).push (PySem.HandSPX.excO C hp.objs.size)).get? (hp.objs.size + 1) = some (PySem.HandSPX.excO C hp.objs.size) := by heap_get
  generalize ((hp.push (kdv_tup [])).push (PySem.HandSPX.excO C hp.objs.size)) = H1 at kk hget ⊢
  refine ini_run T (X.keeps kk) (fun h' k => X.keeps fun b o e => k b o (Nat.ne_of_lt (Nat.lt_succ_of_lt (Heap.lt_size e))) (kk b o e)) (nl.keeps kk) (G.keeps kk) (let ⟨mb, h1, h2⟩ := B; ⟨mb, h1.keeps kk, h2⟩) room hget iC (.inr rfl) fun h' tk' dx t1 k ld ne hx hn => ⟨rfl, ?_⟩
  exact hq h' tk' (hp.objs.size + 1) dx t1 (fun b o e => k b o (Nat.ne_of_lt (Nat.lt_succ_of_lt (Heap.lt_size e))) (kk b o e)) (Nat.le_succ _) (Nat.le_trans (Nat.le_of_lt (Nat.lt_of_succ_lt (Heap.lt_size hget))) ld) ne hx hn
end
end DL
/-! DLT6: E(x) for a class of errors with an __init__ of its own. -/
namespace DL
open PySem PySem.Spec PyProof.Rows L2
section
variable {X : Cx} {W : WX}
theorem laid2 {pins : List (Addr × Obj)} {σ : L2.St} {H : Hp} {s : Shared} {h' : Heap} {t' : Nat} {a b : Addr} {o u : HO} (I : L2.Inv X pins σ H s) (k : ∀ b u, s.heap.get? b = some u → h'.get? b = some u) (ha : s.heap.objs.size ≤ a) (hb : s.heap.objs.size ≤ b) (ne : b ≠ a)
    (na : ObjOk X.prog X.w (upd (upd H b u) a o) h' a o) (nb : ObjOk X.prog X.w (upd (upd H b u) a o) h' b u) : L2.Inv X pins σ (upd (upd H b u) a o) { s with heap := h', toks := t' } := by
  have hna : H a = none := I.hok.fresh ha
  have hnb : H b = none := I.hok.fresh hb
  have up : ∀ {c : Addr}, c ≠ a → c ≠ b → upd (upd H b u) a o c = H c := fun h1 h2 => by rw [upd_ne h1, upd_ne h2]
  have old : ∀ {c : Addr} {x : HO}, H c = some x → upd (upd H b u) a o c = some x := fun {c x} q => by rw [up (ne_of_none q hna) (ne_of_none q hnb)]; exact q
  have neh : ∀ {c : Addr} {x : Obj}, s.heap.get? c = some x → c ≠ a ∧ c ≠ b := fun {c x} q => ⟨Nat.ne_of_lt (Nat.lt_of_lt_of_le (Heap.lt_size q) ha), Nat.ne_of_lt (Nat.lt_of_lt_of_le (Heap.lt_size q) hb)⟩
  refine I.un (t' := t') { keep := fun c x q _ _ _ => k c x q, slot := fun c x q _ _ _ => ⟨x.slots, k c x q⟩, free := fun c x q n _ => by rw [up (neh q).1 (neh q).2]; exact n, there := fun c x q _ => ⟨x, k c x q⟩, tups := fun c xs q => old q, frzs := fun c x v q => old q, tbls := fun c ps q => ⟨#[], by rw [old q]; simp⟩ } fun c x q => ?_
  by_cases h1 : c = a
  · subst h1
    rw [upd_same] at q
    cases q
    exact na
  · rw [upd_ne h1] at q
    by_cases h2 : c = b
    · subst h2
      rw [upd_same] at q
      cases q
      exact nb
    · rw [upd_ne h2] at q
      exact (I.hok c x q).stay (fun c v _ z => k c v z) (fun c z => old z) fun c xs z => old z
/-- E(v) or E(x = v): the error and its dict stand -/
def tIni (C : Addr) (f : Str) (t : TE) : TE := fun σ H Q => t σ H fun v H1 => ∀ (a dx : Addr) (od oe : Obj), H1 a = none → H1 dx = none → dx ≠ a → Zc (.ref C) (some dx) oe → (∃ vs, oe.data = Data.fields vs) → Q (V.ref a) (upd (upd H1 dx (.frz od (.xd [(f, v)]))) a (excO oe))
theorem ini_end {pins : List (Addr × Obj)} {σ : L2.St} {H1 : Hp} {hp h' : Heap} {gg : Array GenState} {dd : Drawn} {tt tk' : Nat} {oo : OsState} {C a dx t1 : Addr} {f : Str} {v : V} {u : Value} {Q : VK} (I1 : L2.Inv X pins σ H1 ⟨hp, gg, dd, tt, oo⟩) (r1 : RelV v u) (kk : ∀ b o, hp.get? b = some o → h'.get? b = some o) (la : hp.objs.size ≤ a) (ld : hp.objs.size ≤ dx) (ne : dx ≠ a)
    (ea : h'.get? a = some ({ cls := .ref C, dict := some dx, data := .fields #[.ref t1, .none, .none, .none, .bool false, .none] } : Obj)) (en : h'.Ns1 dx (fun y => if y = f then some u else none))
    (q1 : ∀ (a dx : Addr) (od oe : Obj), H1 a = none → H1 dx = none → dx ≠ a → Zc (.ref C) (some dx) oe → (∃ vs, oe.data = Data.fields vs) → Q (V.ref a) (upd (upd H1 dx (.frz od (.xd [(f, v)]))) a (excO oe))) :
    EP X pins σ Q (.ref a) ⟨h', gg, dd, tk', oo⟩ := by
  obtain ⟨od, es, ep, ho, hr'⟩ := id en
  have na : ∀ H2, ObjOk X.prog X.w H2 h' a (excO ({ cls := .ref C, dict := some dx, data := .fields #[.ref t1, .none, .none, .none, .bool false, .none] } : Obj)) := fun H2 => by
    simp only [ObjOk]
    exact ⟨ea, trivial, ⟨_, ea⟩, fun _ _ _ _ => trivial⟩
  have nb : ∀ H2, ObjOk X.prog X.w H2 h' dx (.frz od (.xd [(f, v)])) := fun H2 => by
    simp only [ObjOk]
    refine ⟨ho, _, en, fun y => ?_⟩
    rw [lookup_put]
    by_cases z : y = f
    · rw [if_pos z, if_pos z]; exact r1
    · rw [if_neg z, if_neg z]; exact trivial
  exact ⟨V.ref a, _, laid2 (t' := tk') I1 kk la ld ne (na _) (nb _), rfl, q1 a dx od _ (I1.hok.fresh la) (I1.hok.fresh ld) ne ⟨rfl, rfl⟩ ⟨_, rfl⟩⟩
theorem pe_ini {k : Nat} {C : Addr} {c f x : Str} {e : Expr} {t : TE} {p pos : Pos} (T : IniC X.K X.prog C f x) (hr : GRoom k X.A) (hm : X.mg c = some (.ref C)) (h : PE X e t) (hg : Gl X c := by rfl)
    (hs : starEach [e] X.env = (false, eval e X.env) :: starEach [] X.env := by rfl) (hd : (c == ("__debug__" : Str)) = false := by decide) : PE X (.Call (.Name c p) [e] [] pos) (tIni C f t) := by
  refine ⟨fun pins s0 σ H Q I q => ?_⟩
  refine wpAny_Call_Name_kw (ld_glob I hg hm ?_ hd)
  refine PySem.W.callWith_K (h₀ := X.base) I.ok.mod.kin T.oex.kC ?_ hs (by rfl)
  rw [hs]
  show wpAny _ _ (spliced ((false, eval e X.env) :: backTo pos (starEach [] X.env))) _ _ s0
  refine Calls.spliced_cons (thn (h.run pins s0 σ H _ I q) fun u s1 ⟨v, H1, I1, r1, q1⟩ => ?_)
  refine Calls.spliced_nil ⟨I1.kIn, ?_⟩
  show wpAny _ _ (call (.ref C) [u]) _ _ _
  obtain ⟨hp, gg, dd, tt, oo⟩ := s1
  refine call_ini T I1.kIn I1.nolimit (I1.mod.glob.keeps I1.bk) (let ⟨mb, h1, h2⟩ := I1.mod.blt; ⟨mb, h1.keeps I1.bk, h2⟩) ?_ fun h' tk' a dx t1 kk la ld ne ea en => ini_end I1 r1 kk la ld ne ea en q1
  have := hr.room.dp
  rw [make_depth]
  omega
def rIni (C : Addr) (f : Str) : Rl := fun vs H1 Q => match vs with
  | [v] => ∀ (a dx : Addr) (od oe : Obj), H1 a = none → H1 dx = none → dx ≠ a → Zc (.ref C) (some dx) oe → (∃ vs, oe.data = Data.fields vs) → Q (V.ref a) (upd (upd H1 dx (.frz od (.xd [(f, v)]))) a (excO oe))
  | _ => False
theorem pe_iniK {k : Nat} {C : Addr} {c f x : Str} {kw : Keyword} {t : TA} {p pos : Pos} (T : IniC X.K X.prog C f x) (hr : GRoom k X.A) (hm : X.mg c = some (.ref C)) (h : PK X [kw] t) (hg : Gl X c := by rfl) (hd : (c == ("__debug__" : Str)) = false := by decide)
    (hall : (backToKw pos (keywordEach [kw] X.env)).all (·.1.isSome) = true := by rfl) (hks : (backToKw pos (keywordEach [kw] X.env)).filterMap (·.1) = [x] := by rfl)
    (hpl : ((backTo pos (starEach [] X.env)).any (·.1) || (backToKw pos (keywordEach [kw] X.env)).any (·.1.isNone)) = false := by rfl) :
    PE X (.Call (.Name c p) [] [kw] pos) (fun σ H Q => t σ H fun vs H1 => rIni C f vs H1 Q) := by
  refine ⟨fun pins s0 σ H Q I q => ?_⟩
  refine wpAny_Call_Name_kw (ld_glob I hg hm ?_ hd)
  refine PySem.W.callWith_KW0 (h₀ := X.base) I.ok.mod.kin T.oex.kC hall ?_ hpl
  refine thn (h.run pos pins s0 σ H _ I q) fun ws s1 ⟨zs, H1, I1, rz, q1⟩ => ⟨I1.kIn, ?_⟩
  rw [hks]
  cases rz with
  | nil => exact q1.elim
  | @cons v u _ _ r1 rr =>
  cases rr with
  | cons _ _ => exact q1.elim
  | nil =>
  obtain ⟨hp, gg, dd, tt, oo⟩ := s1
  show wpAny _ _ (call (.ref C) [] [(x, u)]) _ _ _
  refine call_iniK T I1.kIn I1.nolimit (I1.mod.glob.keeps I1.bk) (let ⟨mb, h1, h2⟩ := I1.mod.blt; ⟨mb, h1.keeps I1.bk, h2⟩) ?_ fun h' tk' a dx t1 kk la ld ne ea en => ini_end I1 r1 kk la ld ne ea en q1
  have := hr.room.dp
  rw [make_depth]
  omega
theorem rep_ini {F : Fz} {H1 : Hp} {a dx C : Addr} {od oe : Obj} {c f : Str} {v : V} {x : D} (hn : PySem.W.nsIn X.K mainGlobals c = some (some (.ref C))) (ha : H1 a = none) (hd : H1 dx = none) (ne : dx ≠ a) (hz : Zc (.ref C) (some dx) oe) (hf : ∃ vs, oe.data = Data.fields vs) (r : Rep X.K F H1 x v) :
    Same H1 (upd (upd H1 dx (.frz od (.xd [(f, v)]))) a (excO oe)) ∧ Rep X.K F (upd (upd H1 dx (.frz od (.xd [(f, v)]))) a (excO oe)) (.exc c [.str f, x]) (.ref a) := by
  have sm : Same H1 (upd (upd H1 dx (.frz od (.xd [(f, v)]))) a (excO oe)) := fun b x e => by
    rw [upd_ne (ne_of_none e ha), upd_ne (ne_of_none e hd)]
    exact e
  exact ⟨sm, [.str f, v], a, oe, _, C, some dx, ⟨_, _, rfl, rfl, _, _, rfl, rep_same sm r, RepL.nil⟩, ⟨dx, od, [(f, v)], rfl, by rw [upd_ne ne, upd_same], ⟨_, _, _, _, rfl, rfl, rfl, rfl⟩⟩, rfl, upd_same, hn, hz, hf⟩
theorem e_excI {k : Nat} {C : Addr} {c f x : Str} {e : Expr} {m : DE} {p pos : Pos} (T : IniC X.K X.prog C f x) (hr : GRoom k X.A)
    (hn : PySem.W.nsIn X.K mainGlobals c = some (some (.ref C))) (hm : X.mg c = some (.ref C)) (ha : DEv X W e m) (hg : Gl X c := by rfl)
    (hs : starEach [e] X.env = (false, eval e X.env) :: starEach [] X.env := by rfl) (hd : (c == ("__debug__" : Str)) = false := by decide) : DEv X W (.Call (.Name c p) [e] [] pos) (dExcV c m) := by
  obtain ⟨t, h, s⟩ := ha
  refine ⟨_, pe_ini T hr hm h hg hs hd, fun O F σ H env Q st g => ?_⟩
  refine s O F σ H env _ st ?_
  unfold dExcV at g
  cases q : m env with
  | bad => rw [q] at g; exact g.elim
  | err x e => rw [q] at g; exact g
  | ok r env1 =>
    rw [q] at g
    intro F1 H1 v E1 s1 rep a dx od oe ha hdx ne hz hf
    have sm : Same H1 (upd (upd H1 dx (.frz od (.xd [(f, v)]))) a (excO oe)) := fun b x e => by
      rw [upd_ne (ne_of_none e ha), upd_ne (ne_of_none e hdx)]
      exact e
    refine g F1 _ _ (E1.trans (Ext.same sm s1.odom)) (s1.same sm) ⟨[], a, oe, _, C, some dx, RepL.nil, fun dy ey => ?_, rfl, upd_same, hn, hz, hf⟩
    cases ey
    exact ⟨od, _, by rw [upd_ne ne, upd_same]⟩
/-- the same, the field known -/
def pExcF (c f : Str) : Pr := fun ds => match ds with
  | [.lst _] => none
  | [d] => some (.d (.exc c [.str f, d]))
  | _ => none
theorem pr_excF {C : Addr} {c f : Str} (hn : PySem.W.nsIn X.K mainGlobals c = some (some (.ref C))) : PrimR X.K (pExcF c f) (rIni C f) := fun F H ds vs Q pr fd rt e q => by
  unfold pExcF at e
  split at e
  · cases e
  · rename_i d hd
    cases e
    obtain ⟨v, _, rfl, h1, rfl⟩ := rt
    have h2 : Rep X.K F H d v := by
      cases d with
      | lst ds => exact absurd rfl (hd ds)
      | _ => exact h1
    intro a dx od oe ha hdx ne hz hf
    obtain ⟨sm, rp⟩ := rep_ini (X := X) (od := od) (f := f) hn ha hdx ne hz hf h2
    exact q _ _ sm rp
  · cases e
theorem e_excF {k : Nat} {C : Addr} {c f x : Str} {e : Expr} {o : Opd} {p pos : Pos} (T : IniC X.K X.prog C f x) (hr : GRoom k X.A)
    (hn : PySem.W.nsIn X.K mainGlobals c = some (some (.ref C))) (hm : X.mg c = some (.ref C)) (ha : DOp X W e o) (hg : Gl X c := by rfl)
    (hs : starEach [e] X.env = (false, eval e X.env) :: starEach [] X.env := by rfl) (hd : (c == ("__debug__" : Str)) = false := by decide) : DEv X W (.Call (.Name c p) [e] [] pos) (dPrim (pExcF c f) [o]) := by
  obtain ⟨t, h, s⟩ := ha
  exact ⟨_, pe_ini T hr hm h hg hs hd, sem_prim (asem1 s) (pr_excF hn)⟩
/-- E(x = v) -/
theorem e_excFK {k : Nat} {C : Addr} {c f x : Str} {kw : Keyword} {o : Opd} {p pos : Pos} (T : IniC X.K X.prog C f x) (hr : GRoom k X.A)
    (hn : PySem.W.nsIn X.K mainGlobals c = some (some (.ref C))) (hm : X.mg c = some (.ref C)) (ha : DKs X W [kw] [o]) (hg : Gl X c := by rfl) (hd : (c == ("__debug__" : Str)) = false := by decide)
    (hall : (backToKw pos (keywordEach [kw] X.env)).all (·.1.isSome) = true := by rfl) (hks : (backToKw pos (keywordEach [kw] X.env)).filterMap (·.1) = [x] := by rfl)
    (hpl : ((backTo pos (starEach [] X.env)).any (·.1) || (backToKw pos (keywordEach [kw] X.env)).any (·.1.isNone)) = false := by rfl) :
    DEv X W (.Call (.Name c p) [] [kw] pos) (dPrim (pExcF c f) [o]) := by
  obtain ⟨t, h, s⟩ := ha
  exact ⟨_, pe_iniK T hr hm h hg hd hall hks hpl, sem_prim s (pr_excF hn)⟩
/-! ### e.f -/
def fldD : List D → Str → Option D
  | .str g :: x :: r, f => if f = g then some x else fldD r f
  | _, _ => none
theorem fld_of {K : PySem.W.Frag} {F : Fz} {H : Hp} {f : Str} {x : D} : ∀ {fs : List D} {fv : List V} {r : List (Str × V)}, RepL K F H fs fv → FldV fs fv r → fldD fs f = some x → ∃ v, r.lookup f = some v ∧ Rep K F H x v
  | [], _, _, _, _, e => by cases e
  | [.str g], _, _, _, _, e => by cases e
  | .str g :: y :: ds, fv, r, rl, fl, e => by
    obtain ⟨u, v, vs', r', rfl, rfl, fl'⟩ := fl
    obtain ⟨_, _, e1, _, _, _, e2, ry, rl'⟩ := rl
    cases e1
    cases e2
    unfold fldD at e
    rw [lookup_put]
    by_cases z : f = g
    · rw [if_pos z] at e ⊢
      cases e
      exact ⟨_, rfl, ry⟩
    · rw [if_neg z] at e ⊢
      exact fld_of rl' fl' e
  | .non :: _, _, _, _, fl, _ => fl.elim
  | .bl _ :: _, _, _, _, fl, _ => fl.elim
  | .int _ :: _, _, _, _, fl, _ => fl.elim
  | .lst _ :: _, _, _, _, fl, _ => fl.elim
  | .tup _ :: _, _, _, _, fl, _ => fl.elim
  | .fz _ :: _, _, _, _, fl, _ => fl.elim
  | .exc _ _ :: _, _, _, _, fl, _ => fl.elim
  | .pr _ _ :: _, _, _, _, fl, _ => fl.elim
  | .rng _ _ :: _, _, _, _, fl, _ => fl.elim
def pFld (c f : Str) : Pr := fun ds => match ds with
  | [.exc g (y :: ys)] => if g = c then (fldD (y :: ys) f).map PR.d else none
  | _ => none
def rFld (C : Addr) (f : Str) : Rl := fun vs H Q => match vs with
  | [v] => ∃ (a dx : Addr) (o od : Obj) (u : HO) (r : List (Str × V)) (w : V), v = .ref a ∧ H a = some (.frz o u) ∧ Zc (.ref C) (some dx) o ∧ (∃ vs, o.data = Data.fields vs) ∧ H dx = some (.frz od (.xd r)) ∧ r.lookup f = some w ∧ Q w H
  | _ => False
theorem pr_fld {C : Addr} {c f : Str} (hn : PySem.W.nsIn X.K mainGlobals c = some (some (.ref C))) : PrimR X.K (pFld c f) (rFld C f) := fun F H ds vs Q pr fd rt e q => by
  unfold pFld at e
  split at e
  · rename_i g y ys
    split at e
    · rename_i hg
      subst hg
      cases q1 : fldD (y :: ys) f with
      | none => rw [q1] at e; cases e
      | some x =>
        rw [q1] at e
        cases e
        obtain ⟨v, _, rfl, h1, rfl⟩ := rt
        obtain ⟨fv, a, o, u, C', d, rfv, hfd, rfl, ha, hn', hz, hv⟩ := h1
        rw [hn] at hn'
        cases hn'
        obtain ⟨dx, od, r, rfl, hdx, hfl⟩ := hfd
        obtain ⟨w, hw, rw'⟩ := fld_of rfv hfl q1
        exact ⟨a, dx, o, od, u, r, w, rfl, ha, hz, hv, hdx, hw, q H _ (Same.refl _) rw'⟩
    · cases e
  · cases e
theorem e_fld {C : Addr} {c f x : Str} {e : Expr} {o : Opd} {pos : Pos} (T : IniC X.K X.prog C f x) (E : L2.ExcC X.K C) (hn : PySem.W.nsIn X.K mainGlobals c = some (some (.ref C))) (ha : DOp X W e o) (hb : attributeBase e f X.env (eval e X.env) = eval e X.env := by rfl) :
    DEv X W (.Attribute e f pos) (dPrim (pFld c f) [o]) := by
  obtain ⟨t, h, s⟩ := ha
  refine ⟨fun σ H Q => t σ H fun v H1 => rFld C f [v] H1 Q, ⟨fun pins s0 σ H Q I q => ?_⟩, sem_prim (asem1 s) (pr_fld hn)⟩
  refine attr_of hb (thn (h.run pins s0 σ H _ I q) fun u s1 hh => ?_)
  obtain ⟨x1, H1, I1, rx, a, dx, oe, od, u', r, w, ex, ha, hz, ⟨vs, hd⟩, hdx, l, q⟩ := hh
  subst ex
  obtain rfl : u = Value.ref a := rx
  have g1 := I1.hok a _ ha
  have g2 := I1.hok dx _ hdx
  simp only [ObjOk] at g1 g2
  obtain ⟨ho, mA, hns, hr⟩ := g2
  obtain ⟨od', ho', hl⟩ := lookIn_ns hns
  rw [ho] at ho'
  cases ho'
  obtain ⟨u, hu, ru⟩ := RelO.some_of (v := w) (o := mA f) (by rw [← l]; exact hr f)
  have J : PySem.W.InstAt s1.heap a oe C (some od) := ⟨g1.1, hz.1, by unfold PySem.W.notCls; rw [hd] <;> rfl, by rw [hz.2]; exact ho⟩
  exact HandSPX.exc_get I1.kIn J E.hg E.hk E.hs (PySem.W.findObj_own E.hd T.no rfl (by rw [hl, hu])) (handed_of ru) ⟨w, H1, I1.tok _, ru, q⟩
end
end DL
namespace My
open PySem PySem.Spec PyProof.Rows L2 DL
/-- _law_fill -/
def m__law_fill : DS := dRet (dPrim pLst [.v (dPrim pMax [.v (dC (.int 0)), .v (dPrim pSub [.s 0, .v (dPrim pPow [.v (dC (.int 10)), .v (dC (.int 18))])])]), .v (dPrim pMod [.v (dPrim pIntOf [.s 0]), .v (dC (.int 2147483587))]), .v (dC (.int 0))])
def f__law_fill : DFn := dDef false 1 1 m__law_fill
/-- _law_pull -/
def m__law_pull : DS := dSeq (dIfS (dTst (dPrim pGt [.v (dPrim pIx [.s 0, .v (dC (.int 0))]), .v (dC (.int 0))])) (dSeq (dSet 2 (dPrim pMod [.v (dPrim pIntOf [.v (dPrim pIx [.s 0, .v (dC (.int 0))])]), .s 1])) (dSeq (dSetIx 0 [.v (dC (.int 0))] (dPrim pFdiv [.v (dPrim pIx [.s 0, .v (dC (.int 0))]), .s 1])) (dRetV 2))) (dNext)) (dSeq (dSetIx 0 [.v (dC (.int 2))] (dPrim pAdd [.v (dPrim pIx [.s 0, .v (dC (.int 2))]), .v (dC (.int 1))])) (dSeq (dSet 3 (dPrim pMod [.v (dPrim pIntOf [.v (dPrim pAdd [.v (dPrim pAdd [.v (dPrim pIx [.s 0, .v (dC (.int 1))]), .v (dPrim pMul [.v (dPrim pMul [.v (dC (.int 104729)), .v (dPrim pIx [.s 0, .v (dC (.int 2))])]), .v (dPrim pIx [.s 0, .v (dC (.int 2))])])]), .v (dPrim pMul [.v (dC (.int 31)), .v (dPrim pIx [.s 0, .v (dC (.int 2))])])])]), .v (dC (.int 2147483629))])) (dSeq (dSet 3 (dPrim pMod [.v (dPrim pIntOf [.v (dPrim pAdd [.v (dPrim pAdd [.v (dPrim pMul [.s 3, .s 3]), .v (dPrim pMul [.v (dC (.int 48271)), .v (dPrim pIx [.s 0, .v (dC (.int 2))])])]), .v (dC (.int 5))])]), .v (dC (.int 2147483563))])) (dSeq (dSet 3 (dPrim pMod [.v (dPrim pIntOf [.v (dPrim pMul [.s 3, .s 3])]), .v (dC (.int 2147483399))])) (dRet (dPrim pMod [.v (dPrim pIntOf [.v (dPrim pFdiv [.s 3, .v (dC (.int 16))])]), .s 1]))))))
def f__law_pull : DFn := dDef true 2 4 m__law_pull
/-- _law_each -/
def m__law_each : DS := dSeq (dSet 3 (dPrim pLst [.v (dExcV "InvalidTree" (dVar 0)), .v (dExcV "InvalidLocale" (dVar 0)), .v (dExcV "InvalidWishes" (dVar 0)), .v (dExcV "InvalidWay" (dVar 0)), .v (dExcV "InvalidCatalog" (dVar 0))])) (dSeq (dSet 3 (dPrim pAdd [.s 3, .v (dPrim pLst [.v (dExcV "InvalidKey" (dVar 0)), .v (dExcV "InvalidText" (dVar 0)), .v (dExcV "InvalidPage" (dVar 0)), .v (dExcV "InvalidDoor" (dVar 0)), .v (dExcV "InvalidChoice" (dVar 0))])])) (dSeq (dSet 3 (dPrim pAdd [.s 3, .v (dPrim pLst [.v (dExcV "InvalidIndex" (dVar 0)), .v (dExcV "Unlike" (dVar 0)), .v (dExcV "Needless" (dVar 0)), .v (dExcV "NothingThere" (dVar 0)), .v (dExcV "NoBlock" (dVar 0))])])) (dSeq (dSet 3 (dPrim pAdd [.s 3, .v (dPrim pLst [.v (dExcV "NothingToUndo" (dVar 0)), .v (dExcV "InvalidCommand" (dVar 0)), .v (dPrim (pExcF "Mixed" "wishes") [.s 1]), .v (dPrim (pExcF "InvalidWords" "place") [.s 2])])])) (dRetV 3))))
def f__law_each : DFn := dDef false 3 4 m__law_each
/-- _law_stands_under -/
def m__law_stands_under : DS := dSeq (dSet 1 (dPrim pAdd [.v (dPrim pMul [.v (dPrim pLst [.v (dC (.int 0))]), .v (dPrim pIntOf [.v (dPrim (pIsO ["InvalidTree", "InvalidLocale", "InvalidWishes", "InvalidWay", "InvalidCatalog", "InvalidKey", "InvalidText", "InvalidPage", "InvalidDoor", "InvalidChoice", "InvalidIndex", "Unlike", "Needless", "NothingThere", "NoBlock", "NothingToUndo", "InvalidCommand", "Mixed", "InvalidWords", "WishError"] "InvalidTree" false) [.s 0])])]), .v (dPrim pMul [.v (dPrim pLst [.v (dC (.int 1))]), .v (dPrim pIntOf [.v (dPrim (pIsO ["InvalidTree", "InvalidLocale", "InvalidWishes", "InvalidWay", "InvalidCatalog", "InvalidKey", "InvalidText", "InvalidPage", "InvalidDoor", "InvalidChoice", "InvalidIndex", "Unlike", "Needless", "NothingThere", "NoBlock", "NothingToUndo", "InvalidCommand", "Mixed", "InvalidWords", "WishError"] "InvalidLocale" false) [.s 0])])])])) (dSeq (dSet 1 (dPrim pAdd [.v (dPrim pAdd [.s 1, .v (dPrim pMul [.v (dPrim pLst [.v (dC (.int 2))]), .v (dPrim pIntOf [.v (dPrim (pIsO ["InvalidTree", "InvalidLocale", "InvalidWishes", "InvalidWay", "InvalidCatalog", "InvalidKey", "InvalidText", "InvalidPage", "InvalidDoor", "InvalidChoice", "InvalidIndex", "Unlike", "Needless", "NothingThere", "NoBlock", "NothingToUndo", "InvalidCommand", "Mixed", "InvalidWords", "WishError"] "InvalidWishes" false) [.s 0])])])]), .v (dPrim pMul [.v (dPrim pLst [.v (dC (.int 3))]), .v (dPrim pIntOf [.v (dPrim (pIsO ["InvalidTree", "InvalidLocale", "InvalidWishes", "InvalidWay", "InvalidCatalog", "InvalidKey", "InvalidText", "InvalidPage", "InvalidDoor", "InvalidChoice", "InvalidIndex", "Unlike", "Needless", "NothingThere", "NoBlock", "NothingToUndo", "InvalidCommand", "Mixed", "InvalidWords", "WishError"] "InvalidWay" false) [.s 0])])])])) (dSeq (dSet 1 (dPrim pAdd [.v (dPrim pAdd [.s 1, .v (dPrim pMul [.v (dPrim pLst [.v (dC (.int 4))]), .v (dPrim pIntOf [.v (dPrim (pIsO ["InvalidTree", "InvalidLocale", "InvalidWishes", "InvalidWay", "InvalidCatalog", "InvalidKey", "InvalidText", "InvalidPage", "InvalidDoor", "InvalidChoice", "InvalidIndex", "Unlike", "Needless", "NothingThere", "NoBlock", "NothingToUndo", "InvalidCommand", "Mixed", "InvalidWords", "WishError"] "InvalidCatalog" false) [.s 0])])])]), .v (dPrim pMul [.v (dPrim pLst [.v (dC (.int 5))]), .v (dPrim pIntOf [.v (dPrim (pIsO ["InvalidTree", "InvalidLocale", "InvalidWishes", "InvalidWay", "InvalidCatalog", "InvalidKey", "InvalidText", "InvalidPage", "InvalidDoor", "InvalidChoice", "InvalidIndex", "Unlike", "Needless", "NothingThere", "NoBlock", "NothingToUndo", "InvalidCommand", "Mixed", "InvalidWords", "WishError"] "InvalidKey" false) [.s 0])])])])) (dSeq (dSet 1 (dPrim pAdd [.v (dPrim pAdd [.s 1, .v (dPrim pMul [.v (dPrim pLst [.v (dC (.int 6))]), .v (dPrim pIntOf [.v (dPrim (pIsO ["InvalidTree", "InvalidLocale", "InvalidWishes", "InvalidWay", "InvalidCatalog", "InvalidKey", "InvalidText", "InvalidPage", "InvalidDoor", "InvalidChoice", "InvalidIndex", "Unlike", "Needless", "NothingThere", "NoBlock", "NothingToUndo", "InvalidCommand", "Mixed", "InvalidWords", "WishError"] "InvalidText" false) [.s 0])])])]), .v (dPrim pMul [.v (dPrim pLst [.v (dC (.int 7))]), .v (dPrim pIntOf [.v (dPrim (pIsO ["InvalidTree", "InvalidLocale", "InvalidWishes", "InvalidWay", "InvalidCatalog", "InvalidKey", "InvalidText", "InvalidPage", "InvalidDoor", "InvalidChoice", "InvalidIndex", "Unlike", "Needless", "NothingThere", "NoBlock", "NothingToUndo", "InvalidCommand", "Mixed", "InvalidWords", "WishError"] "InvalidPage" false) [.s 0])])])])) (dSeq (dSet 1 (dPrim pAdd [.v (dPrim pAdd [.s 1, .v (dPrim pMul [.v (dPrim pLst [.v (dC (.int 8))]), .v (dPrim pIntOf [.v (dPrim (pIsO ["InvalidTree", "InvalidLocale", "InvalidWishes", "InvalidWay", "InvalidCatalog", "InvalidKey", "InvalidText", "InvalidPage", "InvalidDoor", "InvalidChoice", "InvalidIndex", "Unlike", "Needless", "NothingThere", "NoBlock", "NothingToUndo", "InvalidCommand", "Mixed", "InvalidWords", "WishError"] "InvalidDoor" false) [.s 0])])])]), .v (dPrim pMul [.v (dPrim pLst [.v (dC (.int 9))]), .v (dPrim pIntOf [.v (dPrim (pIsO ["InvalidTree", "InvalidLocale", "InvalidWishes", "InvalidWay", "InvalidCatalog", "InvalidKey", "InvalidText", "InvalidPage", "InvalidDoor", "InvalidChoice", "InvalidIndex", "Unlike", "Needless", "NothingThere", "NoBlock", "NothingToUndo", "InvalidCommand", "Mixed", "InvalidWords", "WishError"] "InvalidChoice" false) [.s 0])])])])) (dSeq (dSet 1 (dPrim pAdd [.v (dPrim pAdd [.s 1, .v (dPrim pMul [.v (dPrim pLst [.v (dC (.int 10))]), .v (dPrim pIntOf [.v (dPrim (pIsO ["InvalidTree", "InvalidLocale", "InvalidWishes", "InvalidWay", "InvalidCatalog", "InvalidKey", "InvalidText", "InvalidPage", "InvalidDoor", "InvalidChoice", "InvalidIndex", "Unlike", "Needless", "NothingThere", "NoBlock", "NothingToUndo", "InvalidCommand", "Mixed", "InvalidWords", "WishError"] "InvalidIndex" false) [.s 0])])])]), .v (dPrim pMul [.v (dPrim pLst [.v (dC (.int 11))]), .v (dPrim pIntOf [.v (dPrim (pIsO ["InvalidTree", "InvalidLocale", "InvalidWishes", "InvalidWay", "InvalidCatalog", "InvalidKey", "InvalidText", "InvalidPage", "InvalidDoor", "InvalidChoice", "InvalidIndex", "Unlike", "Needless", "NothingThere", "NoBlock", "NothingToUndo", "InvalidCommand", "Mixed", "InvalidWords", "WishError"] "Unlike" false) [.s 0])])])])) (dSeq (dSet 1 (dPrim pAdd [.v (dPrim pAdd [.s 1, .v (dPrim pMul [.v (dPrim pLst [.v (dC (.int 12))]), .v (dPrim pIntOf [.v (dPrim (pIsO ["InvalidTree", "InvalidLocale", "InvalidWishes", "InvalidWay", "InvalidCatalog", "InvalidKey", "InvalidText", "InvalidPage", "InvalidDoor", "InvalidChoice", "InvalidIndex", "Unlike", "Needless", "NothingThere", "NoBlock", "NothingToUndo", "InvalidCommand", "Mixed", "InvalidWords", "WishError"] "Needless" false) [.s 0])])])]), .v (dPrim pMul [.v (dPrim pLst [.v (dC (.int 13))]), .v (dPrim pIntOf [.v (dPrim (pIsO ["InvalidTree", "InvalidLocale", "InvalidWishes", "InvalidWay", "InvalidCatalog", "InvalidKey", "InvalidText", "InvalidPage", "InvalidDoor", "InvalidChoice", "InvalidIndex", "Unlike", "Needless", "NothingThere", "NoBlock", "NothingToUndo", "InvalidCommand", "Mixed", "InvalidWords", "WishError"] "NothingThere" false) [.s 0])])])])) (dSeq (dSet 1 (dPrim pAdd [.v (dPrim pAdd [.s 1, .v (dPrim pMul [.v (dPrim pLst [.v (dC (.int 14))]), .v (dPrim pIntOf [.v (dPrim (pIsO ["InvalidTree", "InvalidLocale", "InvalidWishes", "InvalidWay", "InvalidCatalog", "InvalidKey", "InvalidText", "InvalidPage", "InvalidDoor", "InvalidChoice", "InvalidIndex", "Unlike", "Needless", "NothingThere", "NoBlock", "NothingToUndo", "InvalidCommand", "Mixed", "InvalidWords", "WishError"] "NoBlock" false) [.s 0])])])]), .v (dPrim pMul [.v (dPrim pLst [.v (dC (.int 15))]), .v (dPrim pIntOf [.v (dPrim (pIsO ["InvalidTree", "InvalidLocale", "InvalidWishes", "InvalidWay", "InvalidCatalog", "InvalidKey", "InvalidText", "InvalidPage", "InvalidDoor", "InvalidChoice", "InvalidIndex", "Unlike", "Needless", "NothingThere", "NoBlock", "NothingToUndo", "InvalidCommand", "Mixed", "InvalidWords", "WishError"] "NothingToUndo" false) [.s 0])])])])) (dSeq (dSet 1 (dPrim pAdd [.v (dPrim pAdd [.s 1, .v (dPrim pMul [.v (dPrim pLst [.v (dC (.int 16))]), .v (dPrim pIntOf [.v (dPrim (pIsO ["InvalidTree", "InvalidLocale", "InvalidWishes", "InvalidWay", "InvalidCatalog", "InvalidKey", "InvalidText", "InvalidPage", "InvalidDoor", "InvalidChoice", "InvalidIndex", "Unlike", "Needless", "NothingThere", "NoBlock", "NothingToUndo", "InvalidCommand", "Mixed", "InvalidWords", "WishError"] "InvalidCommand" false) [.s 0])])])]), .v (dPrim pMul [.v (dPrim pLst [.v (dC (.int 17))]), .v (dPrim pIntOf [.v (dPrim (pIsO ["InvalidTree", "InvalidLocale", "InvalidWishes", "InvalidWay", "InvalidCatalog", "InvalidKey", "InvalidText", "InvalidPage", "InvalidDoor", "InvalidChoice", "InvalidIndex", "Unlike", "Needless", "NothingThere", "NoBlock", "NothingToUndo", "InvalidCommand", "Mixed", "InvalidWords", "WishError"] "Mixed" false) [.s 0])])])])) (dSeq (dSet 1 (dPrim pAdd [.s 1, .v (dPrim pMul [.v (dPrim pLst [.v (dC (.int 18))]), .v (dPrim pIntOf [.v (dPrim (pIsO ["InvalidTree", "InvalidLocale", "InvalidWishes", "InvalidWay", "InvalidCatalog", "InvalidKey", "InvalidText", "InvalidPage", "InvalidDoor", "InvalidChoice", "InvalidIndex", "Unlike", "Needless", "NothingThere", "NoBlock", "NothingToUndo", "InvalidCommand", "Mixed", "InvalidWords", "WishError"] "InvalidWords" false) [.s 0])])])])) (dSeq (dIfS (dOr (dNot (dTst (dPrim (pIsO ["InvalidTree", "InvalidLocale", "InvalidWishes", "InvalidWay", "InvalidCatalog", "InvalidKey", "InvalidText", "InvalidPage", "InvalidDoor", "InvalidChoice", "InvalidIndex", "Unlike", "Needless", "NothingThere", "NoBlock", "NothingToUndo", "InvalidCommand", "Mixed", "InvalidWords", "WishError"] "WishError" true) [.s 0]))) (dNot (dTst (dPrim (pIsO ["InvalidTree", "InvalidLocale", "InvalidWishes", "InvalidWay", "InvalidCatalog", "InvalidKey", "InvalidText", "InvalidPage", "InvalidDoor", "InvalidChoice", "InvalidIndex", "Unlike", "Needless", "NothingThere", "NoBlock", "NothingToUndo", "InvalidCommand", "Mixed", "InvalidWords", "WishError"] "ValueError" true) [.s 0])))) (dDrop (dMut mApp 1 [.v (dC (.int 99))])) (dNext)) (dRetV 1)))))))))))
def f__law_stands_under : DFn := dDef false 1 2 m__law_stands_under
/-- _law_same -/
def m__law_same : DS := dRet (dAndV (dTst (dPrim pEq [.s 0, .s 1])) (dPrim pEq [.v (dPrim pRepr [.s 0]), .v (dPrim pRepr [.s 1])]))
def f__law_same : DFn := dDef false 2 2 m__law_same
/-- law -/
def m_law : DS := dSeq (dForI (iSeq (dPrim pAdd [.v (dPrim pLst [.v (dPrim pAdd [.v (dPrim pPow [.v (dC (.int 199)), .v (dC (.int 26))]), .v (dC (.int 4))])]), .v (dSlice pSlice (.s 0) none (some (dC (.int 4))))])) (gSet 1) (dSeq (dSet 2 (dCall f__law_fill [.v (dVar 1)])) (dSeq (dSet 3 (dPrim pTupOf [.v (dComp [6] (iArgs rng1 [.v (dCallR f__law_pull 2 [.v (dC (.int 41))])]) (gSet 6) (dYes) (dCallR f__law_pull 2 [.v (dC (.int 10))]))])) (dSeq (dSet 4 (dCallR f__law_pull 2 [.v (dPrim pPow [.v (dC (.int 10)), .v (dC (.int 30))])])) (dSeq (dSet 5 (dCall f__law_each [.v (dPrim pAdd [.v (dC (.str "the word ")), .v (dPrim pStrOf [.s 4])]), .v (dVar 3), .v (dVar 4)])) (dSeq (dForI (iArgs rng1 [.v (dC (.int 19))]) (gSet 6) (dIfS (dTst (dPrim pNe [.v (dCall f__law_stands_under [.v (dPrim pIx [.s 5, .s 6])]), .v (dPrim pLst [.v (dVar 6)])])) (dRet (dC (.bl false))) (dNext))) (dSeq (dIfS (dOr (dNot (dTst (dCall f__law_same [.v (dPrim (pFld "Mixed" "wishes") [.v (dPrim pIx [.s 5, .v (dC (.int 17))])]), .v (dVar 3)]))) (dNot (dTst (dCall f__law_same [.v (dPrim (pFld "InvalidWords" "place") [.v (dPrim pIx [.s 5, .v (dC (.int 18))])]), .v (dVar 4)])))) (dRet (dC (.bl false))) (dNext)) (dIfS (dOr (dTst (dPrim pNe [.v (dPrim (pFld "Mixed" "wishes") [.v (dPrim (pExcF "Mixed" "wishes") [.s 3])]), .s 3])) (dTst (dPrim pNe [.v (dPrim (pFld "InvalidWords" "place") [.v (dPrim (pExcF "InvalidWords" "place") [.s 4])]), .s 4]))) (dRet (dC (.bl false))) (dNext))))))))) (dRet (dPrim pEqE [.v (dCall f__law_stands_under [.v (dExcV "WishError" (dC (.str "a")))]), .v (dPrim pLst [])]))
def f_law : DFn := dDef false 1 7 m_law
end My
namespace My
open PySem PySem.Spec PyProof.Rows L2 DL
def topS (i : Nat) : Stmt := PySem.Challenge.pw_wishedtongues_k00_error_classes.main.body.getD i (.Pass ⟨0, 0, 0, 0⟩)
def N__law_fill : List Str := ["cell"]
theorem sc__law_fill : FnScope N__law_fill ["cell"] (defScope (topS 22)) := ⟨rfl, rfl, rfl, by decide +kernel, rfl, by decide +kernel, by decide +kernel⟩
def N__law_pull : List Str := ["jar", "size", "digit", "stir"]
theorem sc__law_pull : FnScope N__law_pull ["jar", "size"] (defScope (topS 23)) := ⟨rfl, rfl, rfl, by decide +kernel, rfl, by decide +kernel, by decide +kernel⟩
def N__law_each : List Str := ["text", "asks", "number", "made"]
theorem sc__law_each : FnScope N__law_each ["text", "asks", "number"] (defScope (topS 26)) := ⟨rfl, rfl, rfl, by decide +kernel, rfl, by decide +kernel, by decide +kernel⟩
def N__law_stands_under : List Str := ["caught", "found"]
theorem sc__law_stands_under : FnScope N__law_stands_under ["caught"] (defScope (topS 24)) := ⟨rfl, rfl, rfl, by decide +kernel, rfl, by decide +kernel, by decide +kernel⟩
def N__law_same : List Str := ["told", "due"]
theorem sc__law_same : FnScope N__law_same ["told", "due"] (defScope (topS 25)) := ⟨rfl, rfl, rfl, by decide +kernel, rfl, by decide +kernel, by decide +kernel⟩
def N_law : List Str := ["script", "cell", "jar", "asks", "number", "made", "k"]
theorem sc_law : FnScope N_law ["script"] (defScope (topS 27)) := ⟨rfl, rfl, rfl, by decide +kernel, rfl, by decide +kernel, by decide +kernel⟩
def iniS_Mixed : Stmt := (clsB (topS 19)).getD 0 (.Pass ⟨0, 0, 0, 0⟩)
theorem is_Mixed : IniS iniS_Mixed "wishes" "wishes" := ⟨⟨_, _, _, _, _, _, _, _, _, _, _, _, rfl, fun env => ⟨_, rfl⟩, fun env => rfl, fun env => rfl, fun env => rfl⟩, rfl, rfl, rfl, rfl, ⟨_, rfl, rfl⟩, fun _ _ _ _ _ _ _ _ _ _ _ => rfl, fun _ _ _ _ _ _ _ _ _ _ _ => rfl, by decide⟩
def iniS_InvalidWords : Stmt := (clsB (topS 20)).getD 0 (.Pass ⟨0, 0, 0, 0⟩)
theorem is_InvalidWords : IniS iniS_InvalidWords "place" "place" := ⟨⟨_, _, _, _, _, _, _, _, _, _, _, _, rfl, fun env => ⟨_, rfl⟩, fun env => rfl, fun env => rfl, fun env => rfl⟩, rfl, rfl, rfl, rfl, ⟨_, rfl, rfl⟩, fun _ _ _ _ _ _ _ _ _ _ _ => rfl, fun _ _ _ _ _ _ _ _ _ _ _ => rfl, by decide⟩
structure Txt (P : Program) (K : PySem.W.Frag) (mg : Str → Option Value) where
  a__law_fill : Addr
  fd__law_fill : FuncData
  F__law_fill : FunV K "_law_fill" "_law_fill" (topS 22) a__law_fill fd__law_fill
  g__law_fill : mg "_law_fill" = some (.ref a__law_fill)
  b__law_fill : Binds K fd__law_fill ["cell"] []
  a__law_pull : Addr
  fd__law_pull : FuncData
  F__law_pull : FunV K "_law_pull" "_law_pull" (topS 23) a__law_pull fd__law_pull
  g__law_pull : mg "_law_pull" = some (.ref a__law_pull)
  b__law_pull : Binds K fd__law_pull ["jar", "size"] []
  a__law_each : Addr
  fd__law_each : FuncData
  F__law_each : FunV K "_law_each" "_law_each" (topS 26) a__law_each fd__law_each
  g__law_each : mg "_law_each" = some (.ref a__law_each)
  b__law_each : Binds K fd__law_each ["text", "asks", "number"] []
  a__law_stands_under : Addr
  fd__law_stands_under : FuncData
  F__law_stands_under : FunV K "_law_stands_under" "_law_stands_under" (topS 24) a__law_stands_under fd__law_stands_under
  g__law_stands_under : mg "_law_stands_under" = some (.ref a__law_stands_under)
  b__law_stands_under : Binds K fd__law_stands_under ["caught"] []
  a__law_same : Addr
  fd__law_same : FuncData
  F__law_same : FunV K "_law_same" "_law_same" (topS 25) a__law_same fd__law_same
  g__law_same : mg "_law_same" = some (.ref a__law_same)
  b__law_same : Binds K fd__law_same ["told", "due"] []
  a_law : Addr
  fd_law : FuncData
  F_law : FunV K "law" "law" (topS 27) a_law fd_law
  g_law : mg "law" = some (.ref a_law)
  b_law : Binds K fd_law ["script"] []
  m_ValueError : mg "ValueError" = none
  m_int : mg "int" = none
  m_isinstance : mg "isinstance" = none
  m_max : mg "max" = none
  m_range : mg "range" = none
  m_repr : mg "repr" = none
  m_str : mg "str" = none
  m_tuple : mg "tuple" = none
  x_WishError : XcT K mg "WishError"
  x_InvalidTree : XcT K mg "InvalidTree"
  x_InvalidLocale : XcT K mg "InvalidLocale"
  x_InvalidWishes : XcT K mg "InvalidWishes"
  x_InvalidWay : XcT K mg "InvalidWay"
  x_InvalidCatalog : XcT K mg "InvalidCatalog"
  x_InvalidKey : XcT K mg "InvalidKey"
  x_InvalidText : XcT K mg "InvalidText"
  x_InvalidPage : XcT K mg "InvalidPage"
  x_InvalidDoor : XcT K mg "InvalidDoor"
  x_InvalidChoice : XcT K mg "InvalidChoice"
  x_InvalidIndex : XcT K mg "InvalidIndex"
  x_Unlike : XcT K mg "Unlike"
  x_Needless : XcT K mg "Needless"
  x_NothingThere : XcT K mg "NothingThere"
  x_NoBlock : XcT K mg "NoBlock"
  x_NothingToUndo : XcT K mg "NothingToUndo"
  x_InvalidCommand : XcT K mg "InvalidCommand"
  x_Mixed : XcT K mg "Mixed"
  x_InvalidWords : XcT K mg "InvalidWords"
  xr_InvalidTree : XcR K x_InvalidTree.C
  xr_InvalidLocale : XcR K x_InvalidLocale.C
  xr_InvalidWishes : XcR K x_InvalidWishes.C
  xr_InvalidWay : XcR K x_InvalidWay.C
  xr_InvalidCatalog : XcR K x_InvalidCatalog.C
  xr_InvalidKey : XcR K x_InvalidKey.C
  xr_InvalidText : XcR K x_InvalidText.C
  xr_InvalidPage : XcR K x_InvalidPage.C
  xr_InvalidDoor : XcR K x_InvalidDoor.C
  xr_InvalidChoice : XcR K x_InvalidChoice.C
  xr_InvalidIndex : XcR K x_InvalidIndex.C
  xr_Unlike : XcR K x_Unlike.C
  xr_Needless : XcR K x_Needless.C
  xr_NothingThere : XcR K x_NothingThere.C
  xr_NoBlock : XcR K x_NoBlock.C
  xr_NothingToUndo : XcR K x_NothingToUndo.C
  xr_InvalidCommand : XcR K x_InvalidCommand.C
  xr_Mixed : IniC K P x_Mixed.C "wishes" "wishes"
  xr_InvalidWords : IniC K P x_InvalidWords.C "place" "place"
  xr_WishError : XcR K x_WishError.C
  xe : ∀ c ∈ (["InvalidTree", "InvalidLocale", "InvalidWishes", "InvalidWay", "InvalidCatalog", "InvalidKey", "InvalidText", "InvalidPage", "InvalidDoor", "InvalidChoice", "InvalidIndex", "Unlike", "Needless", "NothingThere", "NoBlock", "NothingToUndo", "InvalidCommand", "Mixed", "InvalidWords", "WishError"] : List Str), ∀ C, PySem.W.nsIn K mainGlobals c = some (some (.ref C)) → L2.ExcC K C
  xt : ∀ c ∈ (["InvalidTree", "InvalidLocale", "InvalidWishes", "InvalidWay", "InvalidCatalog", "InvalidKey", "InvalidText", "InvalidPage", "InvalidDoor", "InvalidChoice", "InvalidIndex", "Unlike", "Needless", "NothingThere", "NoBlock", "NothingToUndo", "InvalidCommand", "Mixed", "InvalidWords", "WishError"] : List Str), ∀ C, PySem.W.nsIn K mainGlobals c = some (some (.ref C)) → PySem.W.typeIn K (.ref C) = some (.type "type")
  xy_WishError : YT K ["InvalidTree", "InvalidLocale", "InvalidWishes", "InvalidWay", "InvalidCatalog", "InvalidKey", "InvalidText", "InvalidPage", "InvalidDoor", "InvalidChoice", "InvalidIndex", "Unlike", "Needless", "NothingThere", "NoBlock", "NothingToUndo", "InvalidCommand", "Mixed", "InvalidWords", "WishError"] "WishError" true (.ref x_WishError.C)
  xy_InvalidTree : YT K ["InvalidTree", "InvalidLocale", "InvalidWishes", "InvalidWay", "InvalidCatalog", "InvalidKey", "InvalidText", "InvalidPage", "InvalidDoor", "InvalidChoice", "InvalidIndex", "Unlike", "Needless", "NothingThere", "NoBlock", "NothingToUndo", "InvalidCommand", "Mixed", "InvalidWords", "WishError"] "InvalidTree" false (.ref x_InvalidTree.C)
  xy_InvalidLocale : YT K ["InvalidTree", "InvalidLocale", "InvalidWishes", "InvalidWay", "InvalidCatalog", "InvalidKey", "InvalidText", "InvalidPage", "InvalidDoor", "InvalidChoice", "InvalidIndex", "Unlike", "Needless", "NothingThere", "NoBlock", "NothingToUndo", "InvalidCommand", "Mixed", "InvalidWords", "WishError"] "InvalidLocale" false (.ref x_InvalidLocale.C)
  xy_InvalidWishes : YT K ["InvalidTree", "InvalidLocale", "InvalidWishes", "InvalidWay", "InvalidCatalog", "InvalidKey", "InvalidText", "InvalidPage", "InvalidDoor", "InvalidChoice", "InvalidIndex", "Unlike", "Needless", "NothingThere", "NoBlock", "NothingToUndo", "InvalidCommand", "Mixed", "InvalidWords", "WishError"] "InvalidWishes" false (.ref x_InvalidWishes.C)
  xy_InvalidWay : YT K ["InvalidTree", "InvalidLocale", "InvalidWishes", "InvalidWay", "InvalidCatalog", "InvalidKey", "InvalidText", "InvalidPage", "InvalidDoor", "InvalidChoice", "InvalidIndex", "Unlike", "Needless", "NothingThere", "NoBlock", "NothingToUndo", "InvalidCommand", "Mixed", "InvalidWords", "WishError"] "InvalidWay" false (.ref x_InvalidWay.C)
  xy_InvalidCatalog : YT K ["InvalidTree", "InvalidLocale", "InvalidWishes", "InvalidWay", "InvalidCatalog", "InvalidKey", "InvalidText", "InvalidPage", "InvalidDoor", "InvalidChoice", "InvalidIndex", "Unlike", "Needless", "NothingThere", "NoBlock", "NothingToUndo", "InvalidCommand", "Mixed", "InvalidWords", "WishError"] "InvalidCatalog" false (.ref x_InvalidCatalog.C)
  xy_InvalidKey : YT K ["InvalidTree", "InvalidLocale", "InvalidWishes", "InvalidWay", "InvalidCatalog", "InvalidKey", "InvalidText", "InvalidPage", "InvalidDoor", "InvalidChoice", "InvalidIndex", "Unlike", "Needless", "NothingThere", "NoBlock", "NothingToUndo", "InvalidCommand", "Mixed", "InvalidWords", "WishError"] "InvalidKey" false (.ref x_InvalidKey.C)
  xy_InvalidText : YT K ["InvalidTree", "InvalidLocale", "InvalidWishes", "InvalidWay", "InvalidCatalog", "InvalidKey", "InvalidText", "InvalidPage", "InvalidDoor", "InvalidChoice", "InvalidIndex", "Unlike", "Needless", "NothingThere", "NoBlock", "NothingToUndo", "InvalidCommand", "Mixed", "InvalidWords", "WishError"] "InvalidText" false (.ref x_InvalidText.C)
  xy_InvalidPage : YT K ["InvalidTree", "InvalidLocale", "InvalidWishes", "InvalidWay", "InvalidCatalog", "InvalidKey", "InvalidText", "InvalidPage", "InvalidDoor", "InvalidChoice", "InvalidIndex", "Unlike", "Needless", "NothingThere", "NoBlock", "NothingToUndo", "InvalidCommand", "Mixed", "InvalidWords", "WishError"] "InvalidPage" false (.ref x_InvalidPage.C)
  xy_InvalidDoor : YT K ["InvalidTree", "InvalidLocale", "InvalidWishes", "InvalidWay", "InvalidCatalog", "InvalidKey", "InvalidText", "InvalidPage", "InvalidDoor", "InvalidChoice", "InvalidIndex", "Unlike", "Needless", "NothingThere", "NoBlock", "NothingToUndo", "InvalidCommand", "Mixed", "InvalidWords", "WishError"] "InvalidDoor" false (.ref x_InvalidDoor.C)
  xy_InvalidChoice : YT K ["InvalidTree", "InvalidLocale", "InvalidWishes", "InvalidWay", "InvalidCatalog", "InvalidKey", "InvalidText", "InvalidPage", "InvalidDoor", "InvalidChoice", "InvalidIndex", "Unlike", "Needless", "NothingThere", "NoBlock", "NothingToUndo", "InvalidCommand", "Mixed", "InvalidWords", "WishError"] "InvalidChoice" false (.ref x_InvalidChoice.C)
  xy_InvalidIndex : YT K ["InvalidTree", "InvalidLocale", "InvalidWishes", "InvalidWay", "InvalidCatalog", "InvalidKey", "InvalidText", "InvalidPage", "InvalidDoor", "InvalidChoice", "InvalidIndex", "Unlike", "Needless", "NothingThere", "NoBlock", "NothingToUndo", "InvalidCommand", "Mixed", "InvalidWords", "WishError"] "InvalidIndex" false (.ref x_InvalidIndex.C)
  xy_Unlike : YT K ["InvalidTree", "InvalidLocale", "InvalidWishes", "InvalidWay", "InvalidCatalog", "InvalidKey", "InvalidText", "InvalidPage", "InvalidDoor", "InvalidChoice", "InvalidIndex", "Unlike", "Needless", "NothingThere", "NoBlock", "NothingToUndo", "InvalidCommand", "Mixed", "InvalidWords", "WishError"] "Unlike" false (.ref x_Unlike.C)
  xy_Needless : YT K ["InvalidTree", "InvalidLocale", "InvalidWishes", "InvalidWay", "InvalidCatalog", "InvalidKey", "InvalidText", "InvalidPage", "InvalidDoor", "InvalidChoice", "InvalidIndex", "Unlike", "Needless", "NothingThere", "NoBlock", "NothingToUndo", "InvalidCommand", "Mixed", "InvalidWords", "WishError"] "Needless" false (.ref x_Needless.C)
  xy_NothingThere : YT K ["InvalidTree", "InvalidLocale", "InvalidWishes", "InvalidWay", "InvalidCatalog", "InvalidKey", "InvalidText", "InvalidPage", "InvalidDoor", "InvalidChoice", "InvalidIndex", "Unlike", "Needless", "NothingThere", "NoBlock", "NothingToUndo", "InvalidCommand", "Mixed", "InvalidWords", "WishError"] "NothingThere" false (.ref x_NothingThere.C)
  xy_NoBlock : YT K ["InvalidTree", "InvalidLocale", "InvalidWishes", "InvalidWay", "InvalidCatalog", "InvalidKey", "InvalidText", "InvalidPage", "InvalidDoor", "InvalidChoice", "InvalidIndex", "Unlike", "Needless", "NothingThere", "NoBlock", "NothingToUndo", "InvalidCommand", "Mixed", "InvalidWords", "WishError"] "NoBlock" false (.ref x_NoBlock.C)
  xy_NothingToUndo : YT K ["InvalidTree", "InvalidLocale", "InvalidWishes", "InvalidWay", "InvalidCatalog", "InvalidKey", "InvalidText", "InvalidPage", "InvalidDoor", "InvalidChoice", "InvalidIndex", "Unlike", "Needless", "NothingThere", "NoBlock", "NothingToUndo", "InvalidCommand", "Mixed", "InvalidWords", "WishError"] "NothingToUndo" false (.ref x_NothingToUndo.C)
  xy_InvalidCommand : YT K ["InvalidTree", "InvalidLocale", "InvalidWishes", "InvalidWay", "InvalidCatalog", "InvalidKey", "InvalidText", "InvalidPage", "InvalidDoor", "InvalidChoice", "InvalidIndex", "Unlike", "Needless", "NothingThere", "NoBlock", "NothingToUndo", "InvalidCommand", "Mixed", "InvalidWords", "WishError"] "InvalidCommand" false (.ref x_InvalidCommand.C)
  xy_Mixed : YT K ["InvalidTree", "InvalidLocale", "InvalidWishes", "InvalidWay", "InvalidCatalog", "InvalidKey", "InvalidText", "InvalidPage", "InvalidDoor", "InvalidChoice", "InvalidIndex", "Unlike", "Needless", "NothingThere", "NoBlock", "NothingToUndo", "InvalidCommand", "Mixed", "InvalidWords", "WishError"] "Mixed" false (.ref x_Mixed.C)
  xy_InvalidWords : YT K ["InvalidTree", "InvalidLocale", "InvalidWishes", "InvalidWay", "InvalidCatalog", "InvalidKey", "InvalidText", "InvalidPage", "InvalidDoor", "InvalidChoice", "InvalidIndex", "Unlike", "Needless", "NothingThere", "NoBlock", "NothingToUndo", "InvalidCommand", "Mixed", "InvalidWords", "WishError"] "InvalidWords" false (.ref x_InvalidWords.C)
  xy_ValueError : YT K ["InvalidTree", "InvalidLocale", "InvalidWishes", "InvalidWay", "InvalidCatalog", "InvalidKey", "InvalidText", "InvalidPage", "InvalidDoor", "InvalidChoice", "InvalidIndex", "Unlike", "Needless", "NothingThere", "NoBlock", "NothingToUndo", "InvalidCommand", "Mixed", "InvalidWords", "WishError"] "ValueError" true (.type "ValueError")
section
variable {P : Program} {w : World} {K : PySem.W.Frag} {mg : Str → Option Value} {base : Heap}
theorem ok__law_fill (t : Txt P K mg) : GOk P w K mg base 1 t.a__law_fill t.fd__law_fill ["cell"] (spD K mg false 1 f__law_fill) := by
  refine def_ok (k := 0) (N := N__law_fill) (m := m__law_fill) t.F__law_fill sc__law_fill (by decide) fun cdv A outer s H E hr => ?_
  exact ss_one (s_ret (e_lst (a_cons (o_v (x_max (by rfl) t.m_max (a_cons (o_v (e_int)) (a_cons (o_v (x_sub (o_s 0) (o_v (x_pow (o_v (e_int)) (o_v (e_int)))))) a_nil)))) (a_cons (o_v (x_mod (o_v (x_int t.m_int (o_s 0))) (o_v (e_int)))) (a_cons (o_v (e_int)) a_nil)))))
theorem ok__law_pull (t : Txt P K mg) : GOk P w K mg base 1 t.a__law_pull t.fd__law_pull ["jar", "size"] (spD K mg true 2 f__law_pull) := by
  refine def_ok (k := 0) (N := N__law_pull) (m := m__law_pull) t.F__law_pull sc__law_pull (by decide) fun cdv A outer s H E hr => ?_
  exact ss_cons (s_if (y_gt (o_v (x_ix (o_s 0) (o_v (e_int)) (fun _ _ => rfl))) (o_v (e_int))) (ss_cons (s_set 2 sc__law_pull.nd (x_mod (o_v (x_int t.m_int (o_v (x_ix (o_s 0) (o_v (e_int)) (fun _ _ => rfl))))) (o_s 1))) (ss_cons (s_setIx 0 (x_fdiv (o_v (x_ix (o_s 0) (o_v (e_int)) (fun _ _ => rfl))) (o_s 1)) (o_v (e_int))) (ss_one (s_retV 2)))) (ss_nil)) (ss_cons (s_setIx 0 (x_add (o_v (x_ix (o_s 0) (o_v (e_int)) (fun _ _ => rfl))) (o_v (e_int))) (o_v (e_int))) (ss_cons (s_set 3 sc__law_pull.nd (x_mod (o_v (x_int t.m_int (o_v (x_add (o_v (x_add (o_v (x_ix (o_s 0) (o_v (e_int)) (fun _ _ => rfl))) (o_v (x_mul (o_v (x_mul (o_v (e_int)) (o_v (x_ix (o_s 0) (o_v (e_int)) (fun _ _ => rfl))))) (o_v (x_ix (o_s 0) (o_v (e_int)) (fun _ _ => rfl))))))) (o_v (x_mul (o_v (e_int)) (o_v (x_ix (o_s 0) (o_v (e_int)) (fun _ _ => rfl))))))))) (o_v (e_int)))) (ss_cons (s_set 3 sc__law_pull.nd (x_mod (o_v (x_int t.m_int (o_v (x_add (o_v (x_add (o_v (x_mul (o_s 3) (o_s 3))) (o_v (x_mul (o_v (e_int)) (o_v (x_ix (o_s 0) (o_v (e_int)) (fun _ _ => rfl))))))) (o_v (e_int)))))) (o_v (e_int)))) (ss_cons (s_set 3 sc__law_pull.nd (x_mod (o_v (x_int t.m_int (o_v (x_mul (o_s 3) (o_s 3))))) (o_v (e_int)))) (ss_one (s_ret (x_mod (o_v (x_int t.m_int (o_v (x_fdiv (o_s 3) (o_v (e_int)))))) (o_s 1))))))))
theorem ok__law_each (t : Txt P K mg) : GOk P w K mg base 1 t.a__law_each t.fd__law_each ["text", "asks", "number"] (spD K mg false 3 f__law_each) := by
  refine def_ok (k := 0) (N := N__law_each) (m := m__law_each) t.F__law_each sc__law_each (by decide) fun cdv A outer s H E hr => ?_
  exact ss_cons (s_set 3 sc__law_each.nd (e_lst (a_cons (o_v (e_excV t.xr_InvalidTree.q t.xr_InvalidTree.k t.x_InvalidTree.n t.x_InvalidTree.g (e_var 0))) (a_cons (o_v (e_excV t.xr_InvalidLocale.q t.xr_InvalidLocale.k t.x_InvalidLocale.n t.x_InvalidLocale.g (e_var 0))) (a_cons (o_v (e_excV t.xr_InvalidWishes.q t.xr_InvalidWishes.k t.x_InvalidWishes.n t.x_InvalidWishes.g (e_var 0))) (a_cons (o_v (e_excV t.xr_InvalidWay.q t.xr_InvalidWay.k t.x_InvalidWay.n t.x_InvalidWay.g (e_var 0))) (a_cons (o_v (e_excV t.xr_InvalidCatalog.q t.xr_InvalidCatalog.k t.x_InvalidCatalog.n t.x_InvalidCatalog.g (e_var 0))) a_nil))))))) (ss_cons (s_set 3 sc__law_each.nd (x_add (o_s 3) (o_v (e_lst (a_cons (o_v (e_excV t.xr_InvalidKey.q t.xr_InvalidKey.k t.x_InvalidKey.n t.x_InvalidKey.g (e_var 0))) (a_cons (o_v (e_excV t.xr_InvalidText.q t.xr_InvalidText.k t.x_InvalidText.n t.x_InvalidText.g (e_var 0))) (a_cons (o_v (e_excV t.xr_InvalidPage.q t.xr_InvalidPage.k t.x_InvalidPage.n t.x_InvalidPage.g (e_var 0))) (a_cons (o_v (e_excV t.xr_InvalidDoor.q t.xr_InvalidDoor.k t.x_InvalidDoor.n t.x_InvalidDoor.g (e_var 0))) (a_cons (o_v (e_excV t.xr_InvalidChoice.q t.xr_InvalidChoice.k t.x_InvalidChoice.n t.x_InvalidChoice.g (e_var 0))) a_nil))))))))) (ss_cons (s_set 3 sc__law_each.nd (x_add (o_s 3) (o_v (e_lst (a_cons (o_v (e_excV t.xr_InvalidIndex.q t.xr_InvalidIndex.k t.x_InvalidIndex.n t.x_InvalidIndex.g (e_var 0))) (a_cons (o_v (e_excV t.xr_Unlike.q t.xr_Unlike.k t.x_Unlike.n t.x_Unlike.g (e_var 0))) (a_cons (o_v (e_excV t.xr_Needless.q t.xr_Needless.k t.x_Needless.n t.x_Needless.g (e_var 0))) (a_cons (o_v (e_excV t.xr_NothingThere.q t.xr_NothingThere.k t.x_NothingThere.n t.x_NothingThere.g (e_var 0))) (a_cons (o_v (e_excV t.xr_NoBlock.q t.xr_NoBlock.k t.x_NoBlock.n t.x_NoBlock.g (e_var 0))) a_nil))))))))) (ss_cons (s_set 3 sc__law_each.nd (x_add (o_s 3) (o_v (e_lst (a_cons (o_v (e_excV t.xr_NothingToUndo.q t.xr_NothingToUndo.k t.x_NothingToUndo.n t.x_NothingToUndo.g (e_var 0))) (a_cons (o_v (e_excV t.xr_InvalidCommand.q t.xr_InvalidCommand.k t.x_InvalidCommand.n t.x_InvalidCommand.g (e_var 0))) (a_cons (o_v (e_excF t.xr_Mixed hr t.x_Mixed.n t.x_Mixed.g (o_s 1))) (a_cons (o_v (e_excF t.xr_InvalidWords hr t.x_InvalidWords.n t.x_InvalidWords.g (o_s 2))) a_nil)))))))) (ss_one (s_retV 3)))))
theorem ok__law_stands_under (t : Txt P K mg) : GOk P w K mg base 1 t.a__law_stands_under t.fd__law_stands_under ["caught"] (spD K mg false 1 f__law_stands_under) := by
  refine def_ok (k := 0) (N := N__law_stands_under) (m := m__law_stands_under) t.F__law_stands_under sc__law_stands_under (by decide) fun cdv A outer s H E hr => ?_
  exact ss_cons (s_set 1 sc__law_stands_under.nd (x_add (o_v (x_mul (o_v (e_lst (a_cons (o_v (e_int)) a_nil))) (o_v (x_int t.m_int (o_v (e_isO (o_s 0) t.m_isinstance t.x_InvalidTree.g t.xe t.xy_InvalidTree)))))) (o_v (x_mul (o_v (e_lst (a_cons (o_v (e_int)) a_nil))) (o_v (x_int t.m_int (o_v (e_isO (o_s 0) t.m_isinstance t.x_InvalidLocale.g t.xe t.xy_InvalidLocale)))))))) (ss_cons (s_set 1 sc__law_stands_under.nd (x_add (o_v (x_add (o_s 1) (o_v (x_mul (o_v (e_lst (a_cons (o_v (e_int)) a_nil))) (o_v (x_int t.m_int (o_v (e_isO (o_s 0) t.m_isinstance t.x_InvalidWishes.g t.xe t.xy_InvalidWishes)))))))) (o_v (x_mul (o_v (e_lst (a_cons (o_v (e_int)) a_nil))) (o_v (x_int t.m_int (o_v (e_isO (o_s 0) t.m_isinstance t.x_InvalidWay.g t.xe t.xy_InvalidWay)))))))) (ss_cons (s_set 1 sc__law_stands_under.nd (x_add (o_v (x_add (o_s 1) (o_v (x_mul (o_v (e_lst (a_cons (o_v (e_int)) a_nil))) (o_v (x_int t.m_int (o_v (e_isO (o_s 0) t.m_isinstance t.x_InvalidCatalog.g t.xe t.xy_InvalidCatalog)))))))) (o_v (x_mul (o_v (e_lst (a_cons (o_v (e_int)) a_nil))) (o_v (x_int t.m_int (o_v (e_isO (o_s 0) t.m_isinstance t.x_InvalidKey.g t.xe t.xy_InvalidKey)))))))) (ss_cons (s_set 1 sc__law_stands_under.nd (x_add (o_v (x_add (o_s 1) (o_v (x_mul (o_v (e_lst (a_cons (o_v (e_int)) a_nil))) (o_v (x_int t.m_int (o_v (e_isO (o_s 0) t.m_isinstance t.x_InvalidText.g t.xe t.xy_InvalidText)))))))) (o_v (x_mul (o_v (e_lst (a_cons (o_v (e_int)) a_nil))) (o_v (x_int t.m_int (o_v (e_isO (o_s 0) t.m_isinstance t.x_InvalidPage.g t.xe t.xy_InvalidPage)))))))) (ss_cons (s_set 1 sc__law_stands_under.nd (x_add (o_v (x_add (o_s 1) (o_v (x_mul (o_v (e_lst (a_cons (o_v (e_int)) a_nil))) (o_v (x_int t.m_int (o_v (e_isO (o_s 0) t.m_isinstance t.x_InvalidDoor.g t.xe t.xy_InvalidDoor)))))))) (o_v (x_mul (o_v (e_lst (a_cons (o_v (e_int)) a_nil))) (o_v (x_int t.m_int (o_v (e_isO (o_s 0) t.m_isinstance t.x_InvalidChoice.g t.xe t.xy_InvalidChoice)))))))) (ss_cons (s_set 1 sc__law_stands_under.nd (x_add (o_v (x_add (o_s 1) (o_v (x_mul (o_v (e_lst (a_cons (o_v (e_int)) a_nil))) (o_v (x_int t.m_int (o_v (e_isO (o_s 0) t.m_isinstance t.x_InvalidIndex.g t.xe t.xy_InvalidIndex)))))))) (o_v (x_mul (o_v (e_lst (a_cons (o_v (e_int)) a_nil))) (o_v (x_int t.m_int (o_v (e_isO (o_s 0) t.m_isinstance t.x_Unlike.g t.xe t.xy_Unlike)))))))) (ss_cons (s_set 1 sc__law_stands_under.nd (x_add (o_v (x_add (o_s 1) (o_v (x_mul (o_v (e_lst (a_cons (o_v (e_int)) a_nil))) (o_v (x_int t.m_int (o_v (e_isO (o_s 0) t.m_isinstance t.x_Needless.g t.xe t.xy_Needless)))))))) (o_v (x_mul (o_v (e_lst (a_cons (o_v (e_int)) a_nil))) (o_v (x_int t.m_int (o_v (e_isO (o_s 0) t.m_isinstance t.x_NothingThere.g t.xe t.xy_NothingThere)))))))) (ss_cons (s_set 1 sc__law_stands_under.nd (x_add (o_v (x_add (o_s 1) (o_v (x_mul (o_v (e_lst (a_cons (o_v (e_int)) a_nil))) (o_v (x_int t.m_int (o_v (e_isO (o_s 0) t.m_isinstance t.x_NoBlock.g t.xe t.xy_NoBlock)))))))) (o_v (x_mul (o_v (e_lst (a_cons (o_v (e_int)) a_nil))) (o_v (x_int t.m_int (o_v (e_isO (o_s 0) t.m_isinstance t.x_NothingToUndo.g t.xe t.xy_NothingToUndo)))))))) (ss_cons (s_set 1 sc__law_stands_under.nd (x_add (o_v (x_add (o_s 1) (o_v (x_mul (o_v (e_lst (a_cons (o_v (e_int)) a_nil))) (o_v (x_int t.m_int (o_v (e_isO (o_s 0) t.m_isinstance t.x_InvalidCommand.g t.xe t.xy_InvalidCommand)))))))) (o_v (x_mul (o_v (e_lst (a_cons (o_v (e_int)) a_nil))) (o_v (x_int t.m_int (o_v (e_isO (o_s 0) t.m_isinstance t.x_Mixed.g t.xe t.xy_Mixed)))))))) (ss_cons (s_set 1 sc__law_stands_under.nd (x_add (o_s 1) (o_v (x_mul (o_v (e_lst (a_cons (o_v (e_int)) a_nil))) (o_v (x_int t.m_int (o_v (e_isO (o_s 0) t.m_isinstance t.x_InvalidWords.g t.xe t.xy_InvalidWords)))))))) (ss_cons (s_if (t_w (w_or (t_not (t_val (e_isO (o_s 0) t.m_isinstance t.x_WishError.g t.xe t.xy_WishError))) (w_or1 (t_not (t_val (e_isOB (o_s 0) t.m_isinstance t.m_ValueError (by decide +kernel) t.xe t.xy_ValueError)))))) (ss_one (s_expr (e_append 1 (a_cons (o_v (e_int)) a_nil)))) (ss_nil)) (ss_one (s_retV 1))))))))))))
theorem ok__law_same (t : Txt P K mg) : GOk P w K mg base 1 t.a__law_same t.fd__law_same ["told", "due"] (spD K mg false 2 f__law_same) := by
  refine def_ok (k := 0) (N := N__law_same) (m := m__law_same) t.F__law_same sc__law_same (by decide) fun cdv A outer s H E hr => ?_
  exact ss_one (s_ret (e_and (x_eq hr (o_s 0) (o_s 1)) (e_one (x_eq hr (o_v (x_repr hr t.m_repr (o_s 0))) (o_v (x_repr hr t.m_repr (o_s 1)))))))
theorem ok_law (t : Txt P K mg) : GOk P w K mg base 2 t.a_law t.fd_law ["script"] (spD K mg false 1 f_law) := by
  refine def_ok (k := 1) (N := N_law) (m := m_law) t.F_law sc_law (by decide) fun cdv A outer s H E hr => ?_
  exact ss_cons (s_for (passes_of rfl) rfl (it_seq (x_add (o_v (e_lst (a_cons (o_v (x_add (o_v (x_pow (o_v (e_int)) (o_v (e_int)))) (o_v (e_int)))) a_nil))) (o_v (x_slice (o_s 0) p_none (p_some (e_int)))))) (g_name 1 sc_law.nd) (ss_cons (s_set 2 sc_law.nd (e_call (ok__law_fill t) (hr.mono (by decide)) t.g__law_fill t.F__law_fill.kp t.b__law_fill (takes_of rfl rfl rfl rfl) (a_cons (o_v (e_var 1)) a_nil))) (ss_cons (s_set 3 sc_law.nd (x_tuple t.m_tuple (o_v (by exact (e_comp (by rfl) sc_law.nd (blkOk_by (own := [("k", 6)]) (N := N_law) (sc := defScope (topS 27)) (by decide +kernel)) (by exact (it_rng1 (by rfl) t.m_range (a_cons (o_v (e_callR 2 (ok__law_pull t) (hr.mono (by decide)) t.g__law_pull t.F__law_pull.kp t.b__law_pull (takes_of rfl rfl rfl rfl) (a_cons (o_v (e_int)) a_nil))) a_nil))) (fun _ _ _ _ _ => by exact (g_name 6 sc_law.nd)) (fun _ _ _ _ _ => by exact (e_callR 2 (ok__law_pull t) (hr.mono (by decide)) t.g__law_pull t.F__law_pull.kp t.b__law_pull takes0 (a_cons (o_v (e_int)) a_nil)))))))) (ss_cons (s_set 4 sc_law.nd (e_callR 2 (ok__law_pull t) (hr.mono (by decide)) t.g__law_pull t.F__law_pull.kp t.b__law_pull (takes_of rfl rfl rfl rfl) (a_cons (o_v (x_pow (o_v (e_int)) (o_v (e_int)))) a_nil))) (ss_cons (s_set 5 sc_law.nd (e_call (ok__law_each t) (hr.mono (by decide)) t.g__law_each t.F__law_each.kp t.b__law_each (takes_of rfl rfl rfl rfl) (a_cons (o_v (x_add (o_v (e_str)) (o_v (x_str t.m_str (o_s 4))))) (a_cons (o_v (e_var 3)) (a_cons (o_v (e_var 4)) a_nil))))) (ss_cons (s_for (passes_of rfl) rfl (it_rng1 (by rfl) t.m_range (a_cons (o_v (e_int)) a_nil)) (g_name 6 sc_law.nd) (ss_one (s_if (y_ne hr (o_v (e_call (ok__law_stands_under t) (hr.mono (by decide)) t.g__law_stands_under t.F__law_stands_under.kp t.b__law_stands_under (takes_of rfl rfl rfl rfl) (a_cons (o_v (x_ix (o_s 5) (o_s 6) (fun _ _ => rfl))) a_nil))) (o_v (e_lst (a_cons (o_v (e_var 6)) a_nil)))) (ss_one (s_ret (e_bl))) (ss_nil)))) (ss_cons (s_if (t_w (w_or (t_not (t_val (e_call (ok__law_same t) (hr.mono (by decide)) t.g__law_same t.F__law_same.kp t.b__law_same (takes_of rfl rfl rfl rfl) (a_cons (o_v (e_fld t.xr_Mixed (t.xe "Mixed" (by decide) _ t.x_Mixed.n) t.x_Mixed.n (o_v (x_ix (o_s 5) (o_v (e_int)) (fun _ _ => rfl))))) (a_cons (o_v (e_var 3)) a_nil))))) (w_or1 (t_not (t_val (e_call (ok__law_same t) (hr.mono (by decide)) t.g__law_same t.F__law_same.kp t.b__law_same (takes_of rfl rfl rfl rfl) (a_cons (o_v (e_fld t.xr_InvalidWords (t.xe "InvalidWords" (by decide) _ t.x_InvalidWords.n) t.x_InvalidWords.n (o_v (x_ix (o_s 5) (o_v (e_int)) (fun _ _ => rfl))))) (a_cons (o_v (e_var 4)) a_nil)))))))) (ss_one (s_ret (e_bl))) (ss_nil)) (ss_one (s_if (t_w (w_or (y_ne hr (o_v (e_fld t.xr_Mixed (t.xe "Mixed" (by decide) _ t.x_Mixed.n) t.x_Mixed.n (o_v (e_excFK t.xr_Mixed hr t.x_Mixed.n t.x_Mixed.g (k_cons (o_s 3) k_nil))))) (o_s 3)) (w_or1 (y_ne hr (o_v (e_fld t.xr_InvalidWords (t.xe "InvalidWords" (by decide) _ t.x_InvalidWords.n) t.x_InvalidWords.n (o_v (e_excFK t.xr_InvalidWords hr t.x_InvalidWords.n t.x_InvalidWords.g (k_cons (o_s 4) k_nil))))) (o_s 4))))) (ss_one (s_ret (e_bl))) (ss_nil)))))))))) (ss_one (s_ret (x_eqE hr (o_v (e_call (ok__law_stands_under t) (hr.mono (by decide)) t.g__law_stands_under t.F__law_stands_under.kp t.b__law_stands_under (takes_of rfl rfl rfl rfl) (a_cons (o_v (e_excV t.xr_WishError.q t.xr_WishError.k t.x_WishError.n t.x_WishError.g (e_str))) a_nil))) (o_v (e_lst a_nil)))))
end
theorem all_mk {l : PySem.W.OpenLaw} {w : World} {K : PySem.W.Frag} {h : Heap} {mg : Str → Option Value} {fa : Addr} (X : K.In h) (G : h.Ns mainGlobals mg) (hfa : mg "law" = some (.ref fa))
    {f0 : Addr} {od0 an0 : Option Addr} {sl0 : Array (Option Value)} {oc0 kV0 dc0 pm0 cd0 ct0 : Value}
    {f1 : Addr} {od1 an1 : Option Addr} {sl1 : Array (Option Value)} {oc1 kV1 dc1 pm1 cd1 ct1 : Value}
    {f2 : Addr} {od2 an2 : Option Addr} {sl2 : Array (Option Value)} {oc2 kV2 dc2 pm2 cd2 ct2 : Value}
    {f3 : Addr} {od3 an3 : Option Addr} {sl3 : Array (Option Value)} {oc3 kV3 dc3 pm3 cd3 ct3 : Value}
    {f4 : Addr} {od4 an4 : Option Addr} {sl4 : Array (Option Value)} {oc4 kV4 dc4 pm4 cd4 ct4 : Value}
    {f5 : Addr} {od5 an5 : Option Addr} {sl5 : Array (Option Value)} {oc5 kV5 dc5 pm5 cd5 ct5 : Value}
    {X_WishError : Addr}
    {X_InvalidTree : Addr}
    {X_InvalidLocale : Addr}
    {X_InvalidWishes : Addr}
    {X_InvalidWay : Addr}
    {X_InvalidCatalog : Addr}
    {X_InvalidKey : Addr}
    {X_InvalidText : Addr}
    {X_InvalidPage : Addr}
    {X_InvalidDoor : Addr}
    {X_InvalidChoice : Addr}
    {X_InvalidIndex : Addr}
    {X_Unlike : Addr}
    {X_Needless : Addr}
    {X_NothingThere : Addr}
    {X_NoBlock : Addr}
    {X_NothingToUndo : Addr}
    {X_InvalidCommand : Addr}
    {X_Mixed : Addr}
    {X_InvalidWords : Addr}
    {iq_Mixed inm_Mixed : Str} {iN_Mixed iI_Mixed icc_Mixed icd_Mixed : Addr} {ibs_Mixed ibm_Mixed isu_Mixed : List Value} {isn_Mixed : List Str} {iab_Mixed : Bool} {ico_Mixed : Option Bool} {idd_Mixed ian_Mixed iod_Mixed ica_Mixed icl_Mixed : Option Addr} {ik0_Mixed ik1_Mixed ik2_Mixed ik3_Mixed ik5_Mixed : Option Value} {iql_Mixed ifl_Mixed : Str} {ikV_Mixed idc_Mixed ipm_Mixed ict_Mixed ioc_Mixed icc1_Mixed icc2_Mixed : Value} {ios_Mixed ioa_Mixed iob_Mixed : Array (Option Value)} {ivs_Mixed : Array Value} {itf_Mixed : Tok} {iW_Mixed : Addr} {ibr_Mixed : List Value} {iwc_Mixed : Value} {iwd_Mixed : Option Addr} {iwk_Mixed : ClassData} {iws_Mixed : Array (Option Value)}
    {iq_InvalidWords inm_InvalidWords : Str} {iN_InvalidWords iI_InvalidWords icc_InvalidWords icd_InvalidWords : Addr} {ibs_InvalidWords ibm_InvalidWords isu_InvalidWords : List Value} {isn_InvalidWords : List Str} {iab_InvalidWords : Bool} {ico_InvalidWords : Option Bool} {idd_InvalidWords ian_InvalidWords iod_InvalidWords ica_InvalidWords icl_InvalidWords : Option Addr} {ik0_InvalidWords ik1_InvalidWords ik2_InvalidWords ik3_InvalidWords ik5_InvalidWords : Option Value} {iql_InvalidWords ifl_InvalidWords : Str} {ikV_InvalidWords idc_InvalidWords ipm_InvalidWords ict_InvalidWords ioc_InvalidWords icc1_InvalidWords icc2_InvalidWords : Value} {ios_InvalidWords ioa_InvalidWords iob_InvalidWords : Array (Option Value)} {ivs_InvalidWords : Array Value} {itf_InvalidWords : Tok} {iW_InvalidWords : Addr} {ibr_InvalidWords : List Value} {iwc_InvalidWords : Value} {iwd_InvalidWords : Option Addr} {iwk_InvalidWords : ClassData} {iws_InvalidWords : Array (Option Value)}
    (a0 : PySem.W.nsIn K mainGlobals "_law_fill" = some (some (.ref f0))) (l0 : K.lookup f0 = some ⟨oc0, od0, .func (PySem.W.fnOf "_law_fill" "_law_fill" (defArgs (topS 22)) (defBody (topS 22)) (defScope (topS 22)) .none kV0 dc0 pm0 an0 cd0 ct0), sl0⟩) (c0 : PySem.W.codeIn K cd0 "_law_fill" = true) (k0 : PySem.W.keepIn K (.ref f0) = true)
    (a1 : PySem.W.nsIn K mainGlobals "_law_pull" = some (some (.ref f1))) (l1 : K.lookup f1 = some ⟨oc1, od1, .func (PySem.W.fnOf "_law_pull" "_law_pull" (defArgs (topS 23)) (defBody (topS 23)) (defScope (topS 23)) .none kV1 dc1 pm1 an1 cd1 ct1), sl1⟩) (c1 : PySem.W.codeIn K cd1 "_law_pull" = true) (k1 : PySem.W.keepIn K (.ref f1) = true)
    (a2 : PySem.W.nsIn K mainGlobals "_law_each" = some (some (.ref f2))) (l2 : K.lookup f2 = some ⟨oc2, od2, .func (PySem.W.fnOf "_law_each" "_law_each" (defArgs (topS 26)) (defBody (topS 26)) (defScope (topS 26)) .none kV2 dc2 pm2 an2 cd2 ct2), sl2⟩) (c2 : PySem.W.codeIn K cd2 "_law_each" = true) (k2 : PySem.W.keepIn K (.ref f2) = true)
    (a3 : PySem.W.nsIn K mainGlobals "_law_stands_under" = some (some (.ref f3))) (l3 : K.lookup f3 = some ⟨oc3, od3, .func (PySem.W.fnOf "_law_stands_under" "_law_stands_under" (defArgs (topS 24)) (defBody (topS 24)) (defScope (topS 24)) .none kV3 dc3 pm3 an3 cd3 ct3), sl3⟩) (c3 : PySem.W.codeIn K cd3 "_law_stands_under" = true) (k3 : PySem.W.keepIn K (.ref f3) = true)
    (a4 : PySem.W.nsIn K mainGlobals "_law_same" = some (some (.ref f4))) (l4 : K.lookup f4 = some ⟨oc4, od4, .func (PySem.W.fnOf "_law_same" "_law_same" (defArgs (topS 25)) (defBody (topS 25)) (defScope (topS 25)) .none kV4 dc4 pm4 an4 cd4 ct4), sl4⟩) (c4 : PySem.W.codeIn K cd4 "_law_same" = true) (k4 : PySem.W.keepIn K (.ref f4) = true)
    (a5 : PySem.W.nsIn K mainGlobals "law" = some (some (.ref f5))) (l5 : K.lookup f5 = some ⟨oc5, od5, .func (PySem.W.fnOf "law" "law" (defArgs (topS 27)) (defBody (topS 27)) (defScope (topS 27)) .none kV5 dc5 pm5 an5 cd5 ct5), sl5⟩) (c5 : PySem.W.codeIn K cd5 "law" = true) (k5 : PySem.W.keepIn K (.ref f5) = true)
    (z_ValueError : PySem.W.nsIn K mainGlobals "ValueError" = some none)
    (z_int : PySem.W.nsIn K mainGlobals "int" = some none)
    (z_isinstance : PySem.W.nsIn K mainGlobals "isinstance" = some none)
    (z_max : PySem.W.nsIn K mainGlobals "max" = some none)
    (z_range : PySem.W.nsIn K mainGlobals "range" = some none)
    (z_repr : PySem.W.nsIn K mainGlobals "repr" = some none)
    (z_str : PySem.W.nsIn K mainGlobals "str" = some none)
    (z_tuple : PySem.W.nsIn K mainGlobals "tuple" = some none)
    (xa_WishError : PySem.W.nsIn K mainGlobals "WishError" = some (some (.ref X_WishError))) (xi_WishError : PySem.W.isClsIn K X_WishError = true) (xt_WishError : PySem.W.typeIn K (.ref X_WishError) = some (.type "type"))
    (xa_InvalidTree : PySem.W.nsIn K mainGlobals "InvalidTree" = some (some (.ref X_InvalidTree))) (xi_InvalidTree : PySem.W.isClsIn K X_InvalidTree = true) (xt_InvalidTree : PySem.W.typeIn K (.ref X_InvalidTree) = some (.type "type"))
    (xa_InvalidLocale : PySem.W.nsIn K mainGlobals "InvalidLocale" = some (some (.ref X_InvalidLocale))) (xi_InvalidLocale : PySem.W.isClsIn K X_InvalidLocale = true) (xt_InvalidLocale : PySem.W.typeIn K (.ref X_InvalidLocale) = some (.type "type"))
    (xa_InvalidWishes : PySem.W.nsIn K mainGlobals "InvalidWishes" = some (some (.ref X_InvalidWishes))) (xi_InvalidWishes : PySem.W.isClsIn K X_InvalidWishes = true) (xt_InvalidWishes : PySem.W.typeIn K (.ref X_InvalidWishes) = some (.type "type"))
    (xa_InvalidWay : PySem.W.nsIn K mainGlobals "InvalidWay" = some (some (.ref X_InvalidWay))) (xi_InvalidWay : PySem.W.isClsIn K X_InvalidWay = true) (xt_InvalidWay : PySem.W.typeIn K (.ref X_InvalidWay) = some (.type "type"))
    (xa_InvalidCatalog : PySem.W.nsIn K mainGlobals "InvalidCatalog" = some (some (.ref X_InvalidCatalog))) (xi_InvalidCatalog : PySem.W.isClsIn K X_InvalidCatalog = true) (xt_InvalidCatalog : PySem.W.typeIn K (.ref X_InvalidCatalog) = some (.type "type"))
    (xa_InvalidKey : PySem.W.nsIn K mainGlobals "InvalidKey" = some (some (.ref X_InvalidKey))) (xi_InvalidKey : PySem.W.isClsIn K X_InvalidKey = true) (xt_InvalidKey : PySem.W.typeIn K (.ref X_InvalidKey) = some (.type "type"))
    (xa_InvalidText : PySem.W.nsIn K mainGlobals "InvalidText" = some (some (.ref X_InvalidText))) (xi_InvalidText : PySem.W.isClsIn K X_InvalidText = true) (xt_InvalidText : PySem.W.typeIn K (.ref X_InvalidText) = some (.type "type"))
    (xa_InvalidPage : PySem.W.nsIn K mainGlobals "InvalidPage" = some (some (.ref X_InvalidPage))) (xi_InvalidPage : PySem.W.isClsIn K X_InvalidPage = true) (xt_InvalidPage : PySem.W.typeIn K (.ref X_InvalidPage) = some (.type "type"))
    (xa_InvalidDoor : PySem.W.nsIn K mainGlobals "InvalidDoor" = some (some (.ref X_InvalidDoor))) (xi_InvalidDoor : PySem.W.isClsIn K X_InvalidDoor = true) (xt_InvalidDoor : PySem.W.typeIn K (.ref X_InvalidDoor) = some (.type "type"))
    (xa_InvalidChoice : PySem.W.nsIn K mainGlobals "InvalidChoice" = some (some (.ref X_InvalidChoice))) (xi_InvalidChoice : PySem.W.isClsIn K X_InvalidChoice = true) (xt_InvalidChoice : PySem.W.typeIn K (.ref X_InvalidChoice) = some (.type "type"))
    (xa_InvalidIndex : PySem.W.nsIn K mainGlobals "InvalidIndex" = some (some (.ref X_InvalidIndex))) (xi_InvalidIndex : PySem.W.isClsIn K X_InvalidIndex = true) (xt_InvalidIndex : PySem.W.typeIn K (.ref X_InvalidIndex) = some (.type "type"))
    (xa_Unlike : PySem.W.nsIn K mainGlobals "Unlike" = some (some (.ref X_Unlike))) (xi_Unlike : PySem.W.isClsIn K X_Unlike = true) (xt_Unlike : PySem.W.typeIn K (.ref X_Unlike) = some (.type "type"))
    (xa_Needless : PySem.W.nsIn K mainGlobals "Needless" = some (some (.ref X_Needless))) (xi_Needless : PySem.W.isClsIn K X_Needless = true) (xt_Needless : PySem.W.typeIn K (.ref X_Needless) = some (.type "type"))
    (xa_NothingThere : PySem.W.nsIn K mainGlobals "NothingThere" = some (some (.ref X_NothingThere))) (xi_NothingThere : PySem.W.isClsIn K X_NothingThere = true) (xt_NothingThere : PySem.W.typeIn K (.ref X_NothingThere) = some (.type "type"))
    (xa_NoBlock : PySem.W.nsIn K mainGlobals "NoBlock" = some (some (.ref X_NoBlock))) (xi_NoBlock : PySem.W.isClsIn K X_NoBlock = true) (xt_NoBlock : PySem.W.typeIn K (.ref X_NoBlock) = some (.type "type"))
    (xa_NothingToUndo : PySem.W.nsIn K mainGlobals "NothingToUndo" = some (some (.ref X_NothingToUndo))) (xi_NothingToUndo : PySem.W.isClsIn K X_NothingToUndo = true) (xt_NothingToUndo : PySem.W.typeIn K (.ref X_NothingToUndo) = some (.type "type"))
    (xa_InvalidCommand : PySem.W.nsIn K mainGlobals "InvalidCommand" = some (some (.ref X_InvalidCommand))) (xi_InvalidCommand : PySem.W.isClsIn K X_InvalidCommand = true) (xt_InvalidCommand : PySem.W.typeIn K (.ref X_InvalidCommand) = some (.type "type"))
    (xa_Mixed : PySem.W.nsIn K mainGlobals "Mixed" = some (some (.ref X_Mixed))) (xi_Mixed : PySem.W.isClsIn K X_Mixed = true) (xt_Mixed : PySem.W.typeIn K (.ref X_Mixed) = some (.type "type"))
    (xa_InvalidWords : PySem.W.nsIn K mainGlobals "InvalidWords" = some (some (.ref X_InvalidWords))) (xi_InvalidWords : PySem.W.isClsIn K X_InvalidWords = true) (xt_InvalidWords : PySem.W.typeIn K (.ref X_InvalidWords) = some (.type "type"))
    (xr_InvalidTree : XcR K X_InvalidTree) (xe_InvalidTree : L2.ExcC K X_InvalidTree) (xs_InvalidTree : PySem.W.subIn K (.ref X_InvalidTree) (.ref X_InvalidTree) = some true)
    (xr_InvalidLocale : XcR K X_InvalidLocale) (xe_InvalidLocale : L2.ExcC K X_InvalidLocale) (xs_InvalidLocale : PySem.W.subIn K (.ref X_InvalidLocale) (.ref X_InvalidLocale) = some true)
    (xr_InvalidWishes : XcR K X_InvalidWishes) (xe_InvalidWishes : L2.ExcC K X_InvalidWishes) (xs_InvalidWishes : PySem.W.subIn K (.ref X_InvalidWishes) (.ref X_InvalidWishes) = some true)
    (xr_InvalidWay : XcR K X_InvalidWay) (xe_InvalidWay : L2.ExcC K X_InvalidWay) (xs_InvalidWay : PySem.W.subIn K (.ref X_InvalidWay) (.ref X_InvalidWay) = some true)
    (xr_InvalidCatalog : XcR K X_InvalidCatalog) (xe_InvalidCatalog : L2.ExcC K X_InvalidCatalog) (xs_InvalidCatalog : PySem.W.subIn K (.ref X_InvalidCatalog) (.ref X_InvalidCatalog) = some true)
    (xr_InvalidKey : XcR K X_InvalidKey) (xe_InvalidKey : L2.ExcC K X_InvalidKey) (xs_InvalidKey : PySem.W.subIn K (.ref X_InvalidKey) (.ref X_InvalidKey) = some true)
    (xr_InvalidText : XcR K X_InvalidText) (xe_InvalidText : L2.ExcC K X_InvalidText) (xs_InvalidText : PySem.W.subIn K (.ref X_InvalidText) (.ref X_InvalidText) = some true)
    (xr_InvalidPage : XcR K X_InvalidPage) (xe_InvalidPage : L2.ExcC K X_InvalidPage) (xs_InvalidPage : PySem.W.subIn K (.ref X_InvalidPage) (.ref X_InvalidPage) = some true)
    (xr_InvalidDoor : XcR K X_InvalidDoor) (xe_InvalidDoor : L2.ExcC K X_InvalidDoor) (xs_InvalidDoor : PySem.W.subIn K (.ref X_InvalidDoor) (.ref X_InvalidDoor) = some true)
    (xr_InvalidChoice : XcR K X_InvalidChoice) (xe_InvalidChoice : L2.ExcC K X_InvalidChoice) (xs_InvalidChoice : PySem.W.subIn K (.ref X_InvalidChoice) (.ref X_InvalidChoice) = some true)
    (xr_InvalidIndex : XcR K X_InvalidIndex) (xe_InvalidIndex : L2.ExcC K X_InvalidIndex) (xs_InvalidIndex : PySem.W.subIn K (.ref X_InvalidIndex) (.ref X_InvalidIndex) = some true)
    (xr_Unlike : XcR K X_Unlike) (xe_Unlike : L2.ExcC K X_Unlike) (xs_Unlike : PySem.W.subIn K (.ref X_Unlike) (.ref X_Unlike) = some true)
    (xr_Needless : XcR K X_Needless) (xe_Needless : L2.ExcC K X_Needless) (xs_Needless : PySem.W.subIn K (.ref X_Needless) (.ref X_Needless) = some true)
    (xr_NothingThere : XcR K X_NothingThere) (xe_NothingThere : L2.ExcC K X_NothingThere) (xs_NothingThere : PySem.W.subIn K (.ref X_NothingThere) (.ref X_NothingThere) = some true)
    (xr_NoBlock : XcR K X_NoBlock) (xe_NoBlock : L2.ExcC K X_NoBlock) (xs_NoBlock : PySem.W.subIn K (.ref X_NoBlock) (.ref X_NoBlock) = some true)
    (xr_NothingToUndo : XcR K X_NothingToUndo) (xe_NothingToUndo : L2.ExcC K X_NothingToUndo) (xs_NothingToUndo : PySem.W.subIn K (.ref X_NothingToUndo) (.ref X_NothingToUndo) = some true)
    (xr_InvalidCommand : XcR K X_InvalidCommand) (xe_InvalidCommand : L2.ExcC K X_InvalidCommand) (xs_InvalidCommand : PySem.W.subIn K (.ref X_InvalidCommand) (.ref X_InvalidCommand) = some true)
    (xo_Mixed : K.lookup X_Mixed = some (excClassObj inm_Mixed iq_Mixed X_Mixed iN_Mixed ibs_Mixed ibm_Mixed true isn_Mixed isu_Mixed iab_Mixed ico_Mixed idd_Mixed ik0_Mixed ik1_Mixed ik2_Mixed ik3_Mixed ik5_Mixed "ValueError.__new__")) (xm_Mixed : PySem.HandSPX.refsVE ibm_Mixed = true)
    (xs1_Mixed : PySem.W.findIn K (.ref X_Mixed) "__setattr__" = some (some (.builtin "object.__setattr__"))) (xs2_Mixed : PySem.W.subIn K (.ref X_Mixed) (.type "BaseException") = some true) (xs3_Mixed : PySem.W.keepIn K (.ref X_Mixed) = true) (xs4_Mixed : PySem.W.findIn K (.ref X_Mixed) "wishes" = some none)
    (xs5_Mixed : PySem.W.nsIn K mainGlobals "super" = some none) (xs6_Mixed : PySem.W.nsIn K cStatics "thirdparty.any" = some none) (xs7_Mixed : ibm_Mixed = .ref iW_Mixed :: .type "ValueError" :: ibr_Mixed) (xs7a_Mixed : K.lookup iW_Mixed = some ⟨iwc_Mixed, iwd_Mixed, .cls iwk_Mixed, iws_Mixed⟩) (xs7b_Mixed : PySem.W.nsIn K iwk_Mixed.ns "__init__" = some none) (xs8_Mixed : PySem.W.subIn K (.ref X_Mixed) (.type "ValueError") = some true) (xs9_Mixed : PySem.W.mroIn K X_Mixed (.ref X_Mixed) = some true)
    (xt1_Mixed : (l.prog.main.scope.names.lookup ("super" : Str)).isSome = false) (xt2_Mixed : PySem.W.findIn K (.ref X_Mixed) "__init__" = some (some (.ref iI_Mixed))) (xt3_Mixed : PySem.W.typeIn K (.ref iI_Mixed) = some (.type "function"))
    (xt4_Mixed : K.lookup iI_Mixed = some ⟨ioc_Mixed, iod_Mixed, .func (PySem.W.fnX "__init__" iql_Mixed (defArgs iniS_Mixed) (defBody iniS_Mixed) (defScope iniS_Mixed) [("__class__", icc_Mixed)] .none ikV_Mixed idc_Mixed ipm_Mixed ian_Mixed (.ref icd_Mixed) ict_Mixed), ios_Mixed⟩) (xt5_Mixed : PySem.W.codeIn K (.ref icd_Mixed) iql_Mixed = true) (xt6_Mixed : K.lookup icd_Mixed = some ⟨icc1_Mixed, ica_Mixed, .fields ivs_Mixed, ioa_Mixed⟩) (xt7_Mixed : ivs_Mixed[2]? = some (.str ifl_Mixed itf_Mixed)) (xt8_Mixed : ((l.prog.main.file : Str) == ifl_Mixed) = true) (xt9_Mixed : K.lookup icc_Mixed = some ⟨icc2_Mixed, icl_Mixed, .cell (some (.ref X_Mixed)), iob_Mixed⟩)
    (xe_Mixed : L2.ExcC K X_Mixed) (xs_Mixed : PySem.W.subIn K (.ref X_Mixed) (.ref X_Mixed) = some true)
    (xo_InvalidWords : K.lookup X_InvalidWords = some (excClassObj inm_InvalidWords iq_InvalidWords X_InvalidWords iN_InvalidWords ibs_InvalidWords ibm_InvalidWords true isn_InvalidWords isu_InvalidWords iab_InvalidWords ico_InvalidWords idd_InvalidWords ik0_InvalidWords ik1_InvalidWords ik2_InvalidWords ik3_InvalidWords ik5_InvalidWords "ValueError.__new__")) (xm_InvalidWords : PySem.HandSPX.refsVE ibm_InvalidWords = true)
    (xs1_InvalidWords : PySem.W.findIn K (.ref X_InvalidWords) "__setattr__" = some (some (.builtin "object.__setattr__"))) (xs2_InvalidWords : PySem.W.subIn K (.ref X_InvalidWords) (.type "BaseException") = some true) (xs3_InvalidWords : PySem.W.keepIn K (.ref X_InvalidWords) = true) (xs4_InvalidWords : PySem.W.findIn K (.ref X_InvalidWords) "place" = some none)
    (xs5_InvalidWords : PySem.W.nsIn K mainGlobals "super" = some none) (xs6_InvalidWords : PySem.W.nsIn K cStatics "thirdparty.any" = some none) (xs7_InvalidWords : ibm_InvalidWords = .ref iW_InvalidWords :: .type "ValueError" :: ibr_InvalidWords) (xs7a_InvalidWords : K.lookup iW_InvalidWords = some ⟨iwc_InvalidWords, iwd_InvalidWords, .cls iwk_InvalidWords, iws_InvalidWords⟩) (xs7b_InvalidWords : PySem.W.nsIn K iwk_InvalidWords.ns "__init__" = some none) (xs8_InvalidWords : PySem.W.subIn K (.ref X_InvalidWords) (.type "ValueError") = some true) (xs9_InvalidWords : PySem.W.mroIn K X_InvalidWords (.ref X_InvalidWords) = some true)
    (xt1_InvalidWords : (l.prog.main.scope.names.lookup ("super" : Str)).isSome = false) (xt2_InvalidWords : PySem.W.findIn K (.ref X_InvalidWords) "__init__" = some (some (.ref iI_InvalidWords))) (xt3_InvalidWords : PySem.W.typeIn K (.ref iI_InvalidWords) = some (.type "function"))
    (xt4_InvalidWords : K.lookup iI_InvalidWords = some ⟨ioc_InvalidWords, iod_InvalidWords, .func (PySem.W.fnX "__init__" iql_InvalidWords (defArgs iniS_InvalidWords) (defBody iniS_InvalidWords) (defScope iniS_InvalidWords) [("__class__", icc_InvalidWords)] .none ikV_InvalidWords idc_InvalidWords ipm_InvalidWords ian_InvalidWords (.ref icd_InvalidWords) ict_InvalidWords), ios_InvalidWords⟩) (xt5_InvalidWords : PySem.W.codeIn K (.ref icd_InvalidWords) iql_InvalidWords = true) (xt6_InvalidWords : K.lookup icd_InvalidWords = some ⟨icc1_InvalidWords, ica_InvalidWords, .fields ivs_InvalidWords, ioa_InvalidWords⟩) (xt7_InvalidWords : ivs_InvalidWords[2]? = some (.str ifl_InvalidWords itf_InvalidWords)) (xt8_InvalidWords : ((l.prog.main.file : Str) == ifl_InvalidWords) = true) (xt9_InvalidWords : K.lookup icc_InvalidWords = some ⟨icc2_InvalidWords, icl_InvalidWords, .cell (some (.ref X_InvalidWords)), iob_InvalidWords⟩)
    (xe_InvalidWords : L2.ExcC K X_InvalidWords) (xs_InvalidWords : PySem.W.subIn K (.ref X_InvalidWords) (.ref X_InvalidWords) = some true)
    (xr_WishError : XcR K X_WishError) (xe_WishError : L2.ExcC K X_WishError) (xs_WishError : PySem.W.subIn K (.ref X_WishError) (.ref X_WishError) = some true)
    (xk_InvalidTree_WishError : PySem.W.subIn K (.ref X_InvalidTree) (.ref X_WishError) = some true)
    (xk_InvalidLocale_WishError : PySem.W.subIn K (.ref X_InvalidLocale) (.ref X_WishError) = some true)
    (xk_InvalidWishes_WishError : PySem.W.subIn K (.ref X_InvalidWishes) (.ref X_WishError) = some true)
    (xk_InvalidWay_WishError : PySem.W.subIn K (.ref X_InvalidWay) (.ref X_WishError) = some true)
    (xk_InvalidCatalog_WishError : PySem.W.subIn K (.ref X_InvalidCatalog) (.ref X_WishError) = some true)
    (xk_InvalidKey_WishError : PySem.W.subIn K (.ref X_InvalidKey) (.ref X_WishError) = some true)
    (xk_InvalidText_WishError : PySem.W.subIn K (.ref X_InvalidText) (.ref X_WishError) = some true)
    (xk_InvalidPage_WishError : PySem.W.subIn K (.ref X_InvalidPage) (.ref X_WishError) = some true)
    (xk_InvalidDoor_WishError : PySem.W.subIn K (.ref X_InvalidDoor) (.ref X_WishError) = some true)
    (xk_InvalidChoice_WishError : PySem.W.subIn K (.ref X_InvalidChoice) (.ref X_WishError) = some true)
    (xk_InvalidIndex_WishError : PySem.W.subIn K (.ref X_InvalidIndex) (.ref X_WishError) = some true)
    (xk_Unlike_WishError : PySem.W.subIn K (.ref X_Unlike) (.ref X_WishError) = some true)
    (xk_Needless_WishError : PySem.W.subIn K (.ref X_Needless) (.ref X_WishError) = some true)
    (xk_NothingThere_WishError : PySem.W.subIn K (.ref X_NothingThere) (.ref X_WishError) = some true)
    (xk_NoBlock_WishError : PySem.W.subIn K (.ref X_NoBlock) (.ref X_WishError) = some true)
    (xk_NothingToUndo_WishError : PySem.W.subIn K (.ref X_NothingToUndo) (.ref X_WishError) = some true)
    (xk_InvalidCommand_WishError : PySem.W.subIn K (.ref X_InvalidCommand) (.ref X_WishError) = some true)
    (xk_Mixed_WishError : PySem.W.subIn K (.ref X_Mixed) (.ref X_WishError) = some true)
    (xk_InvalidWords_WishError : PySem.W.subIn K (.ref X_InvalidWords) (.ref X_WishError) = some true)
    (xk_WishError_WishError : PySem.W.subIn K (.ref X_WishError) (.ref X_WishError) = some true)
    (xk_InvalidTree_InvalidTree : PySem.W.subIn K (.ref X_InvalidTree) (.ref X_InvalidTree) = some true)
    (xk_InvalidLocale_InvalidTree : PySem.W.subIn K (.ref X_InvalidLocale) (.ref X_InvalidTree) = some false)
    (xk_InvalidWishes_InvalidTree : PySem.W.subIn K (.ref X_InvalidWishes) (.ref X_InvalidTree) = some false)
    (xk_InvalidWay_InvalidTree : PySem.W.subIn K (.ref X_InvalidWay) (.ref X_InvalidTree) = some false)
    (xk_InvalidCatalog_InvalidTree : PySem.W.subIn K (.ref X_InvalidCatalog) (.ref X_InvalidTree) = some false)
    (xk_InvalidKey_InvalidTree : PySem.W.subIn K (.ref X_InvalidKey) (.ref X_InvalidTree) = some false)
    (xk_InvalidText_InvalidTree : PySem.W.subIn K (.ref X_InvalidText) (.ref X_InvalidTree) = some false)
    (xk_InvalidPage_InvalidTree : PySem.W.subIn K (.ref X_InvalidPage) (.ref X_InvalidTree) = some false)
    (xk_InvalidDoor_InvalidTree : PySem.W.subIn K (.ref X_InvalidDoor) (.ref X_InvalidTree) = some false)
    (xk_InvalidChoice_InvalidTree : PySem.W.subIn K (.ref X_InvalidChoice) (.ref X_InvalidTree) = some false)
    (xk_InvalidIndex_InvalidTree : PySem.W.subIn K (.ref X_InvalidIndex) (.ref X_InvalidTree) = some false)
    (xk_Unlike_InvalidTree : PySem.W.subIn K (.ref X_Unlike) (.ref X_InvalidTree) = some false)
    (xk_Needless_InvalidTree : PySem.W.subIn K (.ref X_Needless) (.ref X_InvalidTree) = some false)
    (xk_NothingThere_InvalidTree : PySem.W.subIn K (.ref X_NothingThere) (.ref X_InvalidTree) = some false)
    (xk_NoBlock_InvalidTree : PySem.W.subIn K (.ref X_NoBlock) (.ref X_InvalidTree) = some false)
    (xk_NothingToUndo_InvalidTree : PySem.W.subIn K (.ref X_NothingToUndo) (.ref X_InvalidTree) = some false)
    (xk_InvalidCommand_InvalidTree : PySem.W.subIn K (.ref X_InvalidCommand) (.ref X_InvalidTree) = some false)
    (xk_Mixed_InvalidTree : PySem.W.subIn K (.ref X_Mixed) (.ref X_InvalidTree) = some false)
    (xk_InvalidWords_InvalidTree : PySem.W.subIn K (.ref X_InvalidWords) (.ref X_InvalidTree) = some false)
    (xk_WishError_InvalidTree : PySem.W.subIn K (.ref X_WishError) (.ref X_InvalidTree) = some false)
    (xk_InvalidTree_InvalidLocale : PySem.W.subIn K (.ref X_InvalidTree) (.ref X_InvalidLocale) = some false)
    (xk_InvalidLocale_InvalidLocale : PySem.W.subIn K (.ref X_InvalidLocale) (.ref X_InvalidLocale) = some true)
    (xk_InvalidWishes_InvalidLocale : PySem.W.subIn K (.ref X_InvalidWishes) (.ref X_InvalidLocale) = some false)
    (xk_InvalidWay_InvalidLocale : PySem.W.subIn K (.ref X_InvalidWay) (.ref X_InvalidLocale) = some false)
    (xk_InvalidCatalog_InvalidLocale : PySem.W.subIn K (.ref X_InvalidCatalog) (.ref X_InvalidLocale) = some false)
    (xk_InvalidKey_InvalidLocale : PySem.W.subIn K (.ref X_InvalidKey) (.ref X_InvalidLocale) = some false)
    (xk_InvalidText_InvalidLocale : PySem.W.subIn K (.ref X_InvalidText) (.ref X_InvalidLocale) = some false)
    (xk_InvalidPage_InvalidLocale : PySem.W.subIn K (.ref X_InvalidPage) (.ref X_InvalidLocale) = some false)
    (xk_InvalidDoor_InvalidLocale : PySem.W.subIn K (.ref X_InvalidDoor) (.ref X_InvalidLocale) = some false)
    (xk_InvalidChoice_InvalidLocale : PySem.W.subIn K (.ref X_InvalidChoice) (.ref X_InvalidLocale) = some false)
    (xk_InvalidIndex_InvalidLocale : PySem.W.subIn K (.ref X_InvalidIndex) (.ref X_InvalidLocale) = some false)
    (xk_Unlike_InvalidLocale : PySem.W.subIn K (.ref X_Unlike) (.ref X_InvalidLocale) = some false)
    (xk_Needless_InvalidLocale : PySem.W.subIn K (.ref X_Needless) (.ref X_InvalidLocale) = some false)
    (xk_NothingThere_InvalidLocale : PySem.W.subIn K (.ref X_NothingThere) (.ref X_InvalidLocale) = some false)
    (xk_NoBlock_InvalidLocale : PySem.W.subIn K (.ref X_NoBlock) (.ref X_InvalidLocale) = some false)
    (xk_NothingToUndo_InvalidLocale : PySem.W.subIn K (.ref X_NothingToUndo) (.ref X_InvalidLocale) = some false)
    (xk_InvalidCommand_InvalidLocale : PySem.W.subIn K (.ref X_InvalidCommand) (.ref X_InvalidLocale) = some false)
    (xk_Mixed_InvalidLocale : PySem.W.subIn K (.ref X_Mixed) (.ref X_InvalidLocale) = some false)
    (xk_InvalidWords_InvalidLocale : PySem.W.subIn K (.ref X_InvalidWords) (.ref X_InvalidLocale) = some false)
    (xk_WishError_InvalidLocale : PySem.W.subIn K (.ref X_WishError) (.ref X_InvalidLocale) = some false)
    (xk_InvalidTree_InvalidWishes : PySem.W.subIn K (.ref X_InvalidTree) (.ref X_InvalidWishes) = some false)
    (xk_InvalidLocale_InvalidWishes : PySem.W.subIn K (.ref X_InvalidLocale) (.ref X_InvalidWishes) = some false)
    (xk_InvalidWishes_InvalidWishes : PySem.W.subIn K (.ref X_InvalidWishes) (.ref X_InvalidWishes) = some true)
    (xk_InvalidWay_InvalidWishes : PySem.W.subIn K (.ref X_InvalidWay) (.ref X_InvalidWishes) = some false)
    (xk_InvalidCatalog_InvalidWishes : PySem.W.subIn K (.ref X_InvalidCatalog) (.ref X_InvalidWishes) = some false)
    (xk_InvalidKey_InvalidWishes : PySem.W.subIn K (.ref X_InvalidKey) (.ref X_InvalidWishes) = some false)
    (xk_InvalidText_InvalidWishes : PySem.W.subIn K (.ref X_InvalidText) (.ref X_InvalidWishes) = some false)
    (xk_InvalidPage_InvalidWishes : PySem.W.subIn K (.ref X_InvalidPage) (.ref X_InvalidWishes) = some false)
    (xk_InvalidDoor_InvalidWishes : PySem.W.subIn K (.ref X_InvalidDoor) (.ref X_InvalidWishes) = some false)
    (xk_InvalidChoice_InvalidWishes : PySem.W.subIn K (.ref X_InvalidChoice) (.ref X_InvalidWishes) = some false)
    (xk_InvalidIndex_InvalidWishes : PySem.W.subIn K (.ref X_InvalidIndex) (.ref X_InvalidWishes) = some false)
    (xk_Unlike_InvalidWishes : PySem.W.subIn K (.ref X_Unlike) (.ref X_InvalidWishes) = some false)
    (xk_Needless_InvalidWishes : PySem.W.subIn K (.ref X_Needless) (.ref X_InvalidWishes) = some false)
    (xk_NothingThere_InvalidWishes : PySem.W.subIn K (.ref X_NothingThere) (.ref X_InvalidWishes) = some false)
    (xk_NoBlock_InvalidWishes : PySem.W.subIn K (.ref X_NoBlock) (.ref X_InvalidWishes) = some false)
    (xk_NothingToUndo_InvalidWishes : PySem.W.subIn K (.ref X_NothingToUndo) (.ref X_InvalidWishes) = some false)
    (xk_InvalidCommand_InvalidWishes : PySem.W.subIn K (.ref X_InvalidCommand) (.ref X_InvalidWishes) = some false)
    (xk_Mixed_InvalidWishes : PySem.W.subIn K (.ref X_Mixed) (.ref X_InvalidWishes) = some false)
    (xk_InvalidWords_InvalidWishes : PySem.W.subIn K (.ref X_InvalidWords) (.ref X_InvalidWishes) = some false)
    (xk_WishError_InvalidWishes : PySem.W.subIn K (.ref X_WishError) (.ref X_InvalidWishes) = some false)
    (xk_InvalidTree_InvalidWay : PySem.W.subIn K (.ref X_InvalidTree) (.ref X_InvalidWay) = some false)
    (xk_InvalidLocale_InvalidWay : PySem.W.subIn K (.ref X_InvalidLocale) (.ref X_InvalidWay) = some false)
    (xk_InvalidWishes_InvalidWay : PySem.W.subIn K (.ref X_InvalidWishes) (.ref X_InvalidWay) = some false)
    (xk_InvalidWay_InvalidWay : PySem.W.subIn K (.ref X_InvalidWay) (.ref X_InvalidWay) = some true)
    (xk_InvalidCatalog_InvalidWay : PySem.W.subIn K (.ref X_InvalidCatalog) (.ref X_InvalidWay) = some false)
    (xk_InvalidKey_InvalidWay : PySem.W.subIn K (.ref X_InvalidKey) (.ref X_InvalidWay) = some false)
    (xk_InvalidText_InvalidWay : PySem.W.subIn K (.ref X_InvalidText) (.ref X_InvalidWay) = some false)
    (xk_InvalidPage_InvalidWay : PySem.W.subIn K (.ref X_InvalidPage) (.ref X_InvalidWay) = some false)
    (xk_InvalidDoor_InvalidWay : PySem.W.subIn K (.ref X_InvalidDoor) (.ref X_InvalidWay) = some false)
    (xk_InvalidChoice_InvalidWay : PySem.W.subIn K (.ref X_InvalidChoice) (.ref X_InvalidWay) = some false)
    (xk_InvalidIndex_InvalidWay : PySem.W.subIn K (.ref X_InvalidIndex) (.ref X_InvalidWay) = some false)
    (xk_Unlike_InvalidWay : PySem.W.subIn K (.ref X_Unlike) (.ref X_InvalidWay) = some false)
    (xk_Needless_InvalidWay : PySem.W.subIn K (.ref X_Needless) (.ref X_InvalidWay) = some false)
    (xk_NothingThere_InvalidWay : PySem.W.subIn K (.ref X_NothingThere) (.ref X_InvalidWay) = some false)
    (xk_NoBlock_InvalidWay : PySem.W.subIn K (.ref X_NoBlock) (.ref X_InvalidWay) = some false)
    (xk_NothingToUndo_InvalidWay : PySem.W.subIn K (.ref X_NothingToUndo) (.ref X_InvalidWay) = some false)
    (xk_InvalidCommand_InvalidWay : PySem.W.subIn K (.ref X_InvalidCommand) (.ref X_InvalidWay) = some false)
    (xk_Mixed_InvalidWay : PySem.W.subIn K (.ref X_Mixed) (.ref X_InvalidWay) = some false)
    (xk_InvalidWords_InvalidWay : PySem.W.subIn K (.ref X_InvalidWords) (.ref X_InvalidWay) = some false)
    (xk_WishError_InvalidWay : PySem.W.subIn K (.ref X_WishError) (.ref X_InvalidWay) = some false)
    (xk_InvalidTree_InvalidCatalog : PySem.W.subIn K (.ref X_InvalidTree) (.ref X_InvalidCatalog) = some false)
    (xk_InvalidLocale_InvalidCatalog : PySem.W.subIn K (.ref X_InvalidLocale) (.ref X_InvalidCatalog) = some false)
    (xk_InvalidWishes_InvalidCatalog : PySem.W.subIn K (.ref X_InvalidWishes) (.ref X_InvalidCatalog) = some false)
    (xk_InvalidWay_InvalidCatalog : PySem.W.subIn K (.ref X_InvalidWay) (.ref X_InvalidCatalog) = some false)
    (xk_InvalidCatalog_InvalidCatalog : PySem.W.subIn K (.ref X_InvalidCatalog) (.ref X_InvalidCatalog) = some true)
    (xk_InvalidKey_InvalidCatalog : PySem.W.subIn K (.ref X_InvalidKey) (.ref X_InvalidCatalog) = some false)
    (xk_InvalidText_InvalidCatalog : PySem.W.subIn K (.ref X_InvalidText) (.ref X_InvalidCatalog) = some false)
    (xk_InvalidPage_InvalidCatalog : PySem.W.subIn K (.ref X_InvalidPage) (.ref X_InvalidCatalog) = some false)
    (xk_InvalidDoor_InvalidCatalog : PySem.W.subIn K (.ref X_InvalidDoor) (.ref X_InvalidCatalog) = some false)
    (xk_InvalidChoice_InvalidCatalog : PySem.W.subIn K (.ref X_InvalidChoice) (.ref X_InvalidCatalog) = some false)
    (xk_InvalidIndex_InvalidCatalog : PySem.W.subIn K (.ref X_InvalidIndex) (.ref X_InvalidCatalog) = some false)
    (xk_Unlike_InvalidCatalog : PySem.W.subIn K (.ref X_Unlike) (.ref X_InvalidCatalog) = some false)
    (xk_Needless_InvalidCatalog : PySem.W.subIn K (.ref X_Needless) (.ref X_InvalidCatalog) = some false)
    (xk_NothingThere_InvalidCatalog : PySem.W.subIn K (.ref X_NothingThere) (.ref X_InvalidCatalog) = some false)
    (xk_NoBlock_InvalidCatalog : PySem.W.subIn K (.ref X_NoBlock) (.ref X_InvalidCatalog) = some false)
    (xk_NothingToUndo_InvalidCatalog : PySem.W.subIn K (.ref X_NothingToUndo) (.ref X_InvalidCatalog) = some false)
    (xk_InvalidCommand_InvalidCatalog : PySem.W.subIn K (.ref X_InvalidCommand) (.ref X_InvalidCatalog) = some false)
    (xk_Mixed_InvalidCatalog : PySem.W.subIn K (.ref X_Mixed) (.ref X_InvalidCatalog) = some false)
    (xk_InvalidWords_InvalidCatalog : PySem.W.subIn K (.ref X_InvalidWords) (.ref X_InvalidCatalog) = some false)
    (xk_WishError_InvalidCatalog : PySem.W.subIn K (.ref X_WishError) (.ref X_InvalidCatalog) = some false)
    (xk_InvalidTree_InvalidKey : PySem.W.subIn K (.ref X_InvalidTree) (.ref X_InvalidKey) = some false)
    (xk_InvalidLocale_InvalidKey : PySem.W.subIn K (.ref X_InvalidLocale) (.ref X_InvalidKey) = some false)
    (xk_InvalidWishes_InvalidKey : PySem.W.subIn K (.ref X_InvalidWishes) (.ref X_InvalidKey) = some false)
    (xk_InvalidWay_InvalidKey : PySem.W.subIn K (.ref X_InvalidWay) (.ref X_InvalidKey) = some false)
    (xk_InvalidCatalog_InvalidKey : PySem.W.subIn K (.ref X_InvalidCatalog) (.ref X_InvalidKey) = some false)
    (xk_InvalidKey_InvalidKey : PySem.W.subIn K (.ref X_InvalidKey) (.ref X_InvalidKey) = some true)
    (xk_InvalidText_InvalidKey : PySem.W.subIn K (.ref X_InvalidText) (.ref X_InvalidKey) = some false)
    (xk_InvalidPage_InvalidKey : PySem.W.subIn K (.ref X_InvalidPage) (.ref X_InvalidKey) = some false)
    (xk_InvalidDoor_InvalidKey : PySem.W.subIn K (.ref X_InvalidDoor) (.ref X_InvalidKey) = some false)
    (xk_InvalidChoice_InvalidKey : PySem.W.subIn K (.ref X_InvalidChoice) (.ref X_InvalidKey) = some false)
    (xk_InvalidIndex_InvalidKey : PySem.W.subIn K (.ref X_InvalidIndex) (.ref X_InvalidKey) = some false)
    (xk_Unlike_InvalidKey : PySem.W.subIn K (.ref X_Unlike) (.ref X_InvalidKey) = some false)
    (xk_Needless_InvalidKey : PySem.W.subIn K (.ref X_Needless) (.ref X_InvalidKey) = some false)
    (xk_NothingThere_InvalidKey : PySem.W.subIn K (.ref X_NothingThere) (.ref X_InvalidKey) = some false)
    (xk_NoBlock_InvalidKey : PySem.W.subIn K (.ref X_NoBlock) (.ref X_InvalidKey) = some false)
    (xk_NothingToUndo_InvalidKey : PySem.W.subIn K (.ref X_NothingToUndo) (.ref X_InvalidKey) = some false)
    (xk_InvalidCommand_InvalidKey : PySem.W.subIn K (.ref X_InvalidCommand) (.ref X_InvalidKey) = some false)
    (xk_Mixed_InvalidKey : PySem.W.subIn K (.ref X_Mixed) (.ref X_InvalidKey) = some false)
    (xk_InvalidWords_InvalidKey : PySem.W.subIn K (.ref X_InvalidWords) (.ref X_InvalidKey) = some false)
    (xk_WishError_InvalidKey : PySem.W.subIn K (.ref X_WishError) (.ref X_InvalidKey) = some false)
    (xk_InvalidTree_InvalidText : PySem.W.subIn K (.ref X_InvalidTree) (.ref X_InvalidText) = some false)
    (xk_InvalidLocale_InvalidText : PySem.W.subIn K (.ref X_InvalidLocale) (.ref X_InvalidText) = some false)
    (xk_InvalidWishes_InvalidText : PySem.W.subIn K (.ref X_InvalidWishes) (.ref X_InvalidText) = some false)
    (xk_InvalidWay_InvalidText : PySem.W.subIn K (.ref X_InvalidWay) (.ref X_InvalidText) = some false)
    (xk_InvalidCatalog_InvalidText : PySem.W.subIn K (.ref X_InvalidCatalog) (.ref X_InvalidText) = some false)
    (xk_InvalidKey_InvalidText : PySem.W.subIn K (.ref X_InvalidKey) (.ref X_InvalidText) = some false)
    (xk_InvalidText_InvalidText : PySem.W.subIn K (.ref X_InvalidText) (.ref X_InvalidText) = some true)
    (xk_InvalidPage_InvalidText : PySem.W.subIn K (.ref X_InvalidPage) (.ref X_InvalidText) = some false)
    (xk_InvalidDoor_InvalidText : PySem.W.subIn K (.ref X_InvalidDoor) (.ref X_InvalidText) = some false)
    (xk_InvalidChoice_InvalidText : PySem.W.subIn K (.ref X_InvalidChoice) (.ref X_InvalidText) = some false)
    (xk_InvalidIndex_InvalidText : PySem.W.subIn K (.ref X_InvalidIndex) (.ref X_InvalidText) = some false)
    (xk_Unlike_InvalidText : PySem.W.subIn K (.ref X_Unlike) (.ref X_InvalidText) = some false)
    (xk_Needless_InvalidText : PySem.W.subIn K (.ref X_Needless) (.ref X_InvalidText) = some false)
    (xk_NothingThere_InvalidText : PySem.W.subIn K (.ref X_NothingThere) (.ref X_InvalidText) = some false)
    (xk_NoBlock_InvalidText : PySem.W.subIn K (.ref X_NoBlock) (.ref X_InvalidText) = some false)
    (xk_NothingToUndo_InvalidText : PySem.W.subIn K (.ref X_NothingToUndo) (.ref X_InvalidText) = some false)
    (xk_InvalidCommand_InvalidText : PySem.W.subIn K (.ref X_InvalidCommand) (.ref X_InvalidText) = some false)
    (xk_Mixed_InvalidText : PySem.W.subIn K (.ref X_Mixed) (.ref X_InvalidText) = some false)
    (xk_InvalidWords_InvalidText : PySem.W.subIn K (.ref X_InvalidWords) (.ref X_InvalidText) = some false)
    (xk_WishError_InvalidText : PySem.W.subIn K (.ref X_WishError) (.ref X_InvalidText) = some false)
    (xk_InvalidTree_InvalidPage : PySem.W.subIn K (.ref X_InvalidTree) (.ref X_InvalidPage) = some false)
    (xk_InvalidLocale_InvalidPage : PySem.W.subIn K (.ref X_InvalidLocale) (.ref X_InvalidPage) = some false)
    (xk_InvalidWishes_InvalidPage : PySem.W.subIn K (.ref X_InvalidWishes) (.ref X_InvalidPage) = some false)
    (xk_InvalidWay_InvalidPage : PySem.W.subIn K (.ref X_InvalidWay) (.ref X_InvalidPage) = some false)
    (xk_InvalidCatalog_InvalidPage : PySem.W.subIn K (.ref X_InvalidCatalog) (.ref X_InvalidPage) = some false)
    (xk_InvalidKey_InvalidPage : PySem.W.subIn K (.ref X_InvalidKey) (.ref X_InvalidPage) = some false)
    (xk_InvalidText_InvalidPage : PySem.W.subIn K (.ref X_InvalidText) (.ref X_InvalidPage) = some false)
    (xk_InvalidPage_InvalidPage : PySem.W.subIn K (.ref X_InvalidPage) (.ref X_InvalidPage) = some true)
    (xk_InvalidDoor_InvalidPage : PySem.W.subIn K (.ref X_InvalidDoor) (.ref X_InvalidPage) = some false)
    (xk_InvalidChoice_InvalidPage : PySem.W.subIn K (.ref X_InvalidChoice) (.ref X_InvalidPage) = some false)
    (xk_InvalidIndex_InvalidPage : PySem.W.subIn K (.ref X_InvalidIndex) (.ref X_InvalidPage) = some false)
    (xk_Unlike_InvalidPage : PySem.W.subIn K (.ref X_Unlike) (.ref X_InvalidPage) = some false)
    (xk_Needless_InvalidPage : PySem.W.subIn K (.ref X_Needless) (.ref X_InvalidPage) = some false)
    (xk_NothingThere_InvalidPage : PySem.W.subIn K (.ref X_NothingThere) (.ref X_InvalidPage) = some false)
    (xk_NoBlock_InvalidPage : PySem.W.subIn K (.ref X_NoBlock) (.ref X_InvalidPage) = some false)
    (xk_NothingToUndo_InvalidPage : PySem.W.subIn K (.ref X_NothingToUndo) (.ref X_InvalidPage) = some false)
    (xk_InvalidCommand_InvalidPage : PySem.W.subIn K (.ref X_InvalidCommand) (.ref X_InvalidPage) = some false)
    (xk_Mixed_InvalidPage : PySem.W.subIn K (.ref X_Mixed) (.ref X_InvalidPage) = some false)
    (xk_InvalidWords_InvalidPage : PySem.W.subIn K (.ref X_InvalidWords) (.ref X_InvalidPage) = some false)
    (xk_WishError_InvalidPage : PySem.W.subIn K (.ref X_WishError) (.ref X_InvalidPage) = some false)
    (xk_InvalidTree_InvalidDoor : PySem.W.subIn K (.ref X_InvalidTree) (.ref X_InvalidDoor) = some false)
    (xk_InvalidLocale_InvalidDoor : PySem.W.subIn K (.ref X_InvalidLocale) (.ref X_InvalidDoor) = some false)
    (xk_InvalidWishes_InvalidDoor : PySem.W.subIn K (.ref X_InvalidWishes) (.ref X_InvalidDoor) = some false)
    (xk_InvalidWay_InvalidDoor : PySem.W.subIn K (.ref X_InvalidWay) (.ref X_InvalidDoor) = some false)
    (xk_InvalidCatalog_InvalidDoor : PySem.W.subIn K (.ref X_InvalidCatalog) (.ref X_InvalidDoor) = some false)
    (xk_InvalidKey_InvalidDoor : PySem.W.subIn K (.ref X_InvalidKey) (.ref X_InvalidDoor) = some false)
    (xk_InvalidText_InvalidDoor : PySem.W.subIn K (.ref X_InvalidText) (.ref X_InvalidDoor) = some false)
    (xk_InvalidPage_InvalidDoor : PySem.W.subIn K (.ref X_InvalidPage) (.ref X_InvalidDoor) = some false)
    (xk_InvalidDoor_InvalidDoor : PySem.W.subIn K (.ref X_InvalidDoor) (.ref X_InvalidDoor) = some true)
    (xk_InvalidChoice_InvalidDoor : PySem.W.subIn K (.ref X_InvalidChoice) (.ref X_InvalidDoor) = some false)
    (xk_InvalidIndex_InvalidDoor : PySem.W.subIn K (.ref X_InvalidIndex) (.ref X_InvalidDoor) = some false)
    (xk_Unlike_InvalidDoor : PySem.W.subIn K (.ref X_Unlike) (.ref X_InvalidDoor) = some false)
    (xk_Needless_InvalidDoor : PySem.W.subIn K (.ref X_Needless) (.ref X_InvalidDoor) = some false)
    (xk_NothingThere_InvalidDoor : PySem.W.subIn K (.ref X_NothingThere) (.ref X_InvalidDoor) = some false)
    (xk_NoBlock_InvalidDoor : PySem.W.subIn K (.ref X_NoBlock) (.ref X_InvalidDoor) = some false)
    (xk_NothingToUndo_InvalidDoor : PySem.W.subIn K (.ref X_NothingToUndo) (.ref X_InvalidDoor) = some false)
    (xk_InvalidCommand_InvalidDoor : PySem.W.subIn K (.ref X_InvalidCommand) (.ref X_InvalidDoor) = some false)
    (xk_Mixed_InvalidDoor : PySem.W.subIn K (.ref X_Mixed) (.ref X_InvalidDoor) = some false)
    (xk_InvalidWords_InvalidDoor : PySem.W.subIn K (.ref X_InvalidWords) (.ref X_InvalidDoor) = some false)
    (xk_WishError_InvalidDoor : PySem.W.subIn K (.ref X_WishError) (.ref X_InvalidDoor) = some false)
    (xk_InvalidTree_InvalidChoice : PySem.W.subIn K (.ref X_InvalidTree) (.ref X_InvalidChoice) = some false)
    (xk_InvalidLocale_InvalidChoice : PySem.W.subIn K (.ref X_InvalidLocale) (.ref X_InvalidChoice) = some false)
    (xk_InvalidWishes_InvalidChoice : PySem.W.subIn K (.ref X_InvalidWishes) (.ref X_InvalidChoice) = some false)
    (xk_InvalidWay_InvalidChoice : PySem.W.subIn K (.ref X_InvalidWay) (.ref X_InvalidChoice) = some false)
    (xk_InvalidCatalog_InvalidChoice : PySem.W.subIn K (.ref X_InvalidCatalog) (.ref X_InvalidChoice) = some false)
    (xk_InvalidKey_InvalidChoice : PySem.W.subIn K (.ref X_InvalidKey) (.ref X_InvalidChoice) = some false)
    (xk_InvalidText_InvalidChoice : PySem.W.subIn K (.ref X_InvalidText) (.ref X_InvalidChoice) = some false)
    (xk_InvalidPage_InvalidChoice : PySem.W.subIn K (.ref X_InvalidPage) (.ref X_InvalidChoice) = some false)
    (xk_InvalidDoor_InvalidChoice : PySem.W.subIn K (.ref X_InvalidDoor) (.ref X_InvalidChoice) = some false)
    (xk_InvalidChoice_InvalidChoice : PySem.W.subIn K (.ref X_InvalidChoice) (.ref X_InvalidChoice) = some true)
    (xk_InvalidIndex_InvalidChoice : PySem.W.subIn K (.ref X_InvalidIndex) (.ref X_InvalidChoice) = some false)
    (xk_Unlike_InvalidChoice : PySem.W.subIn K (.ref X_Unlike) (.ref X_InvalidChoice) = some false)
    (xk_Needless_InvalidChoice : PySem.W.subIn K (.ref X_Needless) (.ref X_InvalidChoice) = some false)
    (xk_NothingThere_InvalidChoice : PySem.W.subIn K (.ref X_NothingThere) (.ref X_InvalidChoice) = some false)
    (xk_NoBlock_InvalidChoice : PySem.W.subIn K (.ref X_NoBlock) (.ref X_InvalidChoice) = some false)
    (xk_NothingToUndo_InvalidChoice : PySem.W.subIn K (.ref X_NothingToUndo) (.ref X_InvalidChoice) = some false)
    (xk_InvalidCommand_InvalidChoice : PySem.W.subIn K (.ref X_InvalidCommand) (.ref X_InvalidChoice) = some false)
    (xk_Mixed_InvalidChoice : PySem.W.subIn K (.ref X_Mixed) (.ref X_InvalidChoice) = some false)
    (xk_InvalidWords_InvalidChoice : PySem.W.subIn K (.ref X_InvalidWords) (.ref X_InvalidChoice) = some false)
    (xk_WishError_InvalidChoice : PySem.W.subIn K (.ref X_WishError) (.ref X_InvalidChoice) = some false)
    (xk_InvalidTree_InvalidIndex : PySem.W.subIn K (.ref X_InvalidTree) (.ref X_InvalidIndex) = some false)
    (xk_InvalidLocale_InvalidIndex : PySem.W.subIn K (.ref X_InvalidLocale) (.ref X_InvalidIndex) = some false)
    (xk_InvalidWishes_InvalidIndex : PySem.W.subIn K (.ref X_InvalidWishes) (.ref X_InvalidIndex) = some false)
    (xk_InvalidWay_InvalidIndex : PySem.W.subIn K (.ref X_InvalidWay) (.ref X_InvalidIndex) = some false)
    (xk_InvalidCatalog_InvalidIndex : PySem.W.subIn K (.ref X_InvalidCatalog) (.ref X_InvalidIndex) = some false)
    (xk_InvalidKey_InvalidIndex : PySem.W.subIn K (.ref X_InvalidKey) (.ref X_InvalidIndex) = some false)
    (xk_InvalidText_InvalidIndex : PySem.W.subIn K (.ref X_InvalidText) (.ref X_InvalidIndex) = some false)
    (xk_InvalidPage_InvalidIndex : PySem.W.subIn K (.ref X_InvalidPage) (.ref X_InvalidIndex) = some false)
    (xk_InvalidDoor_InvalidIndex : PySem.W.subIn K (.ref X_InvalidDoor) (.ref X_InvalidIndex) = some false)
    (xk_InvalidChoice_InvalidIndex : PySem.W.subIn K (.ref X_InvalidChoice) (.ref X_InvalidIndex) = some false)
    (xk_InvalidIndex_InvalidIndex : PySem.W.subIn K (.ref X_InvalidIndex) (.ref X_InvalidIndex) = some true)
    (xk_Unlike_InvalidIndex : PySem.W.subIn K (.ref X_Unlike) (.ref X_InvalidIndex) = some false)
    (xk_Needless_InvalidIndex : PySem.W.subIn K (.ref X_Needless) (.ref X_InvalidIndex) = some false)
    (xk_NothingThere_InvalidIndex : PySem.W.subIn K (.ref X_NothingThere) (.ref X_InvalidIndex) = some false)
    (xk_NoBlock_InvalidIndex : PySem.W.subIn K (.ref X_NoBlock) (.ref X_InvalidIndex) = some false)
    (xk_NothingToUndo_InvalidIndex : PySem.W.subIn K (.ref X_NothingToUndo) (.ref X_InvalidIndex) = some false)
    (xk_InvalidCommand_InvalidIndex : PySem.W.subIn K (.ref X_InvalidCommand) (.ref X_InvalidIndex) = some false)
    (xk_Mixed_InvalidIndex : PySem.W.subIn K (.ref X_Mixed) (.ref X_InvalidIndex) = some false)
    (xk_InvalidWords_InvalidIndex : PySem.W.subIn K (.ref X_InvalidWords) (.ref X_InvalidIndex) = some false)
    (xk_WishError_InvalidIndex : PySem.W.subIn K (.ref X_WishError) (.ref X_InvalidIndex) = some false)
    (xk_InvalidTree_Unlike : PySem.W.subIn K (.ref X_InvalidTree) (.ref X_Unlike) = some false)
    (xk_InvalidLocale_Unlike : PySem.W.subIn K (.ref X_InvalidLocale) (.ref X_Unlike) = some false)
    (xk_InvalidWishes_Unlike : PySem.W.subIn K (.ref X_InvalidWishes) (.ref X_Unlike) = some false)
    (xk_InvalidWay_Unlike : PySem.W.subIn K (.ref X_InvalidWay) (.ref X_Unlike) = some false)
    (xk_InvalidCatalog_Unlike : PySem.W.subIn K (.ref X_InvalidCatalog) (.ref X_Unlike) = some false)
    (xk_InvalidKey_Unlike : PySem.W.subIn K (.ref X_InvalidKey) (.ref X_Unlike) = some false)
    (xk_InvalidText_Unlike : PySem.W.subIn K (.ref X_InvalidText) (.ref X_Unlike) = some false)
    (xk_InvalidPage_Unlike : PySem.W.subIn K (.ref X_InvalidPage) (.ref X_Unlike) = some false)
    (xk_InvalidDoor_Unlike : PySem.W.subIn K (.ref X_InvalidDoor) (.ref X_Unlike) = some false)
    (xk_InvalidChoice_Unlike : PySem.W.subIn K (.ref X_InvalidChoice) (.ref X_Unlike) = some false)
    (xk_InvalidIndex_Unlike : PySem.W.subIn K (.ref X_InvalidIndex) (.ref X_Unlike) = some false)
    (xk_Unlike_Unlike : PySem.W.subIn K (.ref X_Unlike) (.ref X_Unlike) = some true)
    (xk_Needless_Unlike : PySem.W.subIn K (.ref X_Needless) (.ref X_Unlike) = some false)
    (xk_NothingThere_Unlike : PySem.W.subIn K (.ref X_NothingThere) (.ref X_Unlike) = some false)
    (xk_NoBlock_Unlike : PySem.W.subIn K (.ref X_NoBlock) (.ref X_Unlike) = some false)
    (xk_NothingToUndo_Unlike : PySem.W.subIn K (.ref X_NothingToUndo) (.ref X_Unlike) = some false)
    (xk_InvalidCommand_Unlike : PySem.W.subIn K (.ref X_InvalidCommand) (.ref X_Unlike) = some false)
    (xk_Mixed_Unlike : PySem.W.subIn K (.ref X_Mixed) (.ref X_Unlike) = some false)
    (xk_InvalidWords_Unlike : PySem.W.subIn K (.ref X_InvalidWords) (.ref X_Unlike) = some false)
    (xk_WishError_Unlike : PySem.W.subIn K (.ref X_WishError) (.ref X_Unlike) = some false)
    (xk_InvalidTree_Needless : PySem.W.subIn K (.ref X_InvalidTree) (.ref X_Needless) = some false)
    (xk_InvalidLocale_Needless : PySem.W.subIn K (.ref X_InvalidLocale) (.ref X_Needless) = some false)
    (xk_InvalidWishes_Needless : PySem.W.subIn K (.ref X_InvalidWishes) (.ref X_Needless) = some false)
    (xk_InvalidWay_Needless : PySem.W.subIn K (.ref X_InvalidWay) (.ref X_Needless) = some false)
    (xk_InvalidCatalog_Needless : PySem.W.subIn K (.ref X_InvalidCatalog) (.ref X_Needless) = some false)
    (xk_InvalidKey_Needless : PySem.W.subIn K (.ref X_InvalidKey) (.ref X_Needless) = some false)
    (xk_InvalidText_Needless : PySem.W.subIn K (.ref X_InvalidText) (.ref X_Needless) = some false)
    (xk_InvalidPage_Needless : PySem.W.subIn K (.ref X_InvalidPage) (.ref X_Needless) = some false)
    (xk_InvalidDoor_Needless : PySem.W.subIn K (.ref X_InvalidDoor) (.ref X_Needless) = some false)
    (xk_InvalidChoice_Needless : PySem.W.subIn K (.ref X_InvalidChoice) (.ref X_Needless) = some false)
    (xk_InvalidIndex_Needless : PySem.W.subIn K (.ref X_InvalidIndex) (.ref X_Needless) = some false)
    (xk_Unlike_Needless : PySem.W.subIn K (.ref X_Unlike) (.ref X_Needless) = some false)
    (xk_Needless_Needless : PySem.W.subIn K (.ref X_Needless) (.ref X_Needless) = some true)
    (xk_NothingThere_Needless : PySem.W.subIn K (.ref X_NothingThere) (.ref X_Needless) = some false)
    (xk_NoBlock_Needless : PySem.W.subIn K (.ref X_NoBlock) (.ref X_Needless) = some false)
    (xk_NothingToUndo_Needless : PySem.W.subIn K (.ref X_NothingToUndo) (.ref X_Needless) = some false)
    (xk_InvalidCommand_Needless : PySem.W.subIn K (.ref X_InvalidCommand) (.ref X_Needless) = some false)
    (xk_Mixed_Needless : PySem.W.subIn K (.ref X_Mixed) (.ref X_Needless) = some false)
    (xk_InvalidWords_Needless : PySem.W.subIn K (.ref X_InvalidWords) (.ref X_Needless) = some false)
    (xk_WishError_Needless : PySem.W.subIn K (.ref X_WishError) (.ref X_Needless) = some false)
    (xk_InvalidTree_NothingThere : PySem.W.subIn K (.ref X_InvalidTree) (.ref X_NothingThere) = some false)
    (xk_InvalidLocale_NothingThere : PySem.W.subIn K (.ref X_InvalidLocale) (.ref X_NothingThere) = some false)
    (xk_InvalidWishes_NothingThere : PySem.W.subIn K (.ref X_InvalidWishes) (.ref X_NothingThere) = some false)
    (xk_InvalidWay_NothingThere : PySem.W.subIn K (.ref X_InvalidWay) (.ref X_NothingThere) = some false)
    (xk_InvalidCatalog_NothingThere : PySem.W.subIn K (.ref X_InvalidCatalog) (.ref X_NothingThere) = some false)
    (xk_InvalidKey_NothingThere : PySem.W.subIn K (.ref X_InvalidKey) (.ref X_NothingThere) = some false)
    (xk_InvalidText_NothingThere : PySem.W.subIn K (.ref X_InvalidText) (.ref X_NothingThere) = some false)
    (xk_InvalidPage_NothingThere : PySem.W.subIn K (.ref X_InvalidPage) (.ref X_NothingThere) = some false)
    (xk_InvalidDoor_NothingThere : PySem.W.subIn K (.ref X_InvalidDoor) (.ref X_NothingThere) = some false)
    (xk_InvalidChoice_NothingThere : PySem.W.subIn K (.ref X_InvalidChoice) (.ref X_NothingThere) = some false)
    (xk_InvalidIndex_NothingThere : PySem.W.subIn K (.ref X_InvalidIndex) (.ref X_NothingThere) = some false)
    (xk_Unlike_NothingThere : PySem.W.subIn K (.ref X_Unlike) (.ref X_NothingThere) = some false)
    (xk_Needless_NothingThere : PySem.W.subIn K (.ref X_Needless) (.ref X_NothingThere) = some false)
    (xk_NothingThere_NothingThere : PySem.W.subIn K (.ref X_NothingThere) (.ref X_NothingThere) = some true)
    (xk_NoBlock_NothingThere : PySem.W.subIn K (.ref X_NoBlock) (.ref X_NothingThere) = some false)
    (xk_NothingToUndo_NothingThere : PySem.W.subIn K (.ref X_NothingToUndo) (.ref X_NothingThere) = some false)
    (xk_InvalidCommand_NothingThere : PySem.W.subIn K (.ref X_InvalidCommand) (.ref X_NothingThere) = some false)
    (xk_Mixed_NothingThere : PySem.W.subIn K (.ref X_Mixed) (.ref X_NothingThere) = some false)
    (xk_InvalidWords_NothingThere : PySem.W.subIn K (.ref X_InvalidWords) (.ref X_NothingThere) = some false)
    (xk_WishError_NothingThere : PySem.W.subIn K (.ref X_WishError) (.ref X_NothingThere) = some false)
    (xk_InvalidTree_NoBlock : PySem.W.subIn K (.ref X_InvalidTree) (.ref X_NoBlock) = some false)
    (xk_InvalidLocale_NoBlock : PySem.W.subIn K (.ref X_InvalidLocale) (.ref X_NoBlock) = some false)
    (xk_InvalidWishes_NoBlock : PySem.W.subIn K (.ref X_InvalidWishes) (.ref X_NoBlock) = some false)
    (xk_InvalidWay_NoBlock : PySem.W.subIn K (.ref X_InvalidWay) (.ref X_NoBlock) = some false)
    (xk_InvalidCatalog_NoBlock : PySem.W.subIn K (.ref X_InvalidCatalog) (.ref X_NoBlock) = some false)
    (xk_InvalidKey_NoBlock : PySem.W.subIn K (.ref X_InvalidKey) (.ref X_NoBlock) = some false)
    (xk_InvalidText_NoBlock : PySem.W.subIn K (.ref X_InvalidText) (.ref X_NoBlock) = some false)
    (xk_InvalidPage_NoBlock : PySem.W.subIn K (.ref X_InvalidPage) (.ref X_NoBlock) = some false)
    (xk_InvalidDoor_NoBlock : PySem.W.subIn K (.ref X_InvalidDoor) (.ref X_NoBlock) = some false)
    (xk_InvalidChoice_NoBlock : PySem.W.subIn K (.ref X_InvalidChoice) (.ref X_NoBlock) = some false)
    (xk_InvalidIndex_NoBlock : PySem.W.subIn K (.ref X_InvalidIndex) (.ref X_NoBlock) = some false)
    (xk_Unlike_NoBlock : PySem.W.subIn K (.ref X_Unlike) (.ref X_NoBlock) = some false)
    (xk_Needless_NoBlock : PySem.W.subIn K (.ref X_Needless) (.ref X_NoBlock) = some false)
    (xk_NothingThere_NoBlock : PySem.W.subIn K (.ref X_NothingThere) (.ref X_NoBlock) = some false)
    (xk_NoBlock_NoBlock : PySem.W.subIn K (.ref X_NoBlock) (.ref X_NoBlock) = some true)
    (xk_NothingToUndo_NoBlock : PySem.W.subIn K (.ref X_NothingToUndo) (.ref X_NoBlock) = some false)
    (xk_InvalidCommand_NoBlock : PySem.W.subIn K (.ref X_InvalidCommand) (.ref X_NoBlock) = some false)
    (xk_Mixed_NoBlock : PySem.W.subIn K (.ref X_Mixed) (.ref X_NoBlock) = some false)
    (xk_InvalidWords_NoBlock : PySem.W.subIn K (.ref X_InvalidWords) (.ref X_NoBlock) = some false)
    (xk_WishError_NoBlock : PySem.W.subIn K (.ref X_WishError) (.ref X_NoBlock) = some false)
    (xk_InvalidTree_NothingToUndo : PySem.W.subIn K (.ref X_InvalidTree) (.ref X_NothingToUndo) = some false)
    (xk_InvalidLocale_NothingToUndo : PySem.W.subIn K (.ref X_InvalidLocale) (.ref X_NothingToUndo) = some false)
    (xk_InvalidWishes_NothingToUndo : PySem.W.subIn K (.ref X_InvalidWishes) (.ref X_NothingToUndo) = some false)
    (xk_InvalidWay_NothingToUndo : PySem.W.subIn K (.ref X_InvalidWay) (.ref X_NothingToUndo) = some false)
    (xk_InvalidCatalog_NothingToUndo : PySem.W.subIn K (.ref X_InvalidCatalog) (.ref X_NothingToUndo) = some false)
    (xk_InvalidKey_NothingToUndo : PySem.W.subIn K (.ref X_InvalidKey) (.ref X_NothingToUndo) = some false)
    (xk_InvalidText_NothingToUndo : PySem.W.subIn K (.ref X_InvalidText) (.ref X_NothingToUndo) = some false)
    (xk_InvalidPage_NothingToUndo : PySem.W.subIn K (.ref X_InvalidPage) (.ref X_NothingToUndo) = some false)
    (xk_InvalidDoor_NothingToUndo : PySem.W.subIn K (.ref X_InvalidDoor) (.ref X_NothingToUndo) = some false)
    (xk_InvalidChoice_NothingToUndo : PySem.W.subIn K (.ref X_InvalidChoice) (.ref X_NothingToUndo) = some false)
    (xk_InvalidIndex_NothingToUndo : PySem.W.subIn K (.ref X_InvalidIndex) (.ref X_NothingToUndo) = some false)
    (xk_Unlike_NothingToUndo : PySem.W.subIn K (.ref X_Unlike) (.ref X_NothingToUndo) = some false)
    (xk_Needless_NothingToUndo : PySem.W.subIn K (.ref X_Needless) (.ref X_NothingToUndo) = some false)
    (xk_NothingThere_NothingToUndo : PySem.W.subIn K (.ref X_NothingThere) (.ref X_NothingToUndo) = some false)
    (xk_NoBlock_NothingToUndo : PySem.W.subIn K (.ref X_NoBlock) (.ref X_NothingToUndo) = some false)
    (xk_NothingToUndo_NothingToUndo : PySem.W.subIn K (.ref X_NothingToUndo) (.ref X_NothingToUndo) = some true)
    (xk_InvalidCommand_NothingToUndo : PySem.W.subIn K (.ref X_InvalidCommand) (.ref X_NothingToUndo) = some false)
    (xk_Mixed_NothingToUndo : PySem.W.subIn K (.ref X_Mixed) (.ref X_NothingToUndo) = some false)
    (xk_InvalidWords_NothingToUndo : PySem.W.subIn K (.ref X_InvalidWords) (.ref X_NothingToUndo) = some false)
    (xk_WishError_NothingToUndo : PySem.W.subIn K (.ref X_WishError) (.ref X_NothingToUndo) = some false)
    (xk_InvalidTree_InvalidCommand : PySem.W.subIn K (.ref X_InvalidTree) (.ref X_InvalidCommand) = some false)
    (xk_InvalidLocale_InvalidCommand : PySem.W.subIn K (.ref X_InvalidLocale) (.ref X_InvalidCommand) = some false)
    (xk_InvalidWishes_InvalidCommand : PySem.W.subIn K (.ref X_InvalidWishes) (.ref X_InvalidCommand) = some false)
    (xk_InvalidWay_InvalidCommand : PySem.W.subIn K (.ref X_InvalidWay) (.ref X_InvalidCommand) = some false)
    (xk_InvalidCatalog_InvalidCommand : PySem.W.subIn K (.ref X_InvalidCatalog) (.ref X_InvalidCommand) = some false)
    (xk_InvalidKey_InvalidCommand : PySem.W.subIn K (.ref X_InvalidKey) (.ref X_InvalidCommand) = some false)
    (xk_InvalidText_InvalidCommand : PySem.W.subIn K (.ref X_InvalidText) (.ref X_InvalidCommand) = some false)
    (xk_InvalidPage_InvalidCommand : PySem.W.subIn K (.ref X_InvalidPage) (.ref X_InvalidCommand) = some false)
    (xk_InvalidDoor_InvalidCommand : PySem.W.subIn K (.ref X_InvalidDoor) (.ref X_InvalidCommand) = some false)
    (xk_InvalidChoice_InvalidCommand : PySem.W.subIn K (.ref X_InvalidChoice) (.ref X_InvalidCommand) = some false)
    (xk_InvalidIndex_InvalidCommand : PySem.W.subIn K (.ref X_InvalidIndex) (.ref X_InvalidCommand) = some false)
    (xk_Unlike_InvalidCommand : PySem.W.subIn K (.ref X_Unlike) (.ref X_InvalidCommand) = some false)
    (xk_Needless_InvalidCommand : PySem.W.subIn K (.ref X_Needless) (.ref X_InvalidCommand) = some false)
    (xk_NothingThere_InvalidCommand : PySem.W.subIn K (.ref X_NothingThere) (.ref X_InvalidCommand) = some false)
    (xk_NoBlock_InvalidCommand : PySem.W.subIn K (.ref X_NoBlock) (.ref X_InvalidCommand) = some false)
    (xk_NothingToUndo_InvalidCommand : PySem.W.subIn K (.ref X_NothingToUndo) (.ref X_InvalidCommand) = some false)
    (xk_InvalidCommand_InvalidCommand : PySem.W.subIn K (.ref X_InvalidCommand) (.ref X_InvalidCommand) = some true)
    (xk_Mixed_InvalidCommand : PySem.W.subIn K (.ref X_Mixed) (.ref X_InvalidCommand) = some false)
    (xk_InvalidWords_InvalidCommand : PySem.W.subIn K (.ref X_InvalidWords) (.ref X_InvalidCommand) = some false)
    (xk_WishError_InvalidCommand : PySem.W.subIn K (.ref X_WishError) (.ref X_InvalidCommand) = some false)
    (xk_InvalidTree_Mixed : PySem.W.subIn K (.ref X_InvalidTree) (.ref X_Mixed) = some false)
    (xk_InvalidLocale_Mixed : PySem.W.subIn K (.ref X_InvalidLocale) (.ref X_Mixed) = some false)
    (xk_InvalidWishes_Mixed : PySem.W.subIn K (.ref X_InvalidWishes) (.ref X_Mixed) = some false)
    (xk_InvalidWay_Mixed : PySem.W.subIn K (.ref X_InvalidWay) (.ref X_Mixed) = some false)
    (xk_InvalidCatalog_Mixed : PySem.W.subIn K (.ref X_InvalidCatalog) (.ref X_Mixed) = some false)
    (xk_InvalidKey_Mixed : PySem.W.subIn K (.ref X_InvalidKey) (.ref X_Mixed) = some false)
    (xk_InvalidText_Mixed : PySem.W.subIn K (.ref X_InvalidText) (.ref X_Mixed) = some false)
    (xk_InvalidPage_Mixed : PySem.W.subIn K (.ref X_InvalidPage) (.ref X_Mixed) = some false)
    (xk_InvalidDoor_Mixed : PySem.W.subIn K (.ref X_InvalidDoor) (.ref X_Mixed) = some false)
    (xk_InvalidChoice_Mixed : PySem.W.subIn K (.ref X_InvalidChoice) (.ref X_Mixed) = some false)
    (xk_InvalidIndex_Mixed : PySem.W.subIn K (.ref X_InvalidIndex) (.ref X_Mixed) = some false)
    (xk_Unlike_Mixed : PySem.W.subIn K (.ref X_Unlike) (.ref X_Mixed) = some false)
    (xk_Needless_Mixed : PySem.W.subIn K (.ref X_Needless) (.ref X_Mixed) = some false)
    (xk_NothingThere_Mixed : PySem.W.subIn K (.ref X_NothingThere) (.ref X_Mixed) = some false)
    (xk_NoBlock_Mixed : PySem.W.subIn K (.ref X_NoBlock) (.ref X_Mixed) = some false)
    (xk_NothingToUndo_Mixed : PySem.W.subIn K (.ref X_NothingToUndo) (.ref X_Mixed) = some false)
    (xk_InvalidCommand_Mixed : PySem.W.subIn K (.ref X_InvalidCommand) (.ref X_Mixed) = some false)
    (xk_Mixed_Mixed : PySem.W.subIn K (.ref X_Mixed) (.ref X_Mixed) = some true)
    (xk_InvalidWords_Mixed : PySem.W.subIn K (.ref X_InvalidWords) (.ref X_Mixed) = some false)
    (xk_WishError_Mixed : PySem.W.subIn K (.ref X_WishError) (.ref X_Mixed) = some false)
    (xk_InvalidTree_InvalidWords : PySem.W.subIn K (.ref X_InvalidTree) (.ref X_InvalidWords) = some false)
    (xk_InvalidLocale_InvalidWords : PySem.W.subIn K (.ref X_InvalidLocale) (.ref X_InvalidWords) = some false)
    (xk_InvalidWishes_InvalidWords : PySem.W.subIn K (.ref X_InvalidWishes) (.ref X_InvalidWords) = some false)
    (xk_InvalidWay_InvalidWords : PySem.W.subIn K (.ref X_InvalidWay) (.ref X_InvalidWords) = some false)
    (xk_InvalidCatalog_InvalidWords : PySem.W.subIn K (.ref X_InvalidCatalog) (.ref X_InvalidWords) = some false)
    (xk_InvalidKey_InvalidWords : PySem.W.subIn K (.ref X_InvalidKey) (.ref X_InvalidWords) = some false)
    (xk_InvalidText_InvalidWords : PySem.W.subIn K (.ref X_InvalidText) (.ref X_InvalidWords) = some false)
    (xk_InvalidPage_InvalidWords : PySem.W.subIn K (.ref X_InvalidPage) (.ref X_InvalidWords) = some false)
    (xk_InvalidDoor_InvalidWords : PySem.W.subIn K (.ref X_InvalidDoor) (.ref X_InvalidWords) = some false)
    (xk_InvalidChoice_InvalidWords : PySem.W.subIn K (.ref X_InvalidChoice) (.ref X_InvalidWords) = some false)
    (xk_InvalidIndex_InvalidWords : PySem.W.subIn K (.ref X_InvalidIndex) (.ref X_InvalidWords) = some false)
    (xk_Unlike_InvalidWords : PySem.W.subIn K (.ref X_Unlike) (.ref X_InvalidWords) = some false)
    (xk_Needless_InvalidWords : PySem.W.subIn K (.ref X_Needless) (.ref X_InvalidWords) = some false)
    (xk_NothingThere_InvalidWords : PySem.W.subIn K (.ref X_NothingThere) (.ref X_InvalidWords) = some false)
    (xk_NoBlock_InvalidWords : PySem.W.subIn K (.ref X_NoBlock) (.ref X_InvalidWords) = some false)
    (xk_NothingToUndo_InvalidWords : PySem.W.subIn K (.ref X_NothingToUndo) (.ref X_InvalidWords) = some false)
    (xk_InvalidCommand_InvalidWords : PySem.W.subIn K (.ref X_InvalidCommand) (.ref X_InvalidWords) = some false)
    (xk_Mixed_InvalidWords : PySem.W.subIn K (.ref X_Mixed) (.ref X_InvalidWords) = some false)
    (xk_InvalidWords_InvalidWords : PySem.W.subIn K (.ref X_InvalidWords) (.ref X_InvalidWords) = some true)
    (xk_WishError_InvalidWords : PySem.W.subIn K (.ref X_WishError) (.ref X_InvalidWords) = some false)
    (xk_InvalidTree_ValueError : PySem.W.subIn K (.ref X_InvalidTree) (.type "ValueError") = some true)
    (xk_InvalidLocale_ValueError : PySem.W.subIn K (.ref X_InvalidLocale) (.type "ValueError") = some true)
    (xk_InvalidWishes_ValueError : PySem.W.subIn K (.ref X_InvalidWishes) (.type "ValueError") = some true)
    (xk_InvalidWay_ValueError : PySem.W.subIn K (.ref X_InvalidWay) (.type "ValueError") = some true)
    (xk_InvalidCatalog_ValueError : PySem.W.subIn K (.ref X_InvalidCatalog) (.type "ValueError") = some true)
    (xk_InvalidKey_ValueError : PySem.W.subIn K (.ref X_InvalidKey) (.type "ValueError") = some true)
    (xk_InvalidText_ValueError : PySem.W.subIn K (.ref X_InvalidText) (.type "ValueError") = some true)
    (xk_InvalidPage_ValueError : PySem.W.subIn K (.ref X_InvalidPage) (.type "ValueError") = some true)
    (xk_InvalidDoor_ValueError : PySem.W.subIn K (.ref X_InvalidDoor) (.type "ValueError") = some true)
    (xk_InvalidChoice_ValueError : PySem.W.subIn K (.ref X_InvalidChoice) (.type "ValueError") = some true)
    (xk_InvalidIndex_ValueError : PySem.W.subIn K (.ref X_InvalidIndex) (.type "ValueError") = some true)
    (xk_Unlike_ValueError : PySem.W.subIn K (.ref X_Unlike) (.type "ValueError") = some true)
    (xk_Needless_ValueError : PySem.W.subIn K (.ref X_Needless) (.type "ValueError") = some true)
    (xk_NothingThere_ValueError : PySem.W.subIn K (.ref X_NothingThere) (.type "ValueError") = some true)
    (xk_NoBlock_ValueError : PySem.W.subIn K (.ref X_NoBlock) (.type "ValueError") = some true)
    (xk_NothingToUndo_ValueError : PySem.W.subIn K (.ref X_NothingToUndo) (.type "ValueError") = some true)
    (xk_InvalidCommand_ValueError : PySem.W.subIn K (.ref X_InvalidCommand) (.type "ValueError") = some true)
    (xk_Mixed_ValueError : PySem.W.subIn K (.ref X_Mixed) (.type "ValueError") = some true)
    (xk_InvalidWords_ValueError : PySem.W.subIn K (.ref X_InvalidWords) (.type "ValueError") = some true)
    (xk_WishError_ValueError : PySem.W.subIn K (.ref X_WishError) (.type "ValueError") = some true) :
    ∃ fd : FuncData, (∀ (s : Shared) (v : Value), BindsTo s fd ⟨[v], []⟩ [("script", v)]) ∧ ∀ base : Heap, K.In base → base.Ns mainGlobals mg → GOk l.prog w K mg base 2 fa fd ["script"] (spD K mg false 1 f_law) := by
  let t : Txt l.prog K mg := {
    a__law_fill := f0
    fd__law_fill := PySem.W.fnOf "_law_fill" "_law_fill" (defArgs (topS 22)) (defBody (topS 22)) (defScope (topS 22)) .none kV0 dc0 pm0 an0 cd0 ct0
    F__law_fill := L2Fun.v (fun_mk (st := topS 22) l0 c0 k0)
    g__law_fill := PySem.W.mg_of X G a0
    b__law_fill := (fun_mk (st := topS 22) l0 c0 k0).binds (ps := ["cell"]) (fun _ _ _ _ _ _ us hl => match us, hl with | [_], _ => rfl)
    a__law_pull := f1
    fd__law_pull := PySem.W.fnOf "_law_pull" "_law_pull" (defArgs (topS 23)) (defBody (topS 23)) (defScope (topS 23)) .none kV1 dc1 pm1 an1 cd1 ct1
    F__law_pull := L2Fun.v (fun_mk (st := topS 23) l1 c1 k1)
    g__law_pull := PySem.W.mg_of X G a1
    b__law_pull := (fun_mk (st := topS 23) l1 c1 k1).binds (ps := ["jar", "size"]) (fun _ _ _ _ _ _ us hl => match us, hl with | [_, _], _ => rfl)
    a__law_each := f2
    fd__law_each := PySem.W.fnOf "_law_each" "_law_each" (defArgs (topS 26)) (defBody (topS 26)) (defScope (topS 26)) .none kV2 dc2 pm2 an2 cd2 ct2
    F__law_each := L2Fun.v (fun_mk (st := topS 26) l2 c2 k2)
    g__law_each := PySem.W.mg_of X G a2
    b__law_each := (fun_mk (st := topS 26) l2 c2 k2).binds (ps := ["text", "asks", "number"]) (fun _ _ _ _ _ _ us hl => match us, hl with | [_, _, _], _ => rfl)
    a__law_stands_under := f3
    fd__law_stands_under := PySem.W.fnOf "_law_stands_under" "_law_stands_under" (defArgs (topS 24)) (defBody (topS 24)) (defScope (topS 24)) .none kV3 dc3 pm3 an3 cd3 ct3
    F__law_stands_under := L2Fun.v (fun_mk (st := topS 24) l3 c3 k3)
    g__law_stands_under := PySem.W.mg_of X G a3
    b__law_stands_under := (fun_mk (st := topS 24) l3 c3 k3).binds (ps := ["caught"]) (fun _ _ _ _ _ _ us hl => match us, hl with | [_], _ => rfl)
    a__law_same := f4
    fd__law_same := PySem.W.fnOf "_law_same" "_law_same" (defArgs (topS 25)) (defBody (topS 25)) (defScope (topS 25)) .none kV4 dc4 pm4 an4 cd4 ct4
    F__law_same := L2Fun.v (fun_mk (st := topS 25) l4 c4 k4)
    g__law_same := PySem.W.mg_of X G a4
    b__law_same := (fun_mk (st := topS 25) l4 c4 k4).binds (ps := ["told", "due"]) (fun _ _ _ _ _ _ us hl => match us, hl with | [_, _], _ => rfl)
    a_law := f5
    fd_law := PySem.W.fnOf "law" "law" (defArgs (topS 27)) (defBody (topS 27)) (defScope (topS 27)) .none kV5 dc5 pm5 an5 cd5 ct5
    F_law := L2Fun.v (fun_mk (st := topS 27) l5 c5 k5)
    g_law := PySem.W.mg_of X G a5
    b_law := (fun_mk (st := topS 27) l5 c5 k5).binds (ps := ["script"]) (fun _ _ _ _ _ _ us hl => match us, hl with | [_], _ => rfl)
    m_ValueError := PySem.W.mg_none_of X G z_ValueError
    m_int := PySem.W.mg_none_of X G z_int
    m_isinstance := PySem.W.mg_none_of X G z_isinstance
    m_max := PySem.W.mg_none_of X G z_max
    m_range := PySem.W.mg_none_of X G z_range
    m_repr := PySem.W.mg_none_of X G z_repr
    m_str := PySem.W.mg_none_of X G z_str
    m_tuple := PySem.W.mg_none_of X G z_tuple
    x_WishError := ⟨X_WishError, xa_WishError, PySem.W.mg_of X G xa_WishError⟩
    x_InvalidTree := ⟨X_InvalidTree, xa_InvalidTree, PySem.W.mg_of X G xa_InvalidTree⟩
    x_InvalidLocale := ⟨X_InvalidLocale, xa_InvalidLocale, PySem.W.mg_of X G xa_InvalidLocale⟩
    x_InvalidWishes := ⟨X_InvalidWishes, xa_InvalidWishes, PySem.W.mg_of X G xa_InvalidWishes⟩
    x_InvalidWay := ⟨X_InvalidWay, xa_InvalidWay, PySem.W.mg_of X G xa_InvalidWay⟩
    x_InvalidCatalog := ⟨X_InvalidCatalog, xa_InvalidCatalog, PySem.W.mg_of X G xa_InvalidCatalog⟩
    x_InvalidKey := ⟨X_InvalidKey, xa_InvalidKey, PySem.W.mg_of X G xa_InvalidKey⟩
    x_InvalidText := ⟨X_InvalidText, xa_InvalidText, PySem.W.mg_of X G xa_InvalidText⟩
    x_InvalidPage := ⟨X_InvalidPage, xa_InvalidPage, PySem.W.mg_of X G xa_InvalidPage⟩
    x_InvalidDoor := ⟨X_InvalidDoor, xa_InvalidDoor, PySem.W.mg_of X G xa_InvalidDoor⟩
    x_InvalidChoice := ⟨X_InvalidChoice, xa_InvalidChoice, PySem.W.mg_of X G xa_InvalidChoice⟩
    x_InvalidIndex := ⟨X_InvalidIndex, xa_InvalidIndex, PySem.W.mg_of X G xa_InvalidIndex⟩
    x_Unlike := ⟨X_Unlike, xa_Unlike, PySem.W.mg_of X G xa_Unlike⟩
    x_Needless := ⟨X_Needless, xa_Needless, PySem.W.mg_of X G xa_Needless⟩
    x_NothingThere := ⟨X_NothingThere, xa_NothingThere, PySem.W.mg_of X G xa_NothingThere⟩
    x_NoBlock := ⟨X_NoBlock, xa_NoBlock, PySem.W.mg_of X G xa_NoBlock⟩
    x_NothingToUndo := ⟨X_NothingToUndo, xa_NothingToUndo, PySem.W.mg_of X G xa_NothingToUndo⟩
    x_InvalidCommand := ⟨X_InvalidCommand, xa_InvalidCommand, PySem.W.mg_of X G xa_InvalidCommand⟩
    x_Mixed := ⟨X_Mixed, xa_Mixed, PySem.W.mg_of X G xa_Mixed⟩
    x_InvalidWords := ⟨X_InvalidWords, xa_InvalidWords, PySem.W.mg_of X G xa_InvalidWords⟩
    xr_InvalidTree := xr_InvalidTree
    xr_InvalidLocale := xr_InvalidLocale
    xr_InvalidWishes := xr_InvalidWishes
    xr_InvalidWay := xr_InvalidWay
    xr_InvalidCatalog := xr_InvalidCatalog
    xr_InvalidKey := xr_InvalidKey
    xr_InvalidText := xr_InvalidText
    xr_InvalidPage := xr_InvalidPage
    xr_InvalidDoor := xr_InvalidDoor
    xr_InvalidChoice := xr_InvalidChoice
    xr_InvalidIndex := xr_InvalidIndex
    xr_Unlike := xr_Unlike
    xr_Needless := xr_Needless
    xr_NothingThere := xr_NothingThere
    xr_NoBlock := xr_NoBlock
    xr_NothingToUndo := xr_NothingToUndo
    xr_InvalidCommand := xr_InvalidCommand
    xr_Mixed := ⟨⟨⟨inm_Mixed, iq_Mixed, iN_Mixed, ibs_Mixed, ibm_Mixed, isn_Mixed, isu_Mixed, iab_Mixed, ico_Mixed, idd_Mixed, ik0_Mixed, ik1_Mixed, ik2_Mixed, ik3_Mixed, ik5_Mixed, xo_Mixed, xm_Mixed⟩, xs1_Mixed, xs2_Mixed, xt_Mixed, xs3_Mixed⟩, xs4_Mixed, xs5_Mixed, xs6_Mixed, ks_of xo_Mixed xs7_Mixed xs7a_Mixed xs7b_Mixed, xs8_Mixed, xs9_Mixed, xt1_Mixed, ⟨iniS_Mixed, iI_Mixed, icc_Mixed, icd_Mixed, _, iql_Mixed, ikV_Mixed, idc_Mixed, ipm_Mixed, ict_Mixed, ioc_Mixed, icc1_Mixed, icc2_Mixed, ian_Mixed, iod_Mixed, ica_Mixed, icl_Mixed, ios_Mixed, ioa_Mixed, iob_Mixed, ivs_Mixed, ifl_Mixed, itf_Mixed, is_Mixed, xt2_Mixed, xt3_Mixed, xt4_Mixed, xt5_Mixed, xt6_Mixed, xt7_Mixed, xt8_Mixed, xt9_Mixed⟩⟩
    xr_InvalidWords := ⟨⟨⟨inm_InvalidWords, iq_InvalidWords, iN_InvalidWords, ibs_InvalidWords, ibm_InvalidWords, isn_InvalidWords, isu_InvalidWords, iab_InvalidWords, ico_InvalidWords, idd_InvalidWords, ik0_InvalidWords, ik1_InvalidWords, ik2_InvalidWords, ik3_InvalidWords, ik5_InvalidWords, xo_InvalidWords, xm_InvalidWords⟩, xs1_InvalidWords, xs2_InvalidWords, xt_InvalidWords, xs3_InvalidWords⟩, xs4_InvalidWords, xs5_InvalidWords, xs6_InvalidWords, ks_of xo_InvalidWords xs7_InvalidWords xs7a_InvalidWords xs7b_InvalidWords, xs8_InvalidWords, xs9_InvalidWords, xt1_InvalidWords, ⟨iniS_InvalidWords, iI_InvalidWords, icc_InvalidWords, icd_InvalidWords, _, iql_InvalidWords, ikV_InvalidWords, idc_InvalidWords, ipm_InvalidWords, ict_InvalidWords, ioc_InvalidWords, icc1_InvalidWords, icc2_InvalidWords, ian_InvalidWords, iod_InvalidWords, ica_InvalidWords, icl_InvalidWords, ios_InvalidWords, ioa_InvalidWords, iob_InvalidWords, ivs_InvalidWords, ifl_InvalidWords, itf_InvalidWords, is_InvalidWords, xt2_InvalidWords, xt3_InvalidWords, xt4_InvalidWords, xt5_InvalidWords, xt6_InvalidWords, xt7_InvalidWords, xt8_InvalidWords, xt9_InvalidWords⟩⟩
    xr_WishError := xr_WishError
    xe := (by
      intro c hc
      simp only [List.mem_cons, List.not_mem_nil, or_false] at hc
      rcases hc with rfl | rfl | rfl | rfl | rfl | rfl | rfl | rfl | rfl | rfl | rfl | rfl | rfl | rfl | rfl | rfl | rfl | rfl | rfl | rfl
      · exact fun C hn => by rw [xa_InvalidTree] at hn; cases hn; exact xe_InvalidTree
      · exact fun C hn => by rw [xa_InvalidLocale] at hn; cases hn; exact xe_InvalidLocale
      · exact fun C hn => by rw [xa_InvalidWishes] at hn; cases hn; exact xe_InvalidWishes
      · exact fun C hn => by rw [xa_InvalidWay] at hn; cases hn; exact xe_InvalidWay
      · exact fun C hn => by rw [xa_InvalidCatalog] at hn; cases hn; exact xe_InvalidCatalog
      · exact fun C hn => by rw [xa_InvalidKey] at hn; cases hn; exact xe_InvalidKey
      · exact fun C hn => by rw [xa_InvalidText] at hn; cases hn; exact xe_InvalidText
      · exact fun C hn => by rw [xa_InvalidPage] at hn; cases hn; exact xe_InvalidPage
      · exact fun C hn => by rw [xa_InvalidDoor] at hn; cases hn; exact xe_InvalidDoor
      · exact fun C hn => by rw [xa_InvalidChoice] at hn; cases hn; exact xe_InvalidChoice
      · exact fun C hn => by rw [xa_InvalidIndex] at hn; cases hn; exact xe_InvalidIndex
      · exact fun C hn => by rw [xa_Unlike] at hn; cases hn; exact xe_Unlike
      · exact fun C hn => by rw [xa_Needless] at hn; cases hn; exact xe_Needless
      · exact fun C hn => by rw [xa_NothingThere] at hn; cases hn; exact xe_NothingThere
      · exact fun C hn => by rw [xa_NoBlock] at hn; cases hn; exact xe_NoBlock
      · exact fun C hn => by rw [xa_NothingToUndo] at hn; cases hn; exact xe_NothingToUndo
      · exact fun C hn => by rw [xa_InvalidCommand] at hn; cases hn; exact xe_InvalidCommand
      · exact fun C hn => by rw [xa_Mixed] at hn; cases hn; exact xe_Mixed
      · exact fun C hn => by rw [xa_InvalidWords] at hn; cases hn; exact xe_InvalidWords
      · exact fun C hn => by rw [xa_WishError] at hn; cases hn; exact xe_WishError)
    xt := (by
      intro c hc
      simp only [List.mem_cons, List.not_mem_nil, or_false] at hc
      rcases hc with rfl | rfl | rfl | rfl | rfl | rfl | rfl | rfl | rfl | rfl | rfl | rfl | rfl | rfl | rfl | rfl | rfl | rfl | rfl | rfl
      · exact fun C hn => by rw [xa_InvalidTree] at hn; cases hn; exact xr_InvalidTree.r2
      · exact fun C hn => by rw [xa_InvalidLocale] at hn; cases hn; exact xr_InvalidLocale.r2
      · exact fun C hn => by rw [xa_InvalidWishes] at hn; cases hn; exact xr_InvalidWishes.r2
      · exact fun C hn => by rw [xa_InvalidWay] at hn; cases hn; exact xr_InvalidWay.r2
      · exact fun C hn => by rw [xa_InvalidCatalog] at hn; cases hn; exact xr_InvalidCatalog.r2
      · exact fun C hn => by rw [xa_InvalidKey] at hn; cases hn; exact xr_InvalidKey.r2
      · exact fun C hn => by rw [xa_InvalidText] at hn; cases hn; exact xr_InvalidText.r2
      · exact fun C hn => by rw [xa_InvalidPage] at hn; cases hn; exact xr_InvalidPage.r2
      · exact fun C hn => by rw [xa_InvalidDoor] at hn; cases hn; exact xr_InvalidDoor.r2
      · exact fun C hn => by rw [xa_InvalidChoice] at hn; cases hn; exact xr_InvalidChoice.r2
      · exact fun C hn => by rw [xa_InvalidIndex] at hn; cases hn; exact xr_InvalidIndex.r2
      · exact fun C hn => by rw [xa_Unlike] at hn; cases hn; exact xr_Unlike.r2
      · exact fun C hn => by rw [xa_Needless] at hn; cases hn; exact xr_Needless.r2
      · exact fun C hn => by rw [xa_NothingThere] at hn; cases hn; exact xr_NothingThere.r2
      · exact fun C hn => by rw [xa_NoBlock] at hn; cases hn; exact xr_NoBlock.r2
      · exact fun C hn => by rw [xa_NothingToUndo] at hn; cases hn; exact xr_NothingToUndo.r2
      · exact fun C hn => by rw [xa_InvalidCommand] at hn; cases hn; exact xr_InvalidCommand.r2
      · exact fun C hn => by rw [xa_Mixed] at hn; cases hn; exact xt_Mixed
      · exact fun C hn => by rw [xa_InvalidWords] at hn; cases hn; exact xt_InvalidWords
      · exact fun C hn => by rw [xa_WishError] at hn; cases hn; exact xr_WishError.r2)
    xy_WishError := ⟨(by
      intro c hc
      simp only [List.mem_cons, List.not_mem_nil, or_false] at hc
      rcases hc with rfl | rfl | rfl | rfl | rfl | rfl | rfl | rfl | rfl | rfl | rfl | rfl | rfl | rfl | rfl | rfl | rfl | rfl | rfl | rfl
      · exact fun C hn => by rw [xa_InvalidTree] at hn; cases hn; exact kit_own xi_WishError xt_WishError xs_InvalidTree xk_InvalidTree_WishError
      · exact fun C hn => by rw [xa_InvalidLocale] at hn; cases hn; exact kit_own xi_WishError xt_WishError xs_InvalidLocale xk_InvalidLocale_WishError
      · exact fun C hn => by rw [xa_InvalidWishes] at hn; cases hn; exact kit_own xi_WishError xt_WishError xs_InvalidWishes xk_InvalidWishes_WishError
      · exact fun C hn => by rw [xa_InvalidWay] at hn; cases hn; exact kit_own xi_WishError xt_WishError xs_InvalidWay xk_InvalidWay_WishError
      · exact fun C hn => by rw [xa_InvalidCatalog] at hn; cases hn; exact kit_own xi_WishError xt_WishError xs_InvalidCatalog xk_InvalidCatalog_WishError
      · exact fun C hn => by rw [xa_InvalidKey] at hn; cases hn; exact kit_own xi_WishError xt_WishError xs_InvalidKey xk_InvalidKey_WishError
      · exact fun C hn => by rw [xa_InvalidText] at hn; cases hn; exact kit_own xi_WishError xt_WishError xs_InvalidText xk_InvalidText_WishError
      · exact fun C hn => by rw [xa_InvalidPage] at hn; cases hn; exact kit_own xi_WishError xt_WishError xs_InvalidPage xk_InvalidPage_WishError
      · exact fun C hn => by rw [xa_InvalidDoor] at hn; cases hn; exact kit_own xi_WishError xt_WishError xs_InvalidDoor xk_InvalidDoor_WishError
      · exact fun C hn => by rw [xa_InvalidChoice] at hn; cases hn; exact kit_own xi_WishError xt_WishError xs_InvalidChoice xk_InvalidChoice_WishError
      · exact fun C hn => by rw [xa_InvalidIndex] at hn; cases hn; exact kit_own xi_WishError xt_WishError xs_InvalidIndex xk_InvalidIndex_WishError
      · exact fun C hn => by rw [xa_Unlike] at hn; cases hn; exact kit_own xi_WishError xt_WishError xs_Unlike xk_Unlike_WishError
      · exact fun C hn => by rw [xa_Needless] at hn; cases hn; exact kit_own xi_WishError xt_WishError xs_Needless xk_Needless_WishError
      · exact fun C hn => by rw [xa_NothingThere] at hn; cases hn; exact kit_own xi_WishError xt_WishError xs_NothingThere xk_NothingThere_WishError
      · exact fun C hn => by rw [xa_NoBlock] at hn; cases hn; exact kit_own xi_WishError xt_WishError xs_NoBlock xk_NoBlock_WishError
      · exact fun C hn => by rw [xa_NothingToUndo] at hn; cases hn; exact kit_own xi_WishError xt_WishError xs_NothingToUndo xk_NothingToUndo_WishError
      · exact fun C hn => by rw [xa_InvalidCommand] at hn; cases hn; exact kit_own xi_WishError xt_WishError xs_InvalidCommand xk_InvalidCommand_WishError
      · exact fun C hn => by rw [xa_Mixed] at hn; cases hn; exact kit_own xi_WishError xt_WishError xs_Mixed xk_Mixed_WishError
      · exact fun C hn => by rw [xa_InvalidWords] at hn; cases hn; exact kit_own xi_WishError xt_WishError xs_InvalidWords xk_InvalidWords_WishError
      · exact fun C hn => by rw [xa_WishError] at hn; cases hn; exact kit_own xi_WishError xt_WishError xs_WishError xk_WishError_WishError)⟩
    xy_InvalidTree := ⟨(by
      intro c hc
      simp only [List.mem_cons, List.not_mem_nil, or_false] at hc
      rcases hc with rfl | rfl | rfl | rfl | rfl | rfl | rfl | rfl | rfl | rfl | rfl | rfl | rfl | rfl | rfl | rfl | rfl | rfl | rfl | rfl
      · exact fun C hn => by rw [xa_InvalidTree] at hn; cases hn; exact kit_own xi_InvalidTree xt_InvalidTree xs_InvalidTree xk_InvalidTree_InvalidTree
      · exact fun C hn => by rw [xa_InvalidLocale] at hn; cases hn; exact kit_own xi_InvalidTree xt_InvalidTree xs_InvalidLocale xk_InvalidLocale_InvalidTree
      · exact fun C hn => by rw [xa_InvalidWishes] at hn; cases hn; exact kit_own xi_InvalidTree xt_InvalidTree xs_InvalidWishes xk_InvalidWishes_InvalidTree
      · exact fun C hn => by rw [xa_InvalidWay] at hn; cases hn; exact kit_own xi_InvalidTree xt_InvalidTree xs_InvalidWay xk_InvalidWay_InvalidTree
      · exact fun C hn => by rw [xa_InvalidCatalog] at hn; cases hn; exact kit_own xi_InvalidTree xt_InvalidTree xs_InvalidCatalog xk_InvalidCatalog_InvalidTree
      · exact fun C hn => by rw [xa_InvalidKey] at hn; cases hn; exact kit_own xi_InvalidTree xt_InvalidTree xs_InvalidKey xk_InvalidKey_InvalidTree
      · exact fun C hn => by rw [xa_InvalidText] at hn; cases hn; exact kit_own xi_InvalidTree xt_InvalidTree xs_InvalidText xk_InvalidText_InvalidTree
      · exact fun C hn => by rw [xa_InvalidPage] at hn; cases hn; exact kit_own xi_InvalidTree xt_InvalidTree xs_InvalidPage xk_InvalidPage_InvalidTree
      · exact fun C hn => by rw [xa_InvalidDoor] at hn; cases hn; exact kit_own xi_InvalidTree xt_InvalidTree xs_InvalidDoor xk_InvalidDoor_InvalidTree
      · exact fun C hn => by rw [xa_InvalidChoice] at hn; cases hn; exact kit_own xi_InvalidTree xt_InvalidTree xs_InvalidChoice xk_InvalidChoice_InvalidTree
      · exact fun C hn => by rw [xa_InvalidIndex] at hn; cases hn; exact kit_own xi_InvalidTree xt_InvalidTree xs_InvalidIndex xk_InvalidIndex_InvalidTree
      · exact fun C hn => by rw [xa_Unlike] at hn; cases hn; exact kit_own xi_InvalidTree xt_InvalidTree xs_Unlike xk_Unlike_InvalidTree
      · exact fun C hn => by rw [xa_Needless] at hn; cases hn; exact kit_own xi_InvalidTree xt_InvalidTree xs_Needless xk_Needless_InvalidTree
      · exact fun C hn => by rw [xa_NothingThere] at hn; cases hn; exact kit_own xi_InvalidTree xt_InvalidTree xs_NothingThere xk_NothingThere_InvalidTree
      · exact fun C hn => by rw [xa_NoBlock] at hn; cases hn; exact kit_own xi_InvalidTree xt_InvalidTree xs_NoBlock xk_NoBlock_InvalidTree
      · exact fun C hn => by rw [xa_NothingToUndo] at hn; cases hn; exact kit_own xi_InvalidTree xt_InvalidTree xs_NothingToUndo xk_NothingToUndo_InvalidTree
      · exact fun C hn => by rw [xa_InvalidCommand] at hn; cases hn; exact kit_own xi_InvalidTree xt_InvalidTree xs_InvalidCommand xk_InvalidCommand_InvalidTree
      · exact fun C hn => by rw [xa_Mixed] at hn; cases hn; exact kit_own xi_InvalidTree xt_InvalidTree xs_Mixed xk_Mixed_InvalidTree
      · exact fun C hn => by rw [xa_InvalidWords] at hn; cases hn; exact kit_own xi_InvalidTree xt_InvalidTree xs_InvalidWords xk_InvalidWords_InvalidTree
      · exact fun C hn => by rw [xa_WishError] at hn; cases hn; exact kit_own xi_InvalidTree xt_InvalidTree xs_WishError xk_WishError_InvalidTree)⟩
    xy_InvalidLocale := ⟨(by
      intro c hc
      simp only [List.mem_cons, List.not_mem_nil, or_false] at hc
      rcases hc with rfl | rfl | rfl | rfl | rfl | rfl | rfl | rfl | rfl | rfl | rfl | rfl | rfl | rfl | rfl | rfl | rfl | rfl | rfl | rfl
      · exact fun C hn => by rw [xa_InvalidTree] at hn; cases hn; exact kit_own xi_InvalidLocale xt_InvalidLocale xs_InvalidTree xk_InvalidTree_InvalidLocale
      · exact fun C hn => by rw [xa_InvalidLocale] at hn; cases hn; exact kit_own xi_InvalidLocale xt_InvalidLocale xs_InvalidLocale xk_InvalidLocale_InvalidLocale
      · exact fun C hn => by rw [xa_InvalidWishes] at hn; cases hn; exact kit_own xi_InvalidLocale xt_InvalidLocale xs_InvalidWishes xk_InvalidWishes_InvalidLocale
      · exact fun C hn => by rw [xa_InvalidWay] at hn; cases hn; exact kit_own xi_InvalidLocale xt_InvalidLocale xs_InvalidWay xk_InvalidWay_InvalidLocale
      · exact fun C hn => by rw [xa_InvalidCatalog] at hn; cases hn; exact kit_own xi_InvalidLocale xt_InvalidLocale xs_InvalidCatalog xk_InvalidCatalog_InvalidLocale
      · exact fun C hn => by rw [xa_InvalidKey] at hn; cases hn; exact kit_own xi_InvalidLocale xt_InvalidLocale xs_InvalidKey xk_InvalidKey_InvalidLocale
      · exact fun C hn => by rw [xa_InvalidText] at hn; cases hn; exact kit_own xi_InvalidLocale xt_InvalidLocale xs_InvalidText xk_InvalidText_InvalidLocale
      · exact fun C hn => by rw [xa_InvalidPage] at hn; cases hn; exact kit_own xi_InvalidLocale xt_InvalidLocale xs_InvalidPage xk_InvalidPage_InvalidLocale
      · exact fun C hn => by rw [xa_InvalidDoor] at hn; cases hn; exact kit_own xi_InvalidLocale xt_InvalidLocale xs_InvalidDoor xk_InvalidDoor_InvalidLocale
      · exact fun C hn => by rw [xa_InvalidChoice] at hn; cases hn; exact kit_own xi_InvalidLocale xt_InvalidLocale xs_InvalidChoice xk_InvalidChoice_InvalidLocale
      · exact fun C hn => by rw [xa_InvalidIndex] at hn; cases hn; exact kit_own xi_InvalidLocale xt_InvalidLocale xs_InvalidIndex xk_InvalidIndex_InvalidLocale
      · exact fun C hn => by rw [xa_Unlike] at hn; cases hn; exact kit_own xi_InvalidLocale xt_InvalidLocale xs_Unlike xk_Unlike_InvalidLocale
      · exact fun C hn => by rw [xa_Needless] at hn; cases hn; exact kit_own xi_InvalidLocale xt_InvalidLocale xs_Needless xk_Needless_InvalidLocale
      · exact fun C hn => by rw [xa_NothingThere] at hn; cases hn; exact kit_own xi_InvalidLocale xt_InvalidLocale xs_NothingThere xk_NothingThere_InvalidLocale
      · exact fun C hn => by rw [xa_NoBlock] at hn; cases hn; exact kit_own xi_InvalidLocale xt_InvalidLocale xs_NoBlock xk_NoBlock_InvalidLocale
      · exact fun C hn => by rw [xa_NothingToUndo] at hn; cases hn; exact kit_own xi_InvalidLocale xt_InvalidLocale xs_NothingToUndo xk_NothingToUndo_InvalidLocale
      · exact fun C hn => by rw [xa_InvalidCommand] at hn; cases hn; exact kit_own xi_InvalidLocale xt_InvalidLocale xs_InvalidCommand xk_InvalidCommand_InvalidLocale
      · exact fun C hn => by rw [xa_Mixed] at hn; cases hn; exact kit_own xi_InvalidLocale xt_InvalidLocale xs_Mixed xk_Mixed_InvalidLocale
      · exact fun C hn => by rw [xa_InvalidWords] at hn; cases hn; exact kit_own xi_InvalidLocale xt_InvalidLocale xs_InvalidWords xk_InvalidWords_InvalidLocale
      · exact fun C hn => by rw [xa_WishError] at hn; cases hn; exact kit_own xi_InvalidLocale xt_InvalidLocale xs_WishError xk_WishError_InvalidLocale)⟩
    xy_InvalidWishes := ⟨(by
      intro c hc
      simp only [List.mem_cons, List.not_mem_nil, or_false] at hc
      rcases hc with rfl | rfl | rfl | rfl | rfl | rfl | rfl | rfl | rfl | rfl | rfl | rfl | rfl | rfl | rfl | rfl | rfl | rfl | rfl | rfl
      · exact fun C hn => by rw [xa_InvalidTree] at hn; cases hn; exact kit_own xi_InvalidWishes xt_InvalidWishes xs_InvalidTree xk_InvalidTree_InvalidWishes
      · exact fun C hn => by rw [xa_InvalidLocale] at hn; cases hn; exact kit_own xi_InvalidWishes xt_InvalidWishes xs_InvalidLocale xk_InvalidLocale_InvalidWishes
      · exact fun C hn => by rw [xa_InvalidWishes] at hn; cases hn; exact kit_own xi_InvalidWishes xt_InvalidWishes xs_InvalidWishes xk_InvalidWishes_InvalidWishes
      · exact fun C hn => by rw [xa_InvalidWay] at hn; cases hn; exact kit_own xi_InvalidWishes xt_InvalidWishes xs_InvalidWay xk_InvalidWay_InvalidWishes
      · exact fun C hn => by rw [xa_InvalidCatalog] at hn; cases hn; exact kit_own xi_InvalidWishes xt_InvalidWishes xs_InvalidCatalog xk_InvalidCatalog_InvalidWishes
      · exact fun C hn => by rw [xa_InvalidKey] at hn; cases hn; exact kit_own xi_InvalidWishes xt_InvalidWishes xs_InvalidKey xk_InvalidKey_InvalidWishes
      · exact fun C hn => by rw [xa_InvalidText] at hn; cases hn; exact kit_own xi_InvalidWishes xt_InvalidWishes xs_InvalidText xk_InvalidText_InvalidWishes
      · exact fun C hn => by rw [xa_InvalidPage] at hn; cases hn; exact kit_own xi_InvalidWishes xt_InvalidWishes xs_InvalidPage xk_InvalidPage_InvalidWishes
      · exact fun C hn => by rw [xa_InvalidDoor] at hn; cases hn; exact kit_own xi_InvalidWishes xt_InvalidWishes xs_InvalidDoor xk_InvalidDoor_InvalidWishes
      · exact fun C hn => by rw [xa_InvalidChoice] at hn; cases hn; exact kit_own xi_InvalidWishes xt_InvalidWishes xs_InvalidChoice xk_InvalidChoice_InvalidWishes
      · exact fun C hn => by rw [xa_InvalidIndex] at hn; cases hn; exact kit_own xi_InvalidWishes xt_InvalidWishes xs_InvalidIndex xk_InvalidIndex_InvalidWishes
      · exact fun C hn => by rw [xa_Unlike] at hn; cases hn; exact kit_own xi_InvalidWishes xt_InvalidWishes xs_Unlike xk_Unlike_InvalidWishes
      · exact fun C hn => by rw [xa_Needless] at hn; cases hn; exact kit_own xi_InvalidWishes xt_InvalidWishes xs_Needless xk_Needless_InvalidWishes
      · exact fun C hn => by rw [xa_NothingThere] at hn; cases hn; exact kit_own xi_InvalidWishes xt_InvalidWishes xs_NothingThere xk_NothingThere_InvalidWishes
      · exact fun C hn => by rw [xa_NoBlock] at hn; cases hn; exact kit_own xi_InvalidWishes xt_InvalidWishes xs_NoBlock xk_NoBlock_InvalidWishes
      · exact fun C hn => by rw [xa_NothingToUndo] at hn; cases hn; exact kit_own xi_InvalidWishes xt_InvalidWishes xs_NothingToUndo xk_NothingToUndo_InvalidWishes
      · exact fun C hn => by rw [xa_InvalidCommand] at hn; cases hn; exact kit_own xi_InvalidWishes xt_InvalidWishes xs_InvalidCommand xk_InvalidCommand_InvalidWishes
      · exact fun C hn => by rw [xa_Mixed] at hn; cases hn; exact kit_own xi_InvalidWishes xt_InvalidWishes xs_Mixed xk_Mixed_InvalidWishes
      · exact fun C hn => by rw [xa_InvalidWords] at hn; cases hn; exact kit_own xi_InvalidWishes xt_InvalidWishes xs_InvalidWords xk_InvalidWords_InvalidWishes
      · exact fun C hn => by rw [xa_WishError] at hn; cases hn; exact kit_own xi_InvalidWishes xt_InvalidWishes xs_WishError xk_WishError_InvalidWishes)⟩
    xy_InvalidWay := ⟨(by
      intro c hc
      simp only [List.mem_cons, List.not_mem_nil, or_false] at hc
      rcases hc with rfl | rfl | rfl | rfl | rfl | rfl | rfl | rfl | rfl | rfl | rfl | rfl | rfl | rfl | rfl | rfl | rfl | rfl | rfl | rfl
      · exact fun C hn => by rw [xa_InvalidTree] at hn; cases hn; exact kit_own xi_InvalidWay xt_InvalidWay xs_InvalidTree xk_InvalidTree_InvalidWay
      · exact fun C hn => by rw [xa_InvalidLocale] at hn; cases hn; exact kit_own xi_InvalidWay xt_InvalidWay xs_InvalidLocale xk_InvalidLocale_InvalidWay
      · exact fun C hn => by rw [xa_InvalidWishes] at hn; cases hn; exact kit_own xi_InvalidWay xt_InvalidWay xs_InvalidWishes xk_InvalidWishes_InvalidWay
      · exact fun C hn => by rw [xa_InvalidWay] at hn; cases hn; exact kit_own xi_InvalidWay xt_InvalidWay xs_InvalidWay xk_InvalidWay_InvalidWay
      · exact fun C hn => by rw [xa_InvalidCatalog] at hn; cases hn; exact kit_own xi_InvalidWay xt_InvalidWay xs_InvalidCatalog xk_InvalidCatalog_InvalidWay
      · exact fun C hn => by rw [xa_InvalidKey] at hn; cases hn; exact kit_own xi_InvalidWay xt_InvalidWay xs_InvalidKey xk_InvalidKey_InvalidWay
      · exact fun C hn => by rw [xa_InvalidText] at hn; cases hn; exact kit_own xi_InvalidWay xt_InvalidWay xs_InvalidText xk_InvalidText_InvalidWay
      · exact fun C hn => by rw [xa_InvalidPage] at hn; cases hn; exact kit_own xi_InvalidWay xt_InvalidWay xs_InvalidPage xk_InvalidPage_InvalidWay
      · exact fun C hn => by rw [xa_InvalidDoor] at hn; cases hn; exact kit_own xi_InvalidWay xt_InvalidWay xs_InvalidDoor xk_InvalidDoor_InvalidWay
      · exact fun C hn => by rw [xa_InvalidChoice] at hn; cases hn; exact kit_own xi_InvalidWay xt_InvalidWay xs_InvalidChoice xk_InvalidChoice_InvalidWay
      · exact fun C hn => by rw [xa_InvalidIndex] at hn; cases hn; exact kit_own xi_InvalidWay xt_InvalidWay xs_InvalidIndex xk_InvalidIndex_InvalidWay
      · exact fun C hn => by rw [xa_Unlike] at hn; cases hn; exact kit_own xi_InvalidWay xt_InvalidWay xs_Unlike xk_Unlike_InvalidWay
      · exact fun C hn => by rw [xa_Needless] at hn; cases hn; exact kit_own xi_InvalidWay xt_InvalidWay xs_Needless xk_Needless_InvalidWay
      · exact fun C hn => by rw [xa_NothingThere] at hn; cases hn; exact kit_own xi_InvalidWay xt_InvalidWay xs_NothingThere xk_NothingThere_InvalidWay
      · exact fun C hn => by rw [xa_NoBlock] at hn; cases hn; exact kit_own xi_InvalidWay xt_InvalidWay xs_NoBlock xk_NoBlock_InvalidWay
      · exact fun C hn => by rw [xa_NothingToUndo] at hn; cases hn; exact kit_own xi_InvalidWay xt_InvalidWay xs_NothingToUndo xk_NothingToUndo_InvalidWay
      · exact fun C hn => by rw [xa_InvalidCommand] at hn; cases hn; exact kit_own xi_InvalidWay xt_InvalidWay xs_InvalidCommand xk_InvalidCommand_InvalidWay
      · exact fun C hn => by rw [xa_Mixed] at hn; cases hn; exact kit_own xi_InvalidWay xt_InvalidWay xs_Mixed xk_Mixed_InvalidWay
      · exact fun C hn => by rw [xa_InvalidWords] at hn; cases hn; exact kit_own xi_InvalidWay xt_InvalidWay xs_InvalidWords xk_InvalidWords_InvalidWay
      · exact fun C hn => by rw [xa_WishError] at hn; cases hn; exact kit_own xi_InvalidWay xt_InvalidWay xs_WishError xk_WishError_InvalidWay)⟩
    xy_InvalidCatalog := ⟨(by
      intro c hc
      simp only [List.mem_cons, List.not_mem_nil, or_false] at hc
      rcases hc with rfl | rfl | rfl | rfl | rfl | rfl | rfl | rfl | rfl | rfl | rfl | rfl | rfl | rfl | rfl | rfl | rfl | rfl | rfl | rfl
      · exact fun C hn => by rw [xa_InvalidTree] at hn; cases hn; exact kit_own xi_InvalidCatalog xt_InvalidCatalog xs_InvalidTree xk_InvalidTree_InvalidCatalog
      · exact fun C hn => by rw [xa_InvalidLocale] at hn; cases hn; exact kit_own xi_InvalidCatalog xt_InvalidCatalog xs_InvalidLocale xk_InvalidLocale_InvalidCatalog
      · exact fun C hn => by rw [xa_InvalidWishes] at hn; cases hn; exact kit_own xi_InvalidCatalog xt_InvalidCatalog xs_InvalidWishes xk_InvalidWishes_InvalidCatalog
      · exact fun C hn => by rw [xa_InvalidWay] at hn; cases hn; exact kit_own xi_InvalidCatalog xt_InvalidCatalog xs_InvalidWay xk_InvalidWay_InvalidCatalog
      · exact fun C hn => by rw [xa_InvalidCatalog] at hn; cases hn; exact kit_own xi_InvalidCatalog xt_InvalidCatalog xs_InvalidCatalog xk_InvalidCatalog_InvalidCatalog
      · exact fun C hn => by rw [xa_InvalidKey] at hn; cases hn; exact kit_own xi_InvalidCatalog xt_InvalidCatalog xs_InvalidKey xk_InvalidKey_InvalidCatalog
      · exact fun C hn => by rw [xa_InvalidText] at hn; cases hn; exact kit_own xi_InvalidCatalog xt_InvalidCatalog xs_InvalidText xk_InvalidText_InvalidCatalog
      · exact fun C hn => by rw [xa_InvalidPage] at hn; cases hn; exact kit_own xi_InvalidCatalog xt_InvalidCatalog xs_InvalidPage xk_InvalidPage_InvalidCatalog
      · exact fun C hn => by rw [xa_InvalidDoor] at hn; cases hn; exact kit_own xi_InvalidCatalog xt_InvalidCatalog xs_InvalidDoor xk_InvalidDoor_InvalidCatalog
      · exact fun C hn => by rw [xa_InvalidChoice] at hn; cases hn; exact kit_own xi_InvalidCatalog xt_InvalidCatalog xs_InvalidChoice xk_InvalidChoice_InvalidCatalog
      · exact fun C hn => by rw [xa_InvalidIndex] at hn; cases hn; exact kit_own xi_InvalidCatalog xt_InvalidCatalog xs_InvalidIndex xk_InvalidIndex_InvalidCatalog
      · exact fun C hn => by rw [xa_Unlike] at hn; cases hn; exact kit_own xi_InvalidCatalog xt_InvalidCatalog xs_Unlike xk_Unlike_InvalidCatalog
      · exact fun C hn => by rw [xa_Needless] at hn; cases hn; exact kit_own xi_InvalidCatalog xt_InvalidCatalog xs_Needless xk_Needless_InvalidCatalog
      · exact fun C hn => by rw [xa_NothingThere] at hn; cases hn; exact kit_own xi_InvalidCatalog xt_InvalidCatalog xs_NothingThere xk_NothingThere_InvalidCatalog
      · exact fun C hn => by rw [xa_NoBlock] at hn; cases hn; exact kit_own xi_InvalidCatalog xt_InvalidCatalog xs_NoBlock xk_NoBlock_InvalidCatalog
      · exact fun C hn => by rw [xa_NothingToUndo] at hn; cases hn; exact kit_own xi_InvalidCatalog xt_InvalidCatalog xs_NothingToUndo xk_NothingToUndo_InvalidCatalog
      · exact fun C hn => by rw [xa_InvalidCommand] at hn; cases hn; exact kit_own xi_InvalidCatalog xt_InvalidCatalog xs_InvalidCommand xk_InvalidCommand_InvalidCatalog
      · exact fun C hn => by rw [xa_Mixed] at hn; cases hn; exact kit_own xi_InvalidCatalog xt_InvalidCatalog xs_Mixed xk_Mixed_InvalidCatalog
      · exact fun C hn => by rw [xa_InvalidWords] at hn; cases hn; exact kit_own xi_InvalidCatalog xt_InvalidCatalog xs_InvalidWords xk_InvalidWords_InvalidCatalog
      · exact fun C hn => by rw [xa_WishError] at hn; cases hn; exact kit_own xi_InvalidCatalog xt_InvalidCatalog xs_WishError xk_WishError_InvalidCatalog)⟩
    xy_InvalidKey := ⟨(by
      intro c hc
      simp only [List.mem_cons, List.not_mem_nil, or_false] at hc
      rcases hc with rfl | rfl | rfl | rfl | rfl | rfl | rfl | rfl | rfl | rfl | rfl | rfl | rfl | rfl | rfl | rfl | rfl | rfl | rfl | rfl
      · exact fun C hn => by rw [xa_InvalidTree] at hn; cases hn; exact kit_own xi_InvalidKey xt_InvalidKey xs_InvalidTree xk_InvalidTree_InvalidKey
      · exact fun C hn => by rw [xa_InvalidLocale] at hn; cases hn; exact kit_own xi_InvalidKey xt_InvalidKey xs_InvalidLocale xk_InvalidLocale_InvalidKey
      · exact fun C hn => by rw [xa_InvalidWishes] at hn; cases hn; exact kit_own xi_InvalidKey xt_InvalidKey xs_InvalidWishes xk_InvalidWishes_InvalidKey
      · exact fun C hn => by rw [xa_InvalidWay] at hn; cases hn; exact kit_own xi_InvalidKey xt_InvalidKey xs_InvalidWay xk_InvalidWay_InvalidKey
      · exact fun C hn => by rw [xa_InvalidCatalog] at hn; cases hn; exact kit_own xi_InvalidKey xt_InvalidKey xs_InvalidCatalog xk_InvalidCatalog_InvalidKey
      · exact fun C hn => by rw [xa_InvalidKey] at hn; cases hn; exact kit_own xi_InvalidKey xt_InvalidKey xs_InvalidKey xk_InvalidKey_InvalidKey
      · exact fun C hn => by rw [xa_InvalidText] at hn; cases hn; exact kit_own xi_InvalidKey xt_InvalidKey xs_InvalidText xk_InvalidText_InvalidKey
      · exact fun C hn => by rw [xa_InvalidPage] at hn; cases hn; exact kit_own xi_InvalidKey xt_InvalidKey xs_InvalidPage xk_InvalidPage_InvalidKey
      · exact fun C hn => by rw [xa_InvalidDoor] at hn; cases hn; exact kit_own xi_InvalidKey xt_InvalidKey xs_InvalidDoor xk_InvalidDoor_InvalidKey
      · exact fun C hn => by rw [xa_InvalidChoice] at hn; cases hn; exact kit_own xi_InvalidKey xt_InvalidKey xs_InvalidChoice xk_InvalidChoice_InvalidKey
      · exact fun C hn => by rw [xa_InvalidIndex] at hn; cases hn; exact kit_own xi_InvalidKey xt_InvalidKey xs_InvalidIndex xk_InvalidIndex_InvalidKey
      · exact fun C hn => by rw [xa_Unlike] at hn; cases hn; exact kit_own xi_InvalidKey xt_InvalidKey xs_Unlike xk_Unlike_InvalidKey
      · exact fun C hn => by rw [xa_Needless] at hn; cases hn; exact kit_own xi_InvalidKey xt_InvalidKey xs_Needless xk_Needless_InvalidKey
      · exact fun C hn => by rw [xa_NothingThere] at hn; cases hn; exact kit_own xi_InvalidKey xt_InvalidKey xs_NothingThere xk_NothingThere_InvalidKey
      · exact fun C hn => by rw [xa_NoBlock] at hn; cases hn; exact kit_own xi_InvalidKey xt_InvalidKey xs_NoBlock xk_NoBlock_InvalidKey
      · exact fun C hn => by rw [xa_NothingToUndo] at hn; cases hn; exact kit_own xi_InvalidKey xt_InvalidKey xs_NothingToUndo xk_NothingToUndo_InvalidKey
      · exact fun C hn => by rw [xa_InvalidCommand] at hn; cases hn; exact kit_own xi_InvalidKey xt_InvalidKey xs_InvalidCommand xk_InvalidCommand_InvalidKey
      · exact fun C hn => by rw [xa_Mixed] at hn; cases hn; exact kit_own xi_InvalidKey xt_InvalidKey xs_Mixed xk_Mixed_InvalidKey
      · exact fun C hn => by rw [xa_InvalidWords] at hn; cases hn; exact kit_own xi_InvalidKey xt_InvalidKey xs_InvalidWords xk_InvalidWords_InvalidKey
      · exact fun C hn => by rw [xa_WishError] at hn; cases hn; exact kit_own xi_InvalidKey xt_InvalidKey xs_WishError xk_WishError_InvalidKey)⟩
    xy_InvalidText := ⟨(by
      intro c hc
      simp only [List.mem_cons, List.not_mem_nil, or_false] at hc
      rcases hc with rfl | rfl | rfl | rfl | rfl | rfl | rfl | rfl | rfl | rfl | rfl | rfl | rfl | rfl | rfl | rfl | rfl | rfl | rfl | rfl
      · exact fun C hn => by rw [xa_InvalidTree] at hn; cases hn; exact kit_own xi_InvalidText xt_InvalidText xs_InvalidTree xk_InvalidTree_InvalidText
      · exact fun C hn => by rw [xa_InvalidLocale] at hn; cases hn; exact kit_own xi_InvalidText xt_InvalidText xs_InvalidLocale xk_InvalidLocale_InvalidText
      · exact fun C hn => by rw [xa_InvalidWishes] at hn; cases hn; exact kit_own xi_InvalidText xt_InvalidText xs_InvalidWishes xk_InvalidWishes_InvalidText
      · exact fun C hn => by rw [xa_InvalidWay] at hn; cases hn; exact kit_own xi_InvalidText xt_InvalidText xs_InvalidWay xk_InvalidWay_InvalidText
      · exact fun C hn => by rw [xa_InvalidCatalog] at hn; cases hn; exact kit_own xi_InvalidText xt_InvalidText xs_InvalidCatalog xk_InvalidCatalog_InvalidText
      · exact fun C hn => by rw [xa_InvalidKey] at hn; cases hn; exact kit_own xi_InvalidText xt_InvalidText xs_InvalidKey xk_InvalidKey_InvalidText
      · exact fun C hn => by rw [xa_InvalidText] at hn; cases hn; exact kit_own xi_InvalidText xt_InvalidText xs_InvalidText xk_InvalidText_InvalidText
      · exact fun C hn => by rw [xa_InvalidPage] at hn; cases hn; exact kit_own xi_InvalidText xt_InvalidText xs_InvalidPage xk_InvalidPage_InvalidText
      · exact fun C hn => by rw [xa_InvalidDoor] at hn; cases hn; exact kit_own xi_InvalidText xt_InvalidText xs_InvalidDoor xk_InvalidDoor_InvalidText
      · exact fun C hn => by rw [xa_InvalidChoice] at hn; cases hn; exact kit_own xi_InvalidText xt_InvalidText xs_InvalidChoice xk_InvalidChoice_InvalidText
      · exact fun C hn => by rw [xa_InvalidIndex] at hn; cases hn; exact kit_own xi_InvalidText xt_InvalidText xs_InvalidIndex xk_InvalidIndex_InvalidText
      · exact fun C hn => by rw [xa_Unlike] at hn; cases hn; exact kit_own xi_InvalidText xt_InvalidText xs_Unlike xk_Unlike_InvalidText
      · exact fun C hn => by rw [xa_Needless] at hn; cases hn; exact kit_own xi_InvalidText xt_InvalidText xs_Needless xk_Needless_InvalidText
      · exact fun C hn => by rw [xa_NothingThere] at hn; cases hn; exact kit_own xi_InvalidText xt_InvalidText xs_NothingThere xk_NothingThere_InvalidText
      · exact fun C hn => by rw [xa_NoBlock] at hn; cases hn; exact kit_own xi_InvalidText xt_InvalidText xs_NoBlock xk_NoBlock_InvalidText
      · exact fun C hn => by rw [xa_NothingToUndo] at hn; cases hn; exact kit_own xi_InvalidText xt_InvalidText xs_NothingToUndo xk_NothingToUndo_InvalidText
      · exact fun C hn => by rw [xa_InvalidCommand] at hn; cases hn; exact kit_own xi_InvalidText xt_InvalidText xs_InvalidCommand xk_InvalidCommand_InvalidText
      · exact fun C hn => by rw [xa_Mixed] at hn; cases hn; exact kit_own xi_InvalidText xt_InvalidText xs_Mixed xk_Mixed_InvalidText
      · exact fun C hn => by rw [xa_InvalidWords] at hn; cases hn; exact kit_own xi_InvalidText xt_InvalidText xs_InvalidWords xk_InvalidWords_InvalidText
      · exact fun C hn => by rw [xa_WishError] at hn; cases hn; exact kit_own xi_InvalidText xt_InvalidText xs_WishError xk_WishError_InvalidText)⟩
    xy_InvalidPage := ⟨(by
      intro c hc
      simp only [List.mem_cons, List.not_mem_nil, or_false] at hc
      rcases hc with rfl | rfl | rfl | rfl | rfl | rfl | rfl | rfl | rfl | rfl | rfl | rfl | rfl | rfl | rfl | rfl | rfl | rfl | rfl | rfl
      · exact fun C hn => by rw [xa_InvalidTree] at hn; cases hn; exact kit_own xi_InvalidPage xt_InvalidPage xs_InvalidTree xk_InvalidTree_InvalidPage
      · exact fun C hn => by rw [xa_InvalidLocale] at hn; cases hn; exact kit_own xi_InvalidPage xt_InvalidPage xs_InvalidLocale xk_InvalidLocale_InvalidPage
      · exact fun C hn => by rw [xa_InvalidWishes] at hn; cases hn; exact kit_own xi_InvalidPage xt_InvalidPage xs_InvalidWishes xk_InvalidWishes_InvalidPage
      · exact fun C hn => by rw [xa_InvalidWay] at hn; cases hn; exact kit_own xi_InvalidPage xt_InvalidPage xs_InvalidWay xk_InvalidWay_InvalidPage
      · exact fun C hn => by rw [xa_InvalidCatalog] at hn; cases hn; exact kit_own xi_InvalidPage xt_InvalidPage xs_InvalidCatalog xk_InvalidCatalog_InvalidPage
      · exact fun C hn => by rw [xa_InvalidKey] at hn; cases hn; exact kit_own xi_InvalidPage xt_InvalidPage xs_InvalidKey xk_InvalidKey_InvalidPage
      · exact fun C hn => by rw [xa_InvalidText] at hn; cases hn; exact kit_own xi_InvalidPage xt_InvalidPage xs_InvalidText xk_InvalidText_InvalidPage
      · exact fun C hn => by rw [xa_InvalidPage] at hn; cases hn; exact kit_own xi_InvalidPage xt_InvalidPage xs_InvalidPage xk_InvalidPage_InvalidPage
      · exact fun C hn => by rw [xa_InvalidDoor] at hn; cases hn; exact kit_own xi_InvalidPage xt_InvalidPage xs_InvalidDoor xk_InvalidDoor_InvalidPage
      · exact fun C hn => by rw [xa_InvalidChoice] at hn; cases hn; exact kit_own xi_InvalidPage xt_InvalidPage xs_InvalidChoice xk_InvalidChoice_InvalidPage
      · exact fun C hn => by rw [xa_InvalidIndex] at hn; cases hn; exact kit_own xi_InvalidPage xt_InvalidPage xs_InvalidIndex xk_InvalidIndex_InvalidPage
      · exact fun C hn => by rw [xa_Unlike] at hn; cases hn; exact kit_own xi_InvalidPage xt_InvalidPage xs_Unlike xk_Unlike_InvalidPage
      · exact fun C hn => by rw [xa_Needless] at hn; cases hn; exact kit_own xi_InvalidPage xt_InvalidPage xs_Needless xk_Needless_InvalidPage
      · exact fun C hn => by rw [xa_NothingThere] at hn; cases hn; exact kit_own xi_InvalidPage xt_InvalidPage xs_NothingThere xk_NothingThere_InvalidPage
      · exact fun C hn => by rw [xa_NoBlock] at hn; cases hn; exact kit_own xi_InvalidPage xt_InvalidPage xs_NoBlock xk_NoBlock_InvalidPage
      · exact fun C hn => by rw [xa_NothingToUndo] at hn; cases hn; exact kit_own xi_InvalidPage xt_InvalidPage xs_NothingToUndo xk_NothingToUndo_InvalidPage
      · exact fun C hn => by rw [xa_InvalidCommand] at hn; cases hn; exact kit_own xi_InvalidPage xt_InvalidPage xs_InvalidCommand xk_InvalidCommand_InvalidPage
      · exact fun C hn => by rw [xa_Mixed] at hn; cases hn; exact kit_own xi_InvalidPage xt_InvalidPage xs_Mixed xk_Mixed_InvalidPage
      · exact fun C hn => by rw [xa_InvalidWords] at hn; cases hn; exact kit_own xi_InvalidPage xt_InvalidPage xs_InvalidWords xk_InvalidWords_InvalidPage
      · exact fun C hn => by rw [xa_WishError] at hn; cases hn; exact kit_own xi_InvalidPage xt_InvalidPage xs_WishError xk_WishError_InvalidPage)⟩
    xy_InvalidDoor := ⟨(by
      intro c hc
      simp only [List.mem_cons, List.not_mem_nil, or_false] at hc
      rcases hc with rfl | rfl | rfl | rfl | rfl | rfl | rfl | rfl | rfl | rfl | rfl | rfl | rfl | rfl | rfl | rfl | rfl | rfl | rfl | rfl
      · exact fun C hn => by rw [xa_InvalidTree] at hn; cases hn; exact kit_own xi_InvalidDoor xt_InvalidDoor xs_InvalidTree xk_InvalidTree_InvalidDoor
      · exact fun C hn => by rw [xa_InvalidLocale] at hn; cases hn; exact kit_own xi_InvalidDoor xt_InvalidDoor xs_InvalidLocale xk_InvalidLocale_InvalidDoor
      · exact fun C hn => by rw [xa_InvalidWishes] at hn; cases hn; exact kit_own xi_InvalidDoor xt_InvalidDoor xs_InvalidWishes xk_InvalidWishes_InvalidDoor
      · exact fun C hn => by rw [xa_InvalidWay] at hn; cases hn; exact kit_own xi_InvalidDoor xt_InvalidDoor xs_InvalidWay xk_InvalidWay_InvalidDoor
      · exact fun C hn => by rw [xa_InvalidCatalog] at hn; cases hn; exact kit_own xi_InvalidDoor xt_InvalidDoor xs_InvalidCatalog xk_InvalidCatalog_InvalidDoor
      · exact fun C hn => by rw [xa_InvalidKey] at hn; cases hn; exact kit_own xi_InvalidDoor xt_InvalidDoor xs_InvalidKey xk_InvalidKey_InvalidDoor
      · exact fun C hn => by rw [xa_InvalidText] at hn; cases hn; exact kit_own xi_InvalidDoor xt_InvalidDoor xs_InvalidText xk_InvalidText_InvalidDoor
      · exact fun C hn => by rw [xa_InvalidPage] at hn; cases hn; exact kit_own xi_InvalidDoor xt_InvalidDoor xs_InvalidPage xk_InvalidPage_InvalidDoor
      · exact fun C hn => by rw [xa_InvalidDoor] at hn; cases hn; exact kit_own xi_InvalidDoor xt_InvalidDoor xs_InvalidDoor xk_InvalidDoor_InvalidDoor
      · exact fun C hn => by rw [xa_InvalidChoice] at hn; cases hn; exact kit_own xi_InvalidDoor xt_InvalidDoor xs_InvalidChoice xk_InvalidChoice_InvalidDoor
      · exact fun C hn => by rw [xa_InvalidIndex] at hn; cases hn; exact kit_own xi_InvalidDoor xt_InvalidDoor xs_InvalidIndex xk_InvalidIndex_InvalidDoor
      · exact fun C hn => by rw [xa_Unlike] at hn; cases hn; exact kit_own xi_InvalidDoor xt_InvalidDoor xs_Unlike xk_Unlike_InvalidDoor
      · exact fun C hn => by rw [xa_Needless] at hn; cases hn; exact kit_own xi_InvalidDoor xt_InvalidDoor xs_Needless xk_Needless_InvalidDoor
      · exact fun C hn => by rw [xa_NothingThere] at hn; cases hn; exact kit_own xi_InvalidDoor xt_InvalidDoor xs_NothingThere xk_NothingThere_InvalidDoor
      · exact fun C hn => by rw [xa_NoBlock] at hn; cases hn; exact kit_own xi_InvalidDoor xt_InvalidDoor xs_NoBlock xk_NoBlock_InvalidDoor
      · exact fun C hn => by rw [xa_NothingToUndo] at hn; cases hn; exact kit_own xi_InvalidDoor xt_InvalidDoor xs_NothingToUndo xk_NothingToUndo_InvalidDoor
      · exact fun C hn => by rw [xa_InvalidCommand] at hn; cases hn; exact kit_own xi_InvalidDoor xt_InvalidDoor xs_InvalidCommand xk_InvalidCommand_InvalidDoor
      · exact fun C hn => by rw [xa_Mixed] at hn; cases hn; exact kit_own xi_InvalidDoor xt_InvalidDoor xs_Mixed xk_Mixed_InvalidDoor
      · exact fun C hn => by rw [xa_InvalidWords] at hn; cases hn; exact kit_own xi_InvalidDoor xt_InvalidDoor xs_InvalidWords xk_InvalidWords_InvalidDoor
      · exact fun C hn => by rw [xa_WishError] at hn; cases hn; exact kit_own xi_InvalidDoor xt_InvalidDoor xs_WishError xk_WishError_InvalidDoor)⟩
    xy_InvalidChoice := ⟨(by
      intro c hc
      simp only [List.mem_cons, List.not_mem_nil, or_false] at hc
      rcases hc with rfl | rfl | rfl | rfl | rfl | rfl | rfl | rfl | rfl | rfl | rfl | rfl | rfl | rfl | rfl | rfl | rfl | rfl | rfl | rfl
      · exact fun C hn => by rw [xa_InvalidTree] at hn; cases hn; exact kit_own xi_InvalidChoice xt_InvalidChoice xs_InvalidTree xk_InvalidTree_InvalidChoice
      · exact fun C hn => by rw [xa_InvalidLocale] at hn; cases hn; exact kit_own xi_InvalidChoice xt_InvalidChoice xs_InvalidLocale xk_InvalidLocale_InvalidChoice
      · exact fun C hn => by rw [xa_InvalidWishes] at hn; cases hn; exact kit_own xi_InvalidChoice xt_InvalidChoice xs_InvalidWishes xk_InvalidWishes_InvalidChoice
      · exact fun C hn => by rw [xa_InvalidWay] at hn; cases hn; exact kit_own xi_InvalidChoice xt_InvalidChoice xs_InvalidWay xk_InvalidWay_InvalidChoice
      · exact fun C hn => by rw [xa_InvalidCatalog] at hn; cases hn; exact kit_own xi_InvalidChoice xt_InvalidChoice xs_InvalidCatalog xk_InvalidCatalog_InvalidChoice
      · exact fun C hn => by rw [xa_InvalidKey] at hn; cases hn; exact kit_own xi_InvalidChoice xt_InvalidChoice xs_InvalidKey xk_InvalidKey_InvalidChoice
      · exact fun C hn => by rw [xa_InvalidText] at hn; cases hn; exact kit_own xi_InvalidChoice xt_InvalidChoice xs_InvalidText xk_InvalidText_InvalidChoice
      · exact fun C hn => by rw [xa_InvalidPage] at hn; cases hn; exact kit_own xi_InvalidChoice xt_InvalidChoice xs_InvalidPage xk_InvalidPage_InvalidChoice
      · exact fun C hn => by rw [xa_InvalidDoor] at hn; cases hn; exact kit_own xi_InvalidChoice xt_InvalidChoice xs_InvalidDoor xk_InvalidDoor_InvalidChoice
      · exact fun C hn => by rw [xa_InvalidChoice] at hn; cases hn; exact kit_own xi_InvalidChoice xt_InvalidChoice xs_InvalidChoice xk_InvalidChoice_InvalidChoice
      · exact fun C hn => by rw [xa_InvalidIndex] at hn; cases hn; exact kit_own xi_InvalidChoice xt_InvalidChoice xs_InvalidIndex xk_InvalidIndex_InvalidChoice
      · exact fun C hn => by rw [xa_Unlike] at hn; cases hn; exact kit_own xi_InvalidChoice xt_InvalidChoice xs_Unlike xk_Unlike_InvalidChoice
      · exact fun C hn => by rw [xa_Needless] at hn; cases hn; exact kit_own xi_InvalidChoice xt_InvalidChoice xs_Needless xk_Needless_InvalidChoice
      · exact fun C hn => by rw [xa_NothingThere] at hn; cases hn; exact kit_own xi_InvalidChoice xt_InvalidChoice xs_NothingThere xk_NothingThere_InvalidChoice
      · exact fun C hn => by rw [xa_NoBlock] at hn; cases hn; exact kit_own xi_InvalidChoice xt_InvalidChoice xs_NoBlock xk_NoBlock_InvalidChoice
      · exact fun C hn => by rw [xa_NothingToUndo] at hn; cases hn; exact kit_own xi_InvalidChoice xt_InvalidChoice xs_NothingToUndo xk_NothingToUndo_InvalidChoice
      · exact fun C hn => by rw [xa_InvalidCommand] at hn; cases hn; exact kit_own xi_InvalidChoice xt_InvalidChoice xs_InvalidCommand xk_InvalidCommand_InvalidChoice
      · exact fun C hn => by rw [xa_Mixed] at hn; cases hn; exact kit_own xi_InvalidChoice xt_InvalidChoice xs_Mixed xk_Mixed_InvalidChoice
      · exact fun C hn => by rw [xa_InvalidWords] at hn; cases hn; exact kit_own xi_InvalidChoice xt_InvalidChoice xs_InvalidWords xk_InvalidWords_InvalidChoice
      · exact fun C hn => by rw [xa_WishError] at hn; cases hn; exact kit_own xi_InvalidChoice xt_InvalidChoice xs_WishError xk_WishError_InvalidChoice)⟩
    xy_InvalidIndex := ⟨(by
      intro c hc
      simp only [List.mem_cons, List.not_mem_nil, or_false] at hc
      rcases hc with rfl | rfl | rfl | rfl | rfl | rfl | rfl | rfl | rfl | rfl | rfl | rfl | rfl | rfl | rfl | rfl | rfl | rfl | rfl | rfl
      · exact fun C hn => by rw [xa_InvalidTree] at hn; cases hn; exact kit_own xi_InvalidIndex xt_InvalidIndex xs_InvalidTree xk_InvalidTree_InvalidIndex
      · exact fun C hn => by rw [xa_InvalidLocale] at hn; cases hn; exact kit_own xi_InvalidIndex xt_InvalidIndex xs_InvalidLocale xk_InvalidLocale_InvalidIndex
      · exact fun C hn => by rw [xa_InvalidWishes] at hn; cases hn; exact kit_own xi_InvalidIndex xt_InvalidIndex xs_InvalidWishes xk_InvalidWishes_InvalidIndex
      · exact fun C hn => by rw [xa_InvalidWay] at hn; cases hn; exact kit_own xi_InvalidIndex xt_InvalidIndex xs_InvalidWay xk_InvalidWay_InvalidIndex
      · exact fun C hn => by rw [xa_InvalidCatalog] at hn; cases hn; exact kit_own xi_InvalidIndex xt_InvalidIndex xs_InvalidCatalog xk_InvalidCatalog_InvalidIndex
      · exact fun C hn => by rw [xa_InvalidKey] at hn; cases hn; exact kit_own xi_InvalidIndex xt_InvalidIndex xs_InvalidKey xk_InvalidKey_InvalidIndex
      · exact fun C hn => by rw [xa_InvalidText] at hn; cases hn; exact kit_own xi_InvalidIndex xt_InvalidIndex xs_InvalidText xk_InvalidText_InvalidIndex
      · exact fun C hn => by rw [xa_InvalidPage] at hn; cases hn; exact kit_own xi_InvalidIndex xt_InvalidIndex xs_InvalidPage xk_InvalidPage_InvalidIndex
      · exact fun C hn => by rw [xa_InvalidDoor] at hn; cases hn; exact kit_own xi_InvalidIndex xt_InvalidIndex xs_InvalidDoor xk_InvalidDoor_InvalidIndex
      · exact fun C hn => by rw [xa_InvalidChoice] at hn; cases hn; exact kit_own xi_InvalidIndex xt_InvalidIndex xs_InvalidChoice xk_InvalidChoice_InvalidIndex
      · exact fun C hn => by rw [xa_InvalidIndex] at hn; cases hn; exact kit_own xi_InvalidIndex xt_InvalidIndex xs_InvalidIndex xk_InvalidIndex_InvalidIndex
      · exact fun C hn => by rw [xa_Unlike] at hn; cases hn; exact kit_own xi_InvalidIndex xt_InvalidIndex xs_Unlike xk_Unlike_InvalidIndex
      · exact fun C hn => by rw [xa_Needless] at hn; cases hn; exact kit_own xi_InvalidIndex xt_InvalidIndex xs_Needless xk_Needless_InvalidIndex
      · exact fun C hn => by rw [xa_NothingThere] at hn; cases hn; exact kit_own xi_InvalidIndex xt_InvalidIndex xs_NothingThere xk_NothingThere_InvalidIndex
      · exact fun C hn => by rw [xa_NoBlock] at hn; cases hn; exact kit_own xi_InvalidIndex xt_InvalidIndex xs_NoBlock xk_NoBlock_InvalidIndex
      · exact fun C hn => by rw [xa_NothingToUndo] at hn; cases hn; exact kit_own xi_InvalidIndex xt_InvalidIndex xs_NothingToUndo xk_NothingToUndo_InvalidIndex
      · exact fun C hn => by rw [xa_InvalidCommand] at hn; cases hn; exact kit_own xi_InvalidIndex xt_InvalidIndex xs_InvalidCommand xk_InvalidCommand_InvalidIndex
      · exact fun C hn => by rw [xa_Mixed] at hn; cases hn; exact kit_own xi_InvalidIndex xt_InvalidIndex xs_Mixed xk_Mixed_InvalidIndex
      · exact fun C hn => by rw [xa_InvalidWords] at hn; cases hn; exact kit_own xi_InvalidIndex xt_InvalidIndex xs_InvalidWords xk_InvalidWords_InvalidIndex
      · exact fun C hn => by rw [xa_WishError] at hn; cases hn; exact kit_own xi_InvalidIndex xt_InvalidIndex xs_WishError xk_WishError_InvalidIndex)⟩
    xy_Unlike := ⟨(by
      intro c hc
      simp only [List.mem_cons, List.not_mem_nil, or_false] at hc
      rcases hc with rfl | rfl | rfl | rfl | rfl | rfl | rfl | rfl | rfl | rfl | rfl | rfl | rfl | rfl | rfl | rfl | rfl | rfl | rfl | rfl
      · exact fun C hn => by rw [xa_InvalidTree] at hn; cases hn; exact kit_own xi_Unlike xt_Unlike xs_InvalidTree xk_InvalidTree_Unlike
      · exact fun C hn => by rw [xa_InvalidLocale] at hn; cases hn; exact kit_own xi_Unlike xt_Unlike xs_InvalidLocale xk_InvalidLocale_Unlike
      · exact fun C hn => by rw [xa_InvalidWishes] at hn; cases hn; exact kit_own xi_Unlike xt_Unlike xs_InvalidWishes xk_InvalidWishes_Unlike
      · exact fun C hn => by rw [xa_InvalidWay] at hn; cases hn; exact kit_own xi_Unlike xt_Unlike xs_InvalidWay xk_InvalidWay_Unlike
      · exact fun C hn => by rw [xa_InvalidCatalog] at hn; cases hn; exact kit_own xi_Unlike xt_Unlike xs_InvalidCatalog xk_InvalidCatalog_Unlike
      · exact fun C hn => by rw [xa_InvalidKey] at hn; cases hn; exact kit_own xi_Unlike xt_Unlike xs_InvalidKey xk_InvalidKey_Unlike
      · exact fun C hn => by rw [xa_InvalidText] at hn; cases hn; exact kit_own xi_Unlike xt_Unlike xs_InvalidText xk_InvalidText_Unlike
      · exact fun C hn => by rw [xa_InvalidPage] at hn; cases hn; exact kit_own xi_Unlike xt_Unlike xs_InvalidPage xk_InvalidPage_Unlike
      · exact fun C hn => by rw [xa_InvalidDoor] at hn; cases hn; exact kit_own xi_Unlike xt_Unlike xs_InvalidDoor xk_InvalidDoor_Unlike
      · exact fun C hn => by rw [xa_InvalidChoice] at hn; cases hn; exact kit_own xi_Unlike xt_Unlike xs_InvalidChoice xk_InvalidChoice_Unlike
      · exact fun C hn => by rw [xa_InvalidIndex] at hn; cases hn; exact kit_own xi_Unlike xt_Unlike xs_InvalidIndex xk_InvalidIndex_Unlike
      · exact fun C hn => by rw [xa_Unlike] at hn; cases hn; exact kit_own xi_Unlike xt_Unlike xs_Unlike xk_Unlike_Unlike
      · exact fun C hn => by rw [xa_Needless] at hn; cases hn; exact kit_own xi_Unlike xt_Unlike xs_Needless xk_Needless_Unlike
      · exact fun C hn => by rw [xa_NothingThere] at hn; cases hn; exact kit_own xi_Unlike xt_Unlike xs_NothingThere xk_NothingThere_Unlike
      · exact fun C hn => by rw [xa_NoBlock] at hn; cases hn; exact kit_own xi_Unlike xt_Unlike xs_NoBlock xk_NoBlock_Unlike
      · exact fun C hn => by rw [xa_NothingToUndo] at hn; cases hn; exact kit_own xi_Unlike xt_Unlike xs_NothingToUndo xk_NothingToUndo_Unlike
      · exact fun C hn => by rw [xa_InvalidCommand] at hn; cases hn; exact kit_own xi_Unlike xt_Unlike xs_InvalidCommand xk_InvalidCommand_Unlike
      · exact fun C hn => by rw [xa_Mixed] at hn; cases hn; exact kit_own xi_Unlike xt_Unlike xs_Mixed xk_Mixed_Unlike
      · exact fun C hn => by rw [xa_InvalidWords] at hn; cases hn; exact kit_own xi_Unlike xt_Unlike xs_InvalidWords xk_InvalidWords_Unlike
      · exact fun C hn => by rw [xa_WishError] at hn; cases hn; exact kit_own xi_Unlike xt_Unlike xs_WishError xk_WishError_Unlike)⟩
    xy_Needless := ⟨(by
      intro c hc
      simp only [List.mem_cons, List.not_mem_nil, or_false] at hc
      rcases hc with rfl | rfl | rfl | rfl | rfl | rfl | rfl | rfl | rfl | rfl | rfl | rfl | rfl | rfl | rfl | rfl | rfl | rfl | rfl | rfl
      · exact fun C hn => by rw [xa_InvalidTree] at hn; cases hn; exact kit_own xi_Needless xt_Needless xs_InvalidTree xk_InvalidTree_Needless
      · exact fun C hn => by rw [xa_InvalidLocale] at hn; cases hn; exact kit_own xi_Needless xt_Needless xs_InvalidLocale xk_InvalidLocale_Needless
      · exact fun C hn => by rw [xa_InvalidWishes] at hn; cases hn; exact kit_own xi_Needless xt_Needless xs_InvalidWishes xk_InvalidWishes_Needless
      · exact fun C hn => by rw [xa_InvalidWay] at hn; cases hn; exact kit_own xi_Needless xt_Needless xs_InvalidWay xk_InvalidWay_Needless
      · exact fun C hn => by rw [xa_InvalidCatalog] at hn; cases hn; exact kit_own xi_Needless xt_Needless xs_InvalidCatalog xk_InvalidCatalog_Needless
      · exact fun C hn => by rw [xa_InvalidKey] at hn; cases hn; exact kit_own xi_Needless xt_Needless xs_InvalidKey xk_InvalidKey_Needless
      · exact fun C hn => by rw [xa_InvalidText] at hn; cases hn; exact kit_own xi_Needless xt_Needless xs_InvalidText xk_InvalidText_Needless
      · exact fun C hn => by rw [xa_InvalidPage] at hn; cases hn; exact kit_own xi_Needless xt_Needless xs_InvalidPage xk_InvalidPage_Needless
      · exact fun C hn => by rw [xa_InvalidDoor] at hn; cases hn; exact kit_own xi_Needless xt_Needless xs_InvalidDoor xk_InvalidDoor_Needless
      · exact fun C hn => by rw [xa_InvalidChoice] at hn; cases hn; exact kit_own xi_Needless xt_Needless xs_InvalidChoice xk_InvalidChoice_Needless
      · exact fun C hn => by rw [xa_InvalidIndex] at hn; cases hn; exact kit_own xi_Needless xt_Needless xs_InvalidIndex xk_InvalidIndex_Needless
      · exact fun C hn => by rw [xa_Unlike] at hn; cases hn; exact kit_own xi_Needless xt_Needless xs_Unlike xk_Unlike_Needless
      · exact fun C hn => by rw [xa_Needless] at hn; cases hn; exact kit_own xi_Needless xt_Needless xs_Needless xk_Needless_Needless
      · exact fun C hn => by rw [xa_NothingThere] at hn; cases hn; exact kit_own xi_Needless xt_Needless xs_NothingThere xk_NothingThere_Needless
      · exact fun C hn => by rw [xa_NoBlock] at hn; cases hn; exact kit_own xi_Needless xt_Needless xs_NoBlock xk_NoBlock_Needless
      · exact fun C hn => by rw [xa_NothingToUndo] at hn; cases hn; exact kit_own xi_Needless xt_Needless xs_NothingToUndo xk_NothingToUndo_Needless
      · exact fun C hn => by rw [xa_InvalidCommand] at hn; cases hn; exact kit_own xi_Needless xt_Needless xs_InvalidCommand xk_InvalidCommand_Needless
      · exact fun C hn => by rw [xa_Mixed] at hn; cases hn; exact kit_own xi_Needless xt_Needless xs_Mixed xk_Mixed_Needless
      · exact fun C hn => by rw [xa_InvalidWords] at hn; cases hn; exact kit_own xi_Needless xt_Needless xs_InvalidWords xk_InvalidWords_Needless
      · exact fun C hn => by rw [xa_WishError] at hn; cases hn; exact kit_own xi_Needless xt_Needless xs_WishError xk_WishError_Needless)⟩
    xy_NothingThere := ⟨(by
      intro c hc
      simp only [List.mem_cons, List.not_mem_nil, or_false] at hc
      rcases hc with rfl | rfl | rfl | rfl | rfl | rfl | rfl | rfl | rfl | rfl | rfl | rfl | rfl | rfl | rfl | rfl | rfl | rfl | rfl | rfl
      · exact fun C hn => by rw [xa_InvalidTree] at hn; cases hn; exact kit_own xi_NothingThere xt_NothingThere xs_InvalidTree xk_InvalidTree_NothingThere
      · exact fun C hn => by rw [xa_InvalidLocale] at hn; cases hn; exact kit_own xi_NothingThere xt_NothingThere xs_InvalidLocale xk_InvalidLocale_NothingThere
      · exact fun C hn => by rw [xa_InvalidWishes] at hn; cases hn; exact kit_own xi_NothingThere xt_NothingThere xs_InvalidWishes xk_InvalidWishes_NothingThere
      · exact fun C hn => by rw [xa_InvalidWay] at hn; cases hn; exact kit_own xi_NothingThere xt_NothingThere xs_InvalidWay xk_InvalidWay_NothingThere
      · exact fun C hn => by rw [xa_InvalidCatalog] at hn; cases hn; exact kit_own xi_NothingThere xt_NothingThere xs_InvalidCatalog xk_InvalidCatalog_NothingThere
      · exact fun C hn => by rw [xa_InvalidKey] at hn; cases hn; exact kit_own xi_NothingThere xt_NothingThere xs_InvalidKey xk_InvalidKey_NothingThere
      · exact fun C hn => by rw [xa_InvalidText] at hn; cases hn; exact kit_own xi_NothingThere xt_NothingThere xs_InvalidText xk_InvalidText_NothingThere
      · exact fun C hn => by rw [xa_InvalidPage] at hn; cases hn; exact kit_own xi_NothingThere xt_NothingThere xs_InvalidPage xk_InvalidPage_NothingThere
      · exact fun C hn => by rw [xa_InvalidDoor] at hn; cases hn; exact kit_own xi_NothingThere xt_NothingThere xs_InvalidDoor xk_InvalidDoor_NothingThere
      · exact fun C hn => by rw [xa_InvalidChoice] at hn; cases hn; exact kit_own xi_NothingThere xt_NothingThere xs_InvalidChoice xk_InvalidChoice_NothingThere
      · exact fun C hn => by rw [xa_InvalidIndex] at hn; cases hn; exact kit_own xi_NothingThere xt_NothingThere xs_InvalidIndex xk_InvalidIndex_NothingThere
      · exact fun C hn => by rw [xa_Unlike] at hn; cases hn; exact kit_own xi_NothingThere xt_NothingThere xs_Unlike xk_Unlike_NothingThere
      · exact fun C hn => by rw [xa_Needless] at hn; cases hn; exact kit_own xi_NothingThere xt_NothingThere xs_Needless xk_Needless_NothingThere
      · exact fun C hn => by rw [xa_NothingThere] at hn; cases hn; exact kit_own xi_NothingThere xt_NothingThere xs_NothingThere xk_NothingThere_NothingThere
      · exact fun C hn => by rw [xa_NoBlock] at hn; cases hn; exact kit_own xi_NothingThere xt_NothingThere xs_NoBlock xk_NoBlock_NothingThere
      · exact fun C hn => by rw [xa_NothingToUndo] at hn; cases hn; exact kit_own xi_NothingThere xt_NothingThere xs_NothingToUndo xk_NothingToUndo_NothingThere
      · exact fun C hn => by rw [xa_InvalidCommand] at hn; cases hn; exact kit_own xi_NothingThere xt_NothingThere xs_InvalidCommand xk_InvalidCommand_NothingThere
      · exact fun C hn => by rw [xa_Mixed] at hn; cases hn; exact kit_own xi_NothingThere xt_NothingThere xs_Mixed xk_Mixed_NothingThere
      · exact fun C hn => by rw [xa_InvalidWords] at hn; cases hn; exact kit_own xi_NothingThere xt_NothingThere xs_InvalidWords xk_InvalidWords_NothingThere
      · exact fun C hn => by rw [xa_WishError] at hn; cases hn; exact kit_own xi_NothingThere xt_NothingThere xs_WishError xk_WishError_NothingThere)⟩
    xy_NoBlock := ⟨(by
      intro c hc
      simp only [List.mem_cons, List.not_mem_nil, or_false] at hc
      rcases hc with rfl | rfl | rfl | rfl | rfl | rfl | rfl | rfl | rfl | rfl | rfl | rfl | rfl | rfl | rfl | rfl | rfl | rfl | rfl | rfl
      · exact fun C hn => by rw [xa_InvalidTree] at hn; cases hn; exact kit_own xi_NoBlock xt_NoBlock xs_InvalidTree xk_InvalidTree_NoBlock
      · exact fun C hn => by rw [xa_InvalidLocale] at hn; cases hn; exact kit_own xi_NoBlock xt_NoBlock xs_InvalidLocale xk_InvalidLocale_NoBlock
      · exact fun C hn => by rw [xa_InvalidWishes] at hn; cases hn; exact kit_own xi_NoBlock xt_NoBlock xs_InvalidWishes xk_InvalidWishes_NoBlock
      · exact fun C hn => by rw [xa_InvalidWay] at hn; cases hn; exact kit_own xi_NoBlock xt_NoBlock xs_InvalidWay xk_InvalidWay_NoBlock
      · exact fun C hn => by rw [xa_InvalidCatalog] at hn; cases hn; exact kit_own xi_NoBlock xt_NoBlock xs_InvalidCatalog xk_InvalidCatalog_NoBlock
      · exact fun C hn => by rw [xa_InvalidKey] at hn; cases hn; exact kit_own xi_NoBlock xt_NoBlock xs_InvalidKey xk_InvalidKey_NoBlock
      · exact fun C hn => by rw [xa_InvalidText] at hn; cases hn; exact kit_own xi_NoBlock xt_NoBlock xs_InvalidText xk_InvalidText_NoBlock
      · exact fun C hn => by rw [xa_InvalidPage] at hn; cases hn; exact kit_own xi_NoBlock xt_NoBlock xs_InvalidPage xk_InvalidPage_NoBlock
      · exact fun C hn => by rw [xa_InvalidDoor] at hn; cases hn; exact kit_own xi_NoBlock xt_NoBlock xs_InvalidDoor xk_InvalidDoor_NoBlock
      · exact fun C hn => by rw [xa_InvalidChoice] at hn; cases hn; exact kit_own xi_NoBlock xt_NoBlock xs_InvalidChoice xk_InvalidChoice_NoBlock
      · exact fun C hn => by rw [xa_InvalidIndex] at hn; cases hn; exact kit_own xi_NoBlock xt_NoBlock xs_InvalidIndex xk_InvalidIndex_NoBlock
      · exact fun C hn => by rw [xa_Unlike] at hn; cases hn; exact kit_own xi_NoBlock xt_NoBlock xs_Unlike xk_Unlike_NoBlock
      · exact fun C hn => by rw [xa_Needless] at hn; cases hn; exact kit_own xi_NoBlock xt_NoBlock xs_Needless xk_Needless_NoBlock
      · exact fun C hn => by rw [xa_NothingThere] at hn; cases hn; exact kit_own xi_NoBlock xt_NoBlock xs_NothingThere xk_NothingThere_NoBlock
      · exact fun C hn => by rw [xa_NoBlock] at hn; cases hn; exact kit_own xi_NoBlock xt_NoBlock xs_NoBlock xk_NoBlock_NoBlock
      · exact fun C hn => by rw [xa_NothingToUndo] at hn; cases hn; exact kit_own xi_NoBlock xt_NoBlock xs_NothingToUndo xk_NothingToUndo_NoBlock
      · exact fun C hn => by rw [xa_InvalidCommand] at hn; cases hn; exact kit_own xi_NoBlock xt_NoBlock xs_InvalidCommand xk_InvalidCommand_NoBlock
      · exact fun C hn => by rw [xa_Mixed] at hn; cases hn; exact kit_own xi_NoBlock xt_NoBlock xs_Mixed xk_Mixed_NoBlock
      · exact fun C hn => by rw [xa_InvalidWords] at hn; cases hn; exact kit_own xi_NoBlock xt_NoBlock xs_InvalidWords xk_InvalidWords_NoBlock
      · exact fun C hn => by rw [xa_WishError] at hn; cases hn; exact kit_own xi_NoBlock xt_NoBlock xs_WishError xk_WishError_NoBlock)⟩
    xy_NothingToUndo := ⟨(by
      intro c hc
      simp only [List.mem_cons, List.not_mem_nil, or_false] at hc
      rcases hc with rfl | rfl | rfl | rfl | rfl | rfl | rfl | rfl | rfl | rfl | rfl | rfl | rfl | rfl | rfl | rfl | rfl | rfl | rfl | rfl
      · exact fun C hn => by rw [xa_InvalidTree] at hn; cases hn; exact kit_own xi_NothingToUndo xt_NothingToUndo xs_InvalidTree xk_InvalidTree_NothingToUndo
      · exact fun C hn => by rw [xa_InvalidLocale] at hn; cases hn; exact kit_own xi_NothingToUndo xt_NothingToUndo xs_InvalidLocale xk_InvalidLocale_NothingToUndo
      · exact fun C hn => by rw [xa_InvalidWishes] at hn; cases hn; exact kit_own xi_NothingToUndo xt_NothingToUndo xs_InvalidWishes xk_InvalidWishes_NothingToUndo
      · exact fun C hn => by rw [xa_InvalidWay] at hn; cases hn; exact kit_own xi_NothingToUndo xt_NothingToUndo xs_InvalidWay xk_InvalidWay_NothingToUndo
      · exact fun C hn => by rw [xa_InvalidCatalog] at hn; cases hn; exact kit_own xi_NothingToUndo xt_NothingToUndo xs_InvalidCatalog xk_InvalidCatalog_NothingToUndo
      · exact fun C hn => by rw [xa_InvalidKey] at hn; cases hn; exact kit_own xi_NothingToUndo xt_NothingToUndo xs_InvalidKey xk_InvalidKey_NothingToUndo
      · exact fun C hn => by rw [xa_InvalidText] at hn; cases hn; exact kit_own xi_NothingToUndo xt_NothingToUndo xs_InvalidText xk_InvalidText_NothingToUndo
      · exact fun C hn => by rw [xa_InvalidPage] at hn; cases hn; exact kit_own xi_NothingToUndo xt_NothingToUndo xs_InvalidPage xk_InvalidPage_NothingToUndo
      · exact fun C hn => by rw [xa_InvalidDoor] at hn; cases hn; exact kit_own xi_NothingToUndo xt_NothingToUndo xs_InvalidDoor xk_InvalidDoor_NothingToUndo
      · exact fun C hn => by rw [xa_InvalidChoice] at hn; cases hn; exact kit_own xi_NothingToUndo xt_NothingToUndo xs_InvalidChoice xk_InvalidChoice_NothingToUndo
      · exact fun C hn => by rw [xa_InvalidIndex] at hn; cases hn; exact kit_own xi_NothingToUndo xt_NothingToUndo xs_InvalidIndex xk_InvalidIndex_NothingToUndo
      · exact fun C hn => by rw [xa_Unlike] at hn; cases hn; exact kit_own xi_NothingToUndo xt_NothingToUndo xs_Unlike xk_Unlike_NothingToUndo
      · exact fun C hn => by rw [xa_Needless] at hn; cases hn; exact kit_own xi_NothingToUndo xt_NothingToUndo xs_Needless xk_Needless_NothingToUndo
      · exact fun C hn => by rw [xa_NothingThere] at hn; cases hn; exact kit_own xi_NothingToUndo xt_NothingToUndo xs_NothingThere xk_NothingThere_NothingToUndo
      · exact fun C hn => by rw [xa_NoBlock] at hn; cases hn; exact kit_own xi_NothingToUndo xt_NothingToUndo xs_NoBlock xk_NoBlock_NothingToUndo
      · exact fun C hn => by rw [xa_NothingToUndo] at hn; cases hn; exact kit_own xi_NothingToUndo xt_NothingToUndo xs_NothingToUndo xk_NothingToUndo_NothingToUndo
      · exact fun C hn => by rw [xa_InvalidCommand] at hn; cases hn; exact kit_own xi_NothingToUndo xt_NothingToUndo xs_InvalidCommand xk_InvalidCommand_NothingToUndo
      · exact fun C hn => by rw [xa_Mixed] at hn; cases hn; exact kit_own xi_NothingToUndo xt_NothingToUndo xs_Mixed xk_Mixed_NothingToUndo
      · exact fun C hn => by rw [xa_InvalidWords] at hn; cases hn; exact kit_own xi_NothingToUndo xt_NothingToUndo xs_InvalidWords xk_InvalidWords_NothingToUndo
      · exact fun C hn => by rw [xa_WishError] at hn; cases hn; exact kit_own xi_NothingToUndo xt_NothingToUndo xs_WishError xk_WishError_NothingToUndo)⟩
    xy_InvalidCommand := ⟨(by
      intro c hc
      simp only [List.mem_cons, List.not_mem_nil, or_false] at hc
      rcases hc with rfl | rfl | rfl | rfl | rfl | rfl | rfl | rfl | rfl | rfl | rfl | rfl | rfl | rfl | rfl | rfl | rfl | rfl | rfl | rfl
      · exact fun C hn => by rw [xa_InvalidTree] at hn; cases hn; exact kit_own xi_InvalidCommand xt_InvalidCommand xs_InvalidTree xk_InvalidTree_InvalidCommand
      · exact fun C hn => by rw [xa_InvalidLocale] at hn; cases hn; exact kit_own xi_InvalidCommand xt_InvalidCommand xs_InvalidLocale xk_InvalidLocale_InvalidCommand
      · exact fun C hn => by rw [xa_InvalidWishes] at hn; cases hn; exact kit_own xi_InvalidCommand xt_InvalidCommand xs_InvalidWishes xk_InvalidWishes_InvalidCommand
      · exact fun C hn => by rw [xa_InvalidWay] at hn; cases hn; exact kit_own xi_InvalidCommand xt_InvalidCommand xs_InvalidWay xk_InvalidWay_InvalidCommand
      · exact fun C hn => by rw [xa_InvalidCatalog] at hn; cases hn; exact kit_own xi_InvalidCommand xt_InvalidCommand xs_InvalidCatalog xk_InvalidCatalog_InvalidCommand
      · exact fun C hn => by rw [xa_InvalidKey] at hn; cases hn; exact kit_own xi_InvalidCommand xt_InvalidCommand xs_InvalidKey xk_InvalidKey_InvalidCommand
      · exact fun C hn => by rw [xa_InvalidText] at hn; cases hn; exact kit_own xi_InvalidCommand xt_InvalidCommand xs_InvalidText xk_InvalidText_InvalidCommand
      · exact fun C hn => by rw [xa_InvalidPage] at hn; cases hn; exact kit_own xi_InvalidCommand xt_InvalidCommand xs_InvalidPage xk_InvalidPage_InvalidCommand
      · exact fun C hn => by rw [xa_InvalidDoor] at hn; cases hn; exact kit_own xi_InvalidCommand xt_InvalidCommand xs_InvalidDoor xk_InvalidDoor_InvalidCommand
      · exact fun C hn => by rw [xa_InvalidChoice] at hn; cases hn; exact kit_own xi_InvalidCommand xt_InvalidCommand xs_InvalidChoice xk_InvalidChoice_InvalidCommand
      · exact fun C hn => by rw [xa_InvalidIndex] at hn; cases hn; exact kit_own xi_InvalidCommand xt_InvalidCommand xs_InvalidIndex xk_InvalidIndex_InvalidCommand
      · exact fun C hn => by rw [xa_Unlike] at hn; cases hn; exact kit_own xi_InvalidCommand xt_InvalidCommand xs_Unlike xk_Unlike_InvalidCommand
      · exact fun C hn => by rw [xa_Needless] at hn; cases hn; exact kit_own xi_InvalidCommand xt_InvalidCommand xs_Needless xk_Needless_InvalidCommand
      · exact fun C hn => by rw [xa_NothingThere] at hn; cases hn; exact kit_own xi_InvalidCommand xt_InvalidCommand xs_NothingThere xk_NothingThere_InvalidCommand
      · exact fun C hn => by rw [xa_NoBlock] at hn; cases hn; exact kit_own xi_InvalidCommand xt_InvalidCommand xs_NoBlock xk_NoBlock_InvalidCommand
      · exact fun C hn => by rw [xa_NothingToUndo] at hn; cases hn; exact kit_own xi_InvalidCommand xt_InvalidCommand xs_NothingToUndo xk_NothingToUndo_InvalidCommand
      · exact fun C hn => by rw [xa_InvalidCommand] at hn; cases hn; exact kit_own xi_InvalidCommand xt_InvalidCommand xs_InvalidCommand xk_InvalidCommand_InvalidCommand
      · exact fun C hn => by rw [xa_Mixed] at hn; cases hn; exact kit_own xi_InvalidCommand xt_InvalidCommand xs_Mixed xk_Mixed_InvalidCommand
      · exact fun C hn => by rw [xa_InvalidWords] at hn; cases hn; exact kit_own xi_InvalidCommand xt_InvalidCommand xs_InvalidWords xk_InvalidWords_InvalidCommand
      · exact fun C hn => by rw [xa_WishError] at hn; cases hn; exact kit_own xi_InvalidCommand xt_InvalidCommand xs_WishError xk_WishError_InvalidCommand)⟩
    xy_Mixed := ⟨(by
      intro c hc
      simp only [List.mem_cons, List.not_mem_nil, or_false] at hc
      rcases hc with rfl | rfl | rfl | rfl | rfl | rfl | rfl | rfl | rfl | rfl | rfl | rfl | rfl | rfl | rfl | rfl | rfl | rfl | rfl | rfl
      · exact fun C hn => by rw [xa_InvalidTree] at hn; cases hn; exact kit_own xi_Mixed xt_Mixed xs_InvalidTree xk_InvalidTree_Mixed
      · exact fun C hn => by rw [xa_InvalidLocale] at hn; cases hn; exact kit_own xi_Mixed xt_Mixed xs_InvalidLocale xk_InvalidLocale_Mixed
      · exact fun C hn => by rw [xa_InvalidWishes] at hn; cases hn; exact kit_own xi_Mixed xt_Mixed xs_InvalidWishes xk_InvalidWishes_Mixed
      · exact fun C hn => by rw [xa_InvalidWay] at hn; cases hn; exact kit_own xi_Mixed xt_Mixed xs_InvalidWay xk_InvalidWay_Mixed
      · exact fun C hn => by rw [xa_InvalidCatalog] at hn; cases hn; exact kit_own xi_Mixed xt_Mixed xs_InvalidCatalog xk_InvalidCatalog_Mixed
      · exact fun C hn => by rw [xa_InvalidKey] at hn; cases hn; exact kit_own xi_Mixed xt_Mixed xs_InvalidKey xk_InvalidKey_Mixed
      · exact fun C hn => by rw [xa_InvalidText] at hn; cases hn; exact kit_own xi_Mixed xt_Mixed xs_InvalidText xk_InvalidText_Mixed
      · exact fun C hn => by rw [xa_InvalidPage] at hn; cases hn; exact kit_own xi_Mixed xt_Mixed xs_InvalidPage xk_InvalidPage_Mixed
      · exact fun C hn => by rw [xa_InvalidDoor] at hn; cases hn; exact kit_own xi_Mixed xt_Mixed xs_InvalidDoor xk_InvalidDoor_Mixed
      · exact fun C hn => by rw [xa_InvalidChoice] at hn; cases hn; exact kit_own xi_Mixed xt_Mixed xs_InvalidChoice xk_InvalidChoice_Mixed
      · exact fun C hn => by rw [xa_InvalidIndex] at hn; cases hn; exact kit_own xi_Mixed xt_Mixed xs_InvalidIndex xk_InvalidIndex_Mixed
      · exact fun C hn => by rw [xa_Unlike] at hn; cases hn; exact kit_own xi_Mixed xt_Mixed xs_Unlike xk_Unlike_Mixed
      · exact fun C hn => by rw [xa_Needless] at hn; cases hn; exact kit_own xi_Mixed xt_Mixed xs_Needless xk_Needless_Mixed
      · exact fun C hn => by rw [xa_NothingThere] at hn; cases hn; exact kit_own xi_Mixed xt_Mixed xs_NothingThere xk_NothingThere_Mixed
      · exact fun C hn => by rw [xa_NoBlock] at hn; cases hn; exact kit_own xi_Mixed xt_Mixed xs_NoBlock xk_NoBlock_Mixed
      · exact fun C hn => by rw [xa_NothingToUndo] at hn; cases hn; exact kit_own xi_Mixed xt_Mixed xs_NothingToUndo xk_NothingToUndo_Mixed
      · exact fun C hn => by rw [xa_InvalidCommand] at hn; cases hn; exact kit_own xi_Mixed xt_Mixed xs_InvalidCommand xk_InvalidCommand_Mixed
      · exact fun C hn => by rw [xa_Mixed] at hn; cases hn; exact kit_own xi_Mixed xt_Mixed xs_Mixed xk_Mixed_Mixed
      · exact fun C hn => by rw [xa_InvalidWords] at hn; cases hn; exact kit_own xi_Mixed xt_Mixed xs_InvalidWords xk_InvalidWords_Mixed
      · exact fun C hn => by rw [xa_WishError] at hn; cases hn; exact kit_own xi_Mixed xt_Mixed xs_WishError xk_WishError_Mixed)⟩
    xy_InvalidWords := ⟨(by
      intro c hc
      simp only [List.mem_cons, List.not_mem_nil, or_false] at hc
      rcases hc with rfl | rfl | rfl | rfl | rfl | rfl | rfl | rfl | rfl | rfl | rfl | rfl | rfl | rfl | rfl | rfl | rfl | rfl | rfl | rfl
      · exact fun C hn => by rw [xa_InvalidTree] at hn; cases hn; exact kit_own xi_InvalidWords xt_InvalidWords xs_InvalidTree xk_InvalidTree_InvalidWords
      · exact fun C hn => by rw [xa_InvalidLocale] at hn; cases hn; exact kit_own xi_InvalidWords xt_InvalidWords xs_InvalidLocale xk_InvalidLocale_InvalidWords
      · exact fun C hn => by rw [xa_InvalidWishes] at hn; cases hn; exact kit_own xi_InvalidWords xt_InvalidWords xs_InvalidWishes xk_InvalidWishes_InvalidWords
      · exact fun C hn => by rw [xa_InvalidWay] at hn; cases hn; exact kit_own xi_InvalidWords xt_InvalidWords xs_InvalidWay xk_InvalidWay_InvalidWords
      · exact fun C hn => by rw [xa_InvalidCatalog] at hn; cases hn; exact kit_own xi_InvalidWords xt_InvalidWords xs_InvalidCatalog xk_InvalidCatalog_InvalidWords
      · exact fun C hn => by rw [xa_InvalidKey] at hn; cases hn; exact kit_own xi_InvalidWords xt_InvalidWords xs_InvalidKey xk_InvalidKey_InvalidWords
      · exact fun C hn => by rw [xa_InvalidText] at hn; cases hn; exact kit_own xi_InvalidWords xt_InvalidWords xs_InvalidText xk_InvalidText_InvalidWords
      · exact fun C hn => by rw [xa_InvalidPage] at hn; cases hn; exact kit_own xi_InvalidWords xt_InvalidWords xs_InvalidPage xk_InvalidPage_InvalidWords
      · exact fun C hn => by rw [xa_InvalidDoor] at hn; cases hn; exact kit_own xi_InvalidWords xt_InvalidWords xs_InvalidDoor xk_InvalidDoor_InvalidWords
      · exact fun C hn => by rw [xa_InvalidChoice] at hn; cases hn; exact kit_own xi_InvalidWords xt_InvalidWords xs_InvalidChoice xk_InvalidChoice_InvalidWords
      · exact fun C hn => by rw [xa_InvalidIndex] at hn; cases hn; exact kit_own xi_InvalidWords xt_InvalidWords xs_InvalidIndex xk_InvalidIndex_InvalidWords
      · exact fun C hn => by rw [xa_Unlike] at hn; cases hn; exact kit_own xi_InvalidWords xt_InvalidWords xs_Unlike xk_Unlike_InvalidWords
      · exact fun C hn => by rw [xa_Needless] at hn; cases hn; exact kit_own xi_InvalidWords xt_InvalidWords xs_Needless xk_Needless_InvalidWords
      · exact fun C hn => by rw [xa_NothingThere] at hn; cases hn; exact kit_own xi_InvalidWords xt_InvalidWords xs_NothingThere xk_NothingThere_InvalidWords
      · exact fun C hn => by rw [xa_NoBlock] at hn; cases hn; exact kit_own xi_InvalidWords xt_InvalidWords xs_NoBlock xk_NoBlock_InvalidWords
      · exact fun C hn => by rw [xa_NothingToUndo] at hn; cases hn; exact kit_own xi_InvalidWords xt_InvalidWords xs_NothingToUndo xk_NothingToUndo_InvalidWords
      · exact fun C hn => by rw [xa_InvalidCommand] at hn; cases hn; exact kit_own xi_InvalidWords xt_InvalidWords xs_InvalidCommand xk_InvalidCommand_InvalidWords
      · exact fun C hn => by rw [xa_Mixed] at hn; cases hn; exact kit_own xi_InvalidWords xt_InvalidWords xs_Mixed xk_Mixed_InvalidWords
      · exact fun C hn => by rw [xa_InvalidWords] at hn; cases hn; exact kit_own xi_InvalidWords xt_InvalidWords xs_InvalidWords xk_InvalidWords_InvalidWords
      · exact fun C hn => by rw [xa_WishError] at hn; cases hn; exact kit_own xi_InvalidWords xt_InvalidWords xs_WishError xk_WishError_InvalidWords)⟩
    xy_ValueError := ⟨(by
      intro c hc
      simp only [List.mem_cons, List.not_mem_nil, or_false] at hc
      rcases hc with rfl | rfl | rfl | rfl | rfl | rfl | rfl | rfl | rfl | rfl | rfl | rfl | rfl | rfl | rfl | rfl | rfl | rfl | rfl | rfl
      · exact fun C hn => by rw [xa_InvalidTree] at hn; cases hn; exact kit_blt (by decide) xk_InvalidTree_ValueError
      · exact fun C hn => by rw [xa_InvalidLocale] at hn; cases hn; exact kit_blt (by decide) xk_InvalidLocale_ValueError
      · exact fun C hn => by rw [xa_InvalidWishes] at hn; cases hn; exact kit_blt (by decide) xk_InvalidWishes_ValueError
      · exact fun C hn => by rw [xa_InvalidWay] at hn; cases hn; exact kit_blt (by decide) xk_InvalidWay_ValueError
      · exact fun C hn => by rw [xa_InvalidCatalog] at hn; cases hn; exact kit_blt (by decide) xk_InvalidCatalog_ValueError
      · exact fun C hn => by rw [xa_InvalidKey] at hn; cases hn; exact kit_blt (by decide) xk_InvalidKey_ValueError
      · exact fun C hn => by rw [xa_InvalidText] at hn; cases hn; exact kit_blt (by decide) xk_InvalidText_ValueError
      · exact fun C hn => by rw [xa_InvalidPage] at hn; cases hn; exact kit_blt (by decide) xk_InvalidPage_ValueError
      · exact fun C hn => by rw [xa_InvalidDoor] at hn; cases hn; exact kit_blt (by decide) xk_InvalidDoor_ValueError
      · exact fun C hn => by rw [xa_InvalidChoice] at hn; cases hn; exact kit_blt (by decide) xk_InvalidChoice_ValueError
      · exact fun C hn => by rw [xa_InvalidIndex] at hn; cases hn; exact kit_blt (by decide) xk_InvalidIndex_ValueError
      · exact fun C hn => by rw [xa_Unlike] at hn; cases hn; exact kit_blt (by decide) xk_Unlike_ValueError
      · exact fun C hn => by rw [xa_Needless] at hn; cases hn; exact kit_blt (by decide) xk_Needless_ValueError
      · exact fun C hn => by rw [xa_NothingThere] at hn; cases hn; exact kit_blt (by decide) xk_NothingThere_ValueError
      · exact fun C hn => by rw [xa_NoBlock] at hn; cases hn; exact kit_blt (by decide) xk_NoBlock_ValueError
      · exact fun C hn => by rw [xa_NothingToUndo] at hn; cases hn; exact kit_blt (by decide) xk_NothingToUndo_ValueError
      · exact fun C hn => by rw [xa_InvalidCommand] at hn; cases hn; exact kit_blt (by decide) xk_InvalidCommand_ValueError
      · exact fun C hn => by rw [xa_Mixed] at hn; cases hn; exact kit_blt (by decide) xk_Mixed_ValueError
      · exact fun C hn => by rw [xa_InvalidWords] at hn; cases hn; exact kit_blt (by decide) xk_InvalidWords_ValueError
      · exact fun C hn => by rw [xa_WishError] at hn; cases hn; exact kit_blt (by decide) xk_WishError_ValueError)⟩ }
  have e : t.a_law = fa := by
    have := hfa.symm.trans t.g_law
    cases this
    rfl
  rw [← e]
  exact ⟨t.fd_law, fun s v => .of_eq rfl, fun base _ _ => ok_law t⟩
end My
/-! DM: reckoning with the data's worths; what is known of lists of numbers. -/
namespace DL
open PySem PySem.Spec PyProof.Rows L2
section
variable (a b : Int) (xs ys : List D) (d : D) (p q : Bool)
@[simp] theorem p_sub : pSub [.int a, .int b] = some (.d (.int (a - b))) := id rfl
@[simp] theorem p_fdiv : pFdiv [.int a, .int b] = if 0 < b ∧ b.natAbs.log2 < 9000 then some (.d (.int (a / b))) else none := by
  simp only [pFdiv, pInt2]; split <;> rfl
@[simp] theorem p_mod : pMod [.int a, .int b] = if 0 < b then some (.d (.int (a % b))) else none := by
  simp only [pMod, pInt2]; split <;> rfl
@[simp] theorem p_pow : pPow [.int a, .int b] = if 0 ≤ b ∧ b ≤ 1000000 ∧ a.natAbs < 2 ^ 64 then some (.d (.int (a ^ b.toNat))) else none := by
  simp only [pPow, pInt2]; split <;> rfl
@[simp] theorem p_cmp (f : Int → Int → Bool) : pCmp f [.int a, .int b] = some (.d (.bl (f a b))) := id rfl
@[simp] theorem p_neg : pNeg [.int a] = some (.d (.int (-a))) := id rfl
@[simp] theorem p_addI : pAdd [.int a, .int b] = some (.d (.int (a + b))) := id rfl
@[simp] theorem p_addT : pAdd [.tup xs, .tup ys] = if xs.length + ys.length ≤ sizeLine then some (.d (.tup (xs ++ ys))) else none := id rfl
@[simp] theorem p_addL : pAdd [.lst xs, .lst ys] = if xs.length + ys.length ≤ sizeLine then some (.nl (xs ++ ys)) else none := id rfl
@[simp] theorem p_mul : pMul [.int a, .int b] = if wideMul a b = true then some (.d (.int (a * b))) else none := id rfl
@[simp] theorem p_isN : pIsN [d, .non] = some (.d (.bl (isNonD d))) := id rfl
@[simp] theorem p_notN : pNotN [d, .non] = some (.d (.bl (!isNonD d))) := id rfl
@[simp] theorem p_isB : pIsB [.bl p, .bl q] = some (.d (.bl (decide (p = q)))) := id rfl
@[simp] theorem p_notB : pNotB [.bl p, .bl q] = some (.d (.bl (!decide (p = q)))) := id rfl
@[simp] theorem p_ixL : pIx [.lst xs, .int a] = (atI xs a).map PR.d := id rfl
@[simp] theorem p_ixT : pIx [.tup xs, .int a] = (atI xs a).map PR.d := id rfl
@[simp] theorem p_ixF : pIx [.fz xs, .int a] = (atI xs a).map PR.d := id rfl
@[simp] theorem p_lenL : pLen [.lst xs] = some (.d (.int xs.length)) := id rfl
@[simp] theorem p_lenT : pLen [.tup xs] = some (.d (.int xs.length)) := id rfl
@[simp] theorem p_lenF : pLen [.fz xs] = some (.d (.int xs.length)) := id rfl
@[simp] theorem p_int : pIntOf [.int a] = some (.d (.int a)) := id rfl
@[simp] theorem p_intB : pIntOf [.bl p] = some (.d (.int (if p then 1 else 0))) := id rfl
@[simp] theorem p_max : pMax [.int a, .int b] = some (.d (.int (if b > a then b else a))) := id rfl
@[simp] theorem p_min : pMin [.int a, .int b] = some (.d (.int (if b < a then b else a))) := id rfl
@[simp] theorem p_tupL : pTupOf [.lst xs] = some (.d (.tup xs)) := id rfl
@[simp] theorem p_tupT : pTupOf [.tup xs] = some (.d (.tup xs)) := id rfl
@[simp] theorem p_lstL : pLstOf [.lst xs] = some (.nl xs) := id rfl
@[simp] theorem p_lstT : pLstOf [.tup xs] = some (.nl xs) := id rfl
@[simp] theorem p_lstF : pLstOf [.fz xs] = some (.nl xs) := id rfl
@[simp] theorem p_lst : pLst xs = if xs.length ≤ sizeLine then some (.nl xs) else none := id rfl
@[simp] theorem p_tup : pTup xs = if xs.length ≤ sizeLine then some (.d (.tup xs)) else none := id rfl
@[simp] theorem m_app : mApp xs [d] = if xs.length < sizeLine then some (xs ++ [d], .non) else none := id rfl
end

def FinD {α : Type} (r : R α) (P : α → DEnv → Prop) : Prop := match r with
  | .ok a e => P a e
  | _ => False
theorem fin_congr_D {α : Type} {r r' : R α} {P : α → DEnv → Prop} (h : r = r') : FinD r P = FinD r' P := by rw [h]
theorem fin_ok_D {α : Type} {a : α} {e : DEnv} {P : α → DEnv → Prop} : FinD (.ok a e) P ↔ P a e := ⟨fun h => h, fun h => h⟩
theorem fin_bad_D {α : Type} {P : α → DEnv → Prop} : FinD (R.bad : R α) P ↔ False := ⟨fun h => h, fun h => h⟩
theorem bind_ok {α β : Type} {f : α → DEnv → R β} {a : α} {e : DEnv} : (R.ok a e).bind f = f a e := rfl
theorem bind_bad {α β : Type} {f : α → DEnv → R β} : (R.bad : R α).bind f = .bad := rfl
theorem fin_bind_D {α β : Type} {r : R α} {f : α → DEnv → R β} {P : β → DEnv → Prop} : FinD (r.bind f) P ↔ FinD r fun a e => FinD (f a e) P := by
  cases r <;> exact Iff.rfl
theorem fin_iff_D {α : Type} {r : R α} {P : α → DEnv → Prop} : FinD r P ↔ ∃ a e, r = .ok a e ∧ P a e := by
  cases r with
  | ok a e => exact ⟨fun h => ⟨a, e, rfl, h⟩, fun ⟨_, _, z, h⟩ => by cases z; exact h⟩
  | err x e => exact ⟨fun h => h.elim, fun ⟨_, _, z, h⟩ => by cases z⟩
  | bad => exact ⟨fun h => h.elim, fun ⟨_, _, z, h⟩ => by cases z⟩
theorem FinD.mono {α : Type} {r : R α} {P P' : α → DEnv → Prop} (h : FinD r P) (k : ∀ a e, P a e → P' a e) : FinD r P' := by
  cases r with
  | ok a e => exact k a e h
  | err x e => exact h
  | bad => exact h
def contS (b : DS) : Fl → DS
  | .nx => b
  | fl => fun env => .ok fl env
theorem contS_nx_D {b : DS} {e : DEnv} {P : Fl → DEnv → Prop} : FinD (contS b .nx e) P ↔ FinD (b e) P := ⟨id, id⟩
theorem contS_ret_D {b : DS} {r : Ent} {e : DEnv} {P : Fl → DEnv → Prop} : FinD (contS b (.ret r) e) P ↔ P (.ret r) e := ⟨id, id⟩
theorem contS_brk_D {b : DS} {e : DEnv} {P : Fl → DEnv → Prop} : FinD (contS b .brk e) P ↔ P .brk e := ⟨id, id⟩
theorem contS_cnt_D {b : DS} {e : DEnv} {P : Fl → DEnv → Prop} : FinD (contS b .cnt e) P ↔ P .cnt e := ⟨id, id⟩
theorem fin_seq_D {a b : DS} {env : DEnv} {P : Fl → DEnv → Prop} : FinD (dSeq a b env) P ↔ FinD (a env) fun fl e => FinD (contS b fl e) P := by
  unfold dSeq
  cases a env with
  | ok fl e => cases fl <;> exact Iff.rfl
  | err x e => exact Iff.rfl
  | bad => exact Iff.rfl
/-! each piece, from the left to the right -/
def ofO (o : Option (Option Ent)) (env : DEnv) : R Ent := match o with
  | some (some e) => .ok e env
  | _ => .bad
theorem fin_ofO_D {e : Ent} {env : DEnv} {P : Ent → DEnv → Prop} : FinD (ofO (some (some e)) env) P ↔ P e env := ⟨id, id⟩
def resP (o : Option PR) (env : DEnv) : R Ent := match o with
  | some r => .ok r.ent env
  | none => .bad
theorem fin_resD_D {x : D} {env : DEnv} {P : Ent → DEnv → Prop} : FinD (resP (some (.d x)) env) P ↔ P ⟨.shr, x⟩ env := ⟨id, id⟩
theorem fin_resN_D {xs : List D} {env : DEnv} {P : Ent → DEnv → Prop} : FinD (resP (some (.nl xs)) env) P ↔ P ⟨.own, .lst xs⟩ env := ⟨id, id⟩
def resA {α : Type} (o : Option α) (env : DEnv) : R α := match o with
  | some r => .ok r env
  | none => .bad
theorem fin_resA_D {α : Type} {x : α} {env : DEnv} {P : α → DEnv → Prop} : FinD (resA (some x) env) P ↔ P x env := ⟨id, id⟩
section
variable {env : DEnv} {PF : Fl → DEnv → Prop} {PE : Ent → DEnv → Prop} {PB : Bool → DEnv → Prop} {PL : List D → DEnv → Prop}
theorem fin_ifs_D {c : DT} {a b : DS} : FinD (dIfS c a b env) PF ↔ FinD (c env) fun k e => FinD (if k = true then a e else b e) PF := fin_bind_D
theorem fin_next_D : FinD (dNext env) PF ↔ PF .nx env := ⟨id, id⟩
theorem fin_brk_D : FinD (dBrk env) PF ↔ PF .brk env := ⟨id, id⟩
theorem fin_cnt_D : FinD (dCnt env) PF ↔ PF .cnt env := ⟨id, id⟩
theorem fin_never_D : FinD (dNever env) PF ↔ False := ⟨id, id⟩
theorem fin_set_D {i : Nat} {m : DE} : FinD (dSet i m env) PF ↔ FinD (m env) fun r e => PF .nx (e.set i (some r)) := fin_bind_D
theorem fin_drop_D {m : DE} : FinD (dDrop m env) PF ↔ FinD (m env) fun r e => PF .nx e := fin_bind_D
theorem fin_ret_D {m : DE} : FinD (dRet m env) PF ↔ FinD (m env) fun r e => PF (.ret r) e := fin_bind_D
theorem fin_retV_D {i : Nat} : FinD (dRetV i env) PF ↔ FinD (ofO env[i]? env) fun r e => PF (.ret r) (e.set i none) := by
  unfold dRetV ofO
  cases env[i]? with
  | none => exact Iff.rfl
  | some o => cases o <;> exact Iff.rfl
theorem fin_c_D {d : D} : FinD (dC d env) PE ↔ PE ⟨.shr, d⟩ env := ⟨id, id⟩
theorem fin_var_D {i : Nat} : FinD (dVar i env) PE ↔ FinD (ofO env[i]? env) fun r e => PE ⟨.shr, r.d⟩ (e.set i (some ⟨.shr, r.d⟩)) := by
  unfold dVar ofO
  cases env[i]? with
  | none => exact Iff.rfl
  | some o => cases o <;> exact Iff.rfl
theorem fin_os_nil_D {P : List AV → DEnv → Prop} : FinD (evOs [] env) P ↔ P [] env := ⟨id, id⟩
theorem fin_os_v_D {m : DE} {os : List Opd} {P : List AV → DEnv → Prop} : FinD (evOs (.v m :: os) env) P ↔ FinD (m env) fun r e => FinD (evOs os e) fun avs e2 => P (.d r.d :: avs) e2 := by
  rw [evOs, fin_bind_D]
  refine ⟨fun h => h.mono fun r e k => fin_bind_D.mp k, fun h => h.mono fun r e k => fin_bind_D.mpr k⟩
theorem fin_os_s_D {i : Nat} {os : List Opd} {P : List AV → DEnv → Prop} : FinD (evOs (.s i :: os) env) P ↔ FinD (ofO env[i]? env) fun _ e => FinD (evOs os e) fun avs e2 => P (.s i :: avs) e2 := by
  rw [evOs]
  unfold ofO
  cases env[i]? with
  | none => exact Iff.rfl
  | some o => cases o with
    | none => exact Iff.rfl
    | some e => exact fin_bind_D
theorem fin_prim_D {p : Pr} {os : List Opd} : FinD (dPrim p os env) PE ↔ FinD (evOs os env) fun avs e => FinD (resP ((getAVs e avs).bind p) e) PE := by
  unfold dPrim
  rw [fin_bind_D]
  have key : ∀ (avs : List AV) (e : DEnv), FinD (match (getAVs e avs).bind p with
    | some r => R.ok r.ent e
    | none => R.bad) PE ↔ FinD (resP ((getAVs e avs).bind p) e) PE := fun avs e => by
    unfold resP
    cases (getAVs e avs).bind p <;> exact Iff.rfl
  exact ⟨fun h => h.mono fun a e k => (key a e).mp k, fun h => h.mono fun a e k => (key a e).mpr k⟩
def tstB (r : Ent) (env : DEnv) : R Bool := match r with
  | ⟨.shr, .bl b⟩ => .ok b env
  | _ => .bad
theorem fin_tstB_D {b : Bool} : FinD (tstB ⟨.shr, .bl b⟩ env) PB ↔ PB b env := ⟨id, id⟩
theorem fin_tst_D {m : DE} : FinD (dTst m env) PB ↔ FinD (m env) fun r e => FinD (tstB r e) PB := fin_bind_D
theorem fin_and_D {a b : DT} : FinD (dAnd a b env) PB ↔ FinD (a env) fun c e => FinD (if c = true then b e else .ok false e) PB := fin_bind_D
theorem fin_or_D {a b : DT} : FinD (dOr a b env) PB ↔ FinD (a env) fun c e => FinD (if c = true then .ok true e else b e) PB := fin_bind_D
theorem fin_not_D {a : DT} : FinD (dNot a env) PB ↔ FinD (a env) fun c e => PB (!c) e := fin_bind_D
theorem fin_yes_D : FinD (dYes env) PB ↔ PB true env := ⟨id, id⟩
theorem fin_B_D {m : DT} : FinD (dB m env) PE ↔ FinD (m env) fun b e => PE ⟨.shr, .bl b⟩ e := fin_bind_D
theorem fin_andV_D {a : DT} {b : DE} : FinD (dAndV a b env) PE ↔ FinD (a env) fun c e => FinD (if c = true then b e else .ok ⟨.shr, .bl false⟩ e) PE := fin_bind_D
theorem fin_orV_D {a : DT} {b : DE} : FinD (dOrV a b env) PE ↔ FinD (a env) fun c e => FinD (if c = true then .ok ⟨.shr, .bl true⟩ e else b e) PE := fin_bind_D
theorem fin_if_D {c : DT} {a b : DE} : FinD (dIf c a b env) PE ↔ FinD (c env) fun k e => FinD (if k = true then a e else b e) PE := fin_bind_D
def secondV : List AV → Option D
  | [_, .d y] => some y
  | _ => none
@[simp] theorem secondV_d {a : AV} {y : D} : secondV [a, .d y] = some y := rfl
def chainN (p' : Pr) (oc : Opd) (y : Option D) (o : Option PR) (env : DEnv) : R Ent := match y, o with
  | some y, some (.d (.bl k)) => if k = true then dPrim p' [.v (dC y), oc] env else .ok ⟨.shr, .bl false⟩ env
  | _, _ => .bad
theorem fin_chainN_D {p' : Pr} {oc : Opd} {y : D} {k : Bool} : FinD (chainN p' oc (some y) (some (.d (.bl k))) env) PE ↔ FinD (if k = true then dPrim p' [.v (dC y), oc] env else .ok ⟨.shr, .bl false⟩ env) PE := ⟨id, id⟩
theorem chain_eq {p p' : Pr} {oa ob oc : Opd} : dChain p p' oa ob oc env = (evOs [oa, ob] env).bind fun avs e => chainN p' oc (secondV avs) ((getAVs e avs).bind p) e := by
  unfold dChain
  congr 1
  funext avs e
  generalize (getAVs e avs).bind p = o
  rcases avs with _ | ⟨a, _ | ⟨b, _ | ⟨c, t⟩⟩⟩
  · rfl
  · rfl
  · rcases o with _ | (d | l)
    · cases b <;> rfl
    · cases b <;> cases d <;> rfl
    · cases b <;> rfl
  · rcases o with _ | (d | l)
    · cases b <;> rfl
    · cases b <;> cases d <;> rfl
    · cases b <;> rfl
theorem fin_chain_D {p p' : Pr} {oa ob oc : Opd} : FinD (dChain p p' oa ob oc env) PE ↔ FinD (evOs [oa, ob] env) fun avs e => FinD (chainN p' oc (secondV avs) ((getAVs e avs).bind p) e) PE := by
  rw [chain_eq, fin_bind_D]
theorem fin_call_D {f : DFn} {os : List Opd} : FinD (dCall f os env) PE ↔ FinD (evOs os env) fun avs e => FinD (resA (getAVs e avs) e) fun ds e => FinD (afterC e (f (shrs ds))) PE := by
  unfold dCall
  rw [fin_bind_D]
  have key : ∀ (avs : List AV) (e : DEnv), FinD (match getAVs e avs with
    | some ds => afterC e (f (shrs ds))
    | none => .bad) PE ↔ FinD (resA (getAVs e avs) e) fun ds e => FinD (afterC e (f (shrs ds))) PE := fun avs e => by
    unfold resA
    cases getAVs e avs <;> exact Iff.rfl
  exact ⟨fun h => h.mono fun a e k => (key a e).mp k, fun h => h.mono fun a e k => (key a e).mpr k⟩
theorem fin_afterOk_D {r : Ent} {o : D} : FinD (afterC env (.ok r o)) PE ↔ PE r env := ⟨id, id⟩
theorem fin_afterROk_D {r : Ent} {o : D} {i : Nat} : FinD (afterR env i (.ok r o)) PE ↔ PE r (env.set i (some ⟨.own, o⟩)) := ⟨id, id⟩
def ownO (o : Option (Option Ent)) (env : DEnv) : R D := match o with
  | some (some (Ent.mk Md.own d)) => .ok d env
  | _ => .bad
theorem fin_ownO_D {d : D} {P : D → DEnv → Prop} : FinD (ownO (some (some ⟨.own, d⟩)) env) P ↔ P d env := ⟨id, id⟩
def ownL (o : Option (Option Ent)) (env : DEnv) : R (List D) := match o with
  | some (some (Ent.mk Md.own (.lst d))) => .ok d env
  | _ => .bad
theorem fin_ownL_D {d : List D} : FinD (ownL (some (some ⟨.own, .lst d⟩)) env) PL ↔ PL d env := ⟨id, id⟩
theorem fin_callR_D {f : DFn} {i : Nat} {os : List Opd} : FinD (dCallR f i os env) PE ↔ FinD (ownO env[i]? env) fun _ e => FinD (evOs os e) fun avs e => FinD (resA (getAVs e avs) e) fun ds e => FinD (ownO e[i]? e) fun d e => FinD (afterR e i (f (⟨.own, d⟩ :: shrs ds))) PE := by
  unfold dCallR
  cases env[i]? with
  | none => exact Iff.rfl
  | some o => cases o with
    | none => exact Iff.rfl
    | some w =>
      obtain ⟨md, d⟩ := w
      cases md with
      | own =>
        refine Iff.trans fin_bind_D ?_
        have key : ∀ (avs : List AV) (e : DEnv), FinD (match getAVs e avs, (e[i]? : Option (Option Ent)) with
          | some ds, some (some (Ent.mk Md.own d)) => afterR e i (f (⟨.own, d⟩ :: shrs ds))
          | _, _ => .bad) PE ↔ FinD (resA (getAVs e avs) e) fun ds e => FinD (ownO e[i]? e) fun d e => FinD (afterR e i (f (⟨.own, d⟩ :: shrs ds))) PE := fun avs e => by
          cases getAVs e avs with
          | none => exact Iff.rfl
          | some ds =>
            refine Iff.trans ?_ (fin_resA_D (x := ds)).symm
            cases e[i]? with
            | none => exact Iff.rfl
            | some o => cases o with
              | none => exact Iff.rfl
              | some w =>
                obtain ⟨md, d⟩ := w
                cases md <;> exact Iff.rfl
        exact ⟨fun h => fin_ownO_D.mpr (h.mono fun a e k => (key a e).mp k), fun h => (fin_ownO_D.mp h).mono fun a e k => (key a e).mpr k⟩
      | shr => exact Iff.rfl
      | bor => exact Iff.rfl
theorem fin_mut_D {op : List D → List D → Option (List D × D)} {i : Nat} {os : List Opd} : FinD (dMut op i os env) PE ↔ FinD (ownL env[i]? env) fun _ e => FinD (evOs os e) fun avs e => FinD (resA (getAVs e avs) e) fun ds e => FinD (ownL e[i]? e) fun xs e => FinD (resA (op xs ds) e) fun y e => PE ⟨.shr, y.2⟩ (e.set i (some ⟨.own, .lst y.1⟩)) := by
  unfold dMut
  cases env[i]? with
  | none => exact Iff.rfl
  | some o => cases o with
    | none => exact Iff.rfl
    | some w =>
      obtain ⟨md, d⟩ := w
      cases md with
      | own =>
        cases d with
        | lst d =>
          refine Iff.trans fin_bind_D ?_
          have key : ∀ (avs : List AV) (e : DEnv), FinD (match getAVs e avs, (e[i]? : Option (Option Ent)) with
            | some ds, some (some (Ent.mk Md.own (.lst xs))) => (match op xs ds with
              | some (ys, r) => .ok ⟨.shr, r⟩ (e.set i (some ⟨.own, .lst ys⟩))
              | none => .bad)
            | _, _ => .bad) PE ↔ FinD (resA (getAVs e avs) e) fun ds e => FinD (ownL e[i]? e) fun xs e => FinD (resA (op xs ds) e) fun y e => PE ⟨.shr, y.2⟩ (e.set i (some ⟨.own, .lst y.1⟩)) := fun avs e => by
            cases getAVs e avs with
            | none => exact Iff.rfl
            | some ds =>
              refine Iff.trans ?_ (fin_resA_D (x := ds)).symm
              cases e[i]? with
              | none => exact Iff.rfl
              | some o => cases o with
                | none => exact Iff.rfl
                | some w =>
                  obtain ⟨md, d⟩ := w
                  cases md with
                  | own =>
                    cases d with
                    | lst xs =>
                      refine Iff.trans ?_ (fin_ownL_D (d := xs)).symm
                      dsimp only
                      unfold resA
                      cases op xs ds <;> exact Iff.rfl
                    | _ => exact Iff.rfl
                  | shr => exact Iff.rfl
                  | bor => exact Iff.rfl
          exact ⟨fun h => fin_ownL_D.mpr (h.mono fun a e k => (key a e).mp k), fun h => (fin_ownL_D.mp h).mono fun a e k => (key a e).mpr k⟩
        | _ => exact Iff.rfl
      | shr => exact Iff.rfl
      | bor => exact Iff.rfl
def intO (ds : Option (List D)) (env : DEnv) : R Int := match ds with
  | some [.int k] => .ok k env
  | _ => .bad
theorem fin_intO_D {k : Int} {P : Int → DEnv → Prop} : FinD (intO (some [.int k]) env) P ↔ P k env := ⟨id, id⟩
theorem fin_setIx_D {i : Nat} {os : List Opd} {m : DE} : FinD (dSetIx i os m env) PF ↔ FinD (m env) fun r e => FinD (ownL e[i]? e) fun _ e => FinD (evOs os e) fun avs e => FinD (intO (getAVs e avs) e) fun k e => FinD (ownL e[i]? e) fun xs e => FinD (resA (ixN xs.length k) e) fun j e => PF .nx (e.set i (some ⟨.own, .lst (xs.set j r.d)⟩)) := by
  unfold dSetIx
  rw [fin_bind_D]
  have key : ∀ (r : Ent) (e : DEnv), FinD (match (e[i]? : Option (Option Ent)) with
    | some (some (Ent.mk Md.own (.lst _))) => (evOs os e).bind fun avs env2 => match getAVs env2 avs, (env2[i]? : Option (Option Ent)) with
      | some [.int k], some (some (Ent.mk Md.own (.lst xs))) => (match ixN xs.length k with
        | some j => .ok .nx (env2.set i (some ⟨.own, .lst (xs.set j r.d)⟩))
        | none => .bad)
      | _, _ => .bad
    | _ => .bad) PF ↔ FinD (ownL e[i]? e) fun _ e => FinD (evOs os e) fun avs e => FinD (intO (getAVs e avs) e) fun k e => FinD (ownL e[i]? e) fun xs e => FinD (resA (ixN xs.length k) e) fun j e => PF .nx (e.set i (some ⟨.own, .lst (xs.set j r.d)⟩)) := fun r e => by
    cases e[i]? with
    | none => exact Iff.rfl
    | some o => cases o with
      | none => exact Iff.rfl
      | some w =>
        obtain ⟨md, d⟩ := w
        cases md with
        | shr => exact Iff.rfl
        | bor => exact Iff.rfl
        | own =>
          cases d with
          | lst d =>
            refine Iff.trans fin_bind_D ?_
            have key : ∀ (avs : List AV) (e : DEnv), FinD (match getAVs e avs, (e[i]? : Option (Option Ent)) with
              | some [.int k], some (some (Ent.mk Md.own (.lst xs))) => (match ixN xs.length k with
                | some j => .ok .nx (e.set i (some ⟨.own, .lst (xs.set j r.d)⟩))
                | none => .bad)
              | _, _ => .bad) PF ↔ FinD (intO (getAVs e avs) e) fun k e => FinD (ownL e[i]? e) fun xs e => FinD (resA (ixN xs.length k) e) fun j e => PF .nx (e.set i (some ⟨.own, .lst (xs.set j r.d)⟩)) := fun avs e => by
              rcases getAVs e avs with _ | (_ | ⟨d1, _ | ⟨d2, t⟩⟩)
              · exact Iff.rfl
              · exact Iff.rfl
              · cases d1 with
                | int k =>
                  refine Iff.trans ?_ (fin_intO_D (k := k)).symm
                  cases e[i]? with
                  | none => exact Iff.rfl
                  | some o => cases o with
                    | none => exact Iff.rfl
                    | some w =>
                      obtain ⟨md, d⟩ := w
                      cases md with
                      | own =>
                        cases d with
                        | lst xs =>
                          refine Iff.trans ?_ (fin_ownL_D (d := xs)).symm
                          dsimp only
                          unfold resA
                          cases ixN xs.length k <;> exact Iff.rfl
                        | _ => exact Iff.rfl
                      | shr => exact Iff.rfl
                      | bor => exact Iff.rfl
                | _ => exact Iff.rfl
              · cases d1 <;> exact Iff.rfl
            exact ⟨fun h => fin_ownL_D.mpr (h.mono fun a e k => (key a e).mp k), fun h => (fin_ownL_D.mp h).mono fun a e k => (key a e).mpr k⟩
          | _ => exact Iff.rfl
  exact ⟨fun h => h.mono fun a e k => (key a e).mp k, fun h => h.mono fun a e k => (key a e).mpr k⟩
def intB (r : Ent) (env : DEnv) : R (Option Int) := match r with
  | ⟨.shr, .int b⟩ => .ok (some b) env
  | _ => .bad
theorem fin_intB_D {b : Int} {P : Option Int → DEnv → Prop} : FinD (intB ⟨.shr, .int b⟩ env) P ↔ P (some b) env := ⟨id, id⟩
theorem fin_partN_D {P : Option Int → DEnv → Prop} : FinD (dPart none env) P ↔ P none env := ⟨id, id⟩
theorem fin_partS_D {m : DE} {P : Option Int → DEnv → Prop} : FinD (dPart (some m) env) P ↔ FinD (m env) fun r e => FinD (intB r e) P := by
  unfold dPart
  exact fin_bind_D
def oneO (ds : Option (List D)) (env : DEnv) : R D := match ds with
  | some [d] => .ok d env
  | _ => .bad
theorem fin_oneO_D {d : D} {P : D → DEnv → Prop} : FinD (oneO (some [d]) env) P ↔ P d env := ⟨id, id⟩
theorem fin_slice_D {p : Ps} {o : Opd} {lo hi : Option DE} : FinD (dSlice p o lo hi env) PE ↔ FinD (evOs [o] env) fun avs e => FinD (dPart lo e) fun l e => FinD (dPart hi e) fun u e => FinD (oneO (getAVs e avs) e) fun d e => FinD (resP (p d l u) e) PE := by
  unfold dSlice
  rw [fin_bind_D]
  have key : ∀ (avs : List AV) (l u : Option Int) (e : DEnv), FinD (match getAVs e avs with
    | some [d] => (match p d l u with
      | some r => R.ok r.ent e
      | none => .bad)
    | _ => .bad) PE ↔ FinD (oneO (getAVs e avs) e) fun d e => FinD (resP (p d l u) e) PE := fun avs l u e => by
    rcases getAVs e avs with _ | (_ | ⟨d1, _ | ⟨d2, t⟩⟩)
    · exact Iff.rfl
    · exact Iff.rfl
    · refine Iff.trans ?_ (fin_oneO_D (d := d1)).symm
      dsimp only
      unfold resP
      cases p d1 l u <;> exact Iff.rfl
    · exact Iff.rfl
  refine ⟨fun h => h.mono fun avs e k => (fin_bind_D.mp k).mono fun l e k => (fin_bind_D.mp k).mono fun u e k => (key avs l u e).mp k, fun h => h.mono fun avs e k => fin_bind_D.mpr (k.mono fun l e k => fin_bind_D.mpr (k.mono fun u e k => (key avs l u e).mpr k))⟩
theorem fin_forI_D {it : DI} {g : DG} {body : DS} : FinD (dForI it g body env) PF ↔ FinD (it env) fun xs e => FinD (dFor g body xs e) PF := fin_bind_D
theorem fin_iArgs_D {p : List D → Option (List D)} {os : List Opd} : FinD (iArgs p os env) PL ↔ FinD (evOs os env) fun avs e => FinD (resA ((getAVs e avs).bind p) e) PL := by
  unfold iArgs
  rw [fin_bind_D]
  have key : ∀ (avs : List AV) (e : DEnv), FinD (match (getAVs e avs).bind p with
    | some xs => R.ok xs e
    | none => R.bad) PL ↔ FinD (resA ((getAVs e avs).bind p) e) PL := fun avs e => by
    unfold resA
    cases (getAVs e avs).bind p <;> exact Iff.rfl
  exact ⟨fun h => h.mono fun a e k => (key a e).mp k, fun h => h.mono fun a e k => (key a e).mpr k⟩
theorem fin_iSeq_D {m : DE} : FinD (iSeq m env) PL ↔ FinD (m env) fun r e => FinD (resA (dSeqOf r.d) e) PL := by
  unfold iSeq
  rw [fin_bind_D]
  have key : ∀ (r : Ent) (e : DEnv), FinD (match dSeqOf r.d with
    | some xs => R.ok xs e
    | none => R.bad) PL ↔ FinD (resA (dSeqOf r.d) e) PL := fun r e => by
    unfold resA
    cases dSeqOf r.d <;> exact Iff.rfl
  exact ⟨fun h => h.mono fun a e k => (key a e).mp k, fun h => h.mono fun a e k => (key a e).mpr k⟩
end
def Goes : Fl → Prop
  | .nx => True
  | .cnt => True
  | _ => False
@[simp] theorem goes_nx : Goes .nx ↔ True := Iff.rfl
@[simp] theorem goes_cnt : Goes .cnt ↔ True := Iff.rfl
/-- what a function gives -/
def FinFD (r : FR) (P : Ent → D → Prop) : Prop := match r with
  | .ok a o => P a o
  | _ => False
theorem finF_congr_D {r r' : FR} {P : Ent → D → Prop} (h : r = r') : FinFD r P = FinFD r' P := by rw [h]
theorem finF_ok_D {a : Ent} {o : D} {P : Ent → D → Prop} : FinFD (.ok a o) P ↔ P a o := Iff.rfl
theorem finF_iff_D {r : FR} {P : Ent → D → Prop} : FinFD r P ↔ ∃ a o, r = .ok a o ∧ P a o := by
  cases r with
  | ok a e => exact ⟨fun h => ⟨a, e, rfl, h⟩, fun ⟨_, _, z, h⟩ => by cases z; exact h⟩
  | err x e => exact ⟨fun h => h.elim, fun ⟨_, _, z, h⟩ => by cases z⟩
  | bad => exact ⟨fun h => h.elim, fun ⟨_, _, z, h⟩ => by cases z⟩
def EndS (br : Bool) (P : Ent → D → Prop) (fl : Fl) (e : DEnv) : Prop := match fl with
  | .ret r => ∃ o, outOf br e = some o ∧ P r o
  | .nx => ∃ o, outOf br e = some o ∧ P ⟨.shr, .non⟩ o
  | _ => False
@[simp] theorem endS_ret {br : Bool} {P : Ent → D → Prop} {r : Ent} {e : DEnv} : EndS br P (.ret r) e ↔ ∃ o, outOf br e = some o ∧ P r o := Iff.rfl
@[simp] theorem endS_nx {br : Bool} {P : Ent → D → Prop} {e : DEnv} : EndS br P .nx e ↔ ∃ o, outOf br e = some o ∧ P ⟨.shr, .non⟩ o := Iff.rfl
@[simp] theorem outOf_false {e : DEnv} : outOf false e = some .non := rfl
@[simp] theorem outOf_true {d : D} {e : DEnv} : outOf true (some ⟨.own, d⟩ :: e) = some d := rfl
theorem finF_def_D {br : Bool} {n ns : Nat} {body : DS} {args : List Ent} {P : Ent → D → Prop} (hn : args.length = n) (h : FinD (body (args.map some ++ List.replicate (ns - n) none)) (EndS br P)) : FinFD (dDef br n ns body args) P := by
  unfold dDef
  rw [if_pos hn]
  revert h
  cases body (args.map some ++ List.replicate (ns - n) none) with
  | ok fl e =>
    cases fl with
    | nx => exact fun ⟨o, h1, h2⟩ => by simp only [h1]; exact h2
    | ret r => exact fun ⟨o, h1, h2⟩ => by simp only [h1]; exact h2
    | brk => exact fun h => h
    | cnt => exact fun h => h
  | err x e => exact fun h => h.elim
  | bad => exact fun h => h
/-- a function that changes nothing: its answer, told as an equation -/
theorem def_eq_D {n ns : Nat} {body : DS} {args : List Ent} {r : Ent} (hn : args.length = n) (h : FinD (body (args.map some ++ List.replicate (ns - n) none)) fun fl _ => fl = .ret r ∨ (fl = .nx ∧ r = ⟨.shr, .non⟩)) : dDef false n ns body args = .ok r .non := by
  have q := finF_def_D (br := false) (P := fun a o => a = r ∧ o = .non) hn (h.mono fun fl e k => by
    rcases k with rfl | ⟨rfl, rfl⟩
    · exact ⟨.non, rfl, rfl, rfl⟩
    · exact ⟨.non, rfl, rfl, rfl⟩)
  obtain ⟨a, o, e, rfl, rfl⟩ := finF_iff_D.mp q
  exact e
theorem fin_after_D {env : DEnv} {r : FR} {P : Ent → DEnv → Prop} : FinFD r (fun a _ => P a env) → FinD (afterC env r) P := by
  cases r <;> exact id
theorem fin_afterR_D {env : DEnv} {i : Nat} {r : FR} {P : Ent → DEnv → Prop} : FinFD r (fun a o => P a (env.set i (some ⟨.own, o⟩))) → FinD (afterR env i r) P := by
  cases r <;> exact id

/-! ### loops -/
theorem fin_for_from_D {g : DG} {body : DS} {P : Fl → DEnv → Prop} (I : Nat → DEnv → Prop) : ∀ (xs : List D) (k : Nat) (env : DEnv), I k env →
    (∀ j x env, xs[j]? = some x → I (k + j) env → ∃ env1, g x env = some env1 ∧ FinD (body env1) fun fl e => Goes fl ∧ I (k + j + 1) e) →
    (∀ env, I (k + xs.length) env → P .nx env) → FinD (dFor g body xs env) P
  | [], k, env, h, _, z => z env h
  | x :: xs, k, env, h, step, z => by
    obtain ⟨env1, e1, h1⟩ := step 0 x env rfl h
    have go : ∀ env2, I (k + 1) env2 → FinD (dFor g body xs env2) P := fun env2 h2 => fin_for_from_D (g := g) (body := body) I xs (k + 1) env2 h2 (fun j y en hj hi => by
      have q := step (j + 1) y en (by simpa using hj) (by rw [show k + (j + 1) = k + 1 + j by omega]; exact hi)
      rw [show k + (j + 1) + 1 = k + 1 + j + 1 by omega] at q
      exact q) (fun en hi => z en (by rw [List.length_cons, show k + (xs.length + 1) = k + 1 + xs.length by omega]; exact hi))
    rw [dFor, e1]
    revert h1
    simp only [Nat.add_zero]
    cases body env1 with
    | ok fl e2 =>
      cases fl with
      | nx => exact fun ⟨_, h2⟩ => go e2 h2
      | cnt => exact fun ⟨_, h2⟩ => go e2 h2
      | brk => exact fun ⟨h2, _⟩ => h2.elim
      | ret r => exact fun ⟨h2, _⟩ => h2.elim
    | err x e => exact fun h => h
    | bad => exact fun h => h
/-- a loop that goes to its end -/
theorem fin_for_D {g : DG} {body : DS} {P : Fl → DEnv → Prop} {xs : List D} {env : DEnv} (I : Nat → DEnv → Prop) (h0 : I 0 env)
    (step : ∀ j x env, xs[j]? = some x → I j env → ∃ env1, g x env = some env1 ∧ FinD (body env1) fun fl e => Goes fl ∧ I (j + 1) e)
    (z : ∀ env, I xs.length env → P .nx env) : FinD (dFor g body xs env) P :=
  fin_for_from_D I xs 0 env h0 (fun j x en hj hi => by
    rw [Nat.zero_add] at *
    exact step j x en hj hi) (fun en hi => z en (by rw [Nat.zero_add] at hi; exact hi))
theorem fin_while_D {c : DT} {body : DS} {P : Fl → DEnv → Prop} (I : Nat → DEnv → Prop)
    (step : ∀ k env, I k env → FinD (c env) fun b e => if b = true then FinD (body e) (fun fl e2 => Goes fl ∧ ∃ k', k' < k ∧ I k' e2) else P .nx e) : ∀ (n k : Nat) (env : DEnv), k < n → I k env → FinD (dWhile c body n env) P
  | 0, k, env, h, _ => absurd h (Nat.not_lt_zero k)
  | n + 1, k, env, h, hi => by
    have q := step k env hi
    rw [dWhile, fin_bind_D]
    refine q.mono fun b e hb => ?_
    cases b with
    | false => exact hb
    | true =>
      simp only [if_true] at hb ⊢
      revert hb
      cases body e with
      | ok fl e2 =>
        cases fl with
        | nx => exact fun ⟨_, k', h1, h2⟩ => fin_while_D I step n k' e2 (by omega) h2
        | cnt => exact fun ⟨_, k', h1, h2⟩ => fin_while_D I step n k' e2 (by omega) h2
        | brk => exact fun ⟨h2, _⟩ => h2.elim
        | ret r => exact fun ⟨h2, _⟩ => h2.elim
      | err x e => exact fun h => h
      | bad => exact fun h => h
/-- a comprehension without a condition: its items, one by one -/
theorem dLoop_map {vs : List Nat} {g : DG} {e : DE} (I : DEnv → Prop) (F : D → D) : ∀ (xs acc : List D) (env : DEnv), I env → acc.length + xs.length ≤ sizeLine →
    (∀ x ∈ xs, ∀ env, I env → ∃ env1, g x env = some env1 ∧ ∃ env2 md, e env1 = .ok ⟨md, F x⟩ env2 ∧ I (wipeD env2 vs)) →
    ∃ env', dLoop vs g dYes e xs acc env = .ok (acc ++ xs.map F) env' ∧ I env'
  | [], acc, env, h, _, _ => ⟨env, by simp [dLoop], h⟩
  | x :: xs, acc, env, h, hl, step => by
    obtain ⟨env1, e1, env2, md, e2, h2⟩ := step x (List.mem_cons_self ..) env h
    rw [List.length_cons] at hl
    obtain ⟨env', e3, h3⟩ := dLoop_map I F xs (acc ++ [F x]) (wipeD env2 vs) h2 (by rw [List.length_append, List.length_singleton]; omega) fun y hy => step y (List.mem_cons_of_mem _ hy)
    refine ⟨env', ?_, h3⟩
    rw [dLoop, e1]
    simp only [dYes, e2]
    rw [if_pos (by omega), e3, List.map_cons, List.append_assoc]
    rfl

theorem fin_comp_D {vs : List Nat} {it : DI} {g : DG} {e : DE} {env env1 : DEnv} {xs : List D} {P : Ent → DEnv → Prop} (hi : FinD (it env) fun ys e => ys = xs ∧ e = env1) (I : DEnv → Prop) (F : D → D) (h0 : I (wipeD env1 vs)) (hl : xs.length ≤ sizeLine)
    (step : ∀ x ∈ xs, ∀ env, I env → ∃ env1, g x env = some env1 ∧ FinD (e env1) fun r env2 => r.d = F x ∧ I (wipeD env2 vs))
    (z : ∀ env', I env' → P ⟨.own, .lst (xs.map F)⟩ (backD env1 env' vs)) : FinD (dComp vs it g dYes e env) P := by
  obtain ⟨env', e1, h1⟩ := dLoop_map (g := g) (e := e) (vs := vs) I F xs [] (wipeD env1 vs) h0 (by simpa using hl) fun x hx en hI => by
    obtain ⟨en1, q1, q2⟩ := step x hx en hI
    obtain ⟨r, en2, q3, q4, q5⟩ := fin_iff_D.mp q2
    exact ⟨en1, q1, en2, r.md, by rw [q3, ← q4], q5⟩
  obtain ⟨ys, e2, hi1, rfl, rfl⟩ := fin_iff_D.mp hi
  unfold dComp
  rw [hi1, bind_ok, e1]
  exact z env' h1


/-! the same, closed to unfolding -/
structure Fin {α : Type} (r : R α) (P : α → DEnv → Prop) : Prop where
  out : FinD r P
structure FinF (r : FR) (P : Ent → D → Prop) : Prop where
  out : FinFD r P
def bindO {α : Type} (o : Option (List D)) (p : List D → Option α) : Option α := o.bind p
@[simp] theorem bindO_some {α : Type} {l : List D} {p : List D → Option α} : bindO (some l) p = p l := id rfl
theorem fin_eq {α : Type} : @FinD α = @Fin α := by
  funext r P
  exact propext ⟨fun h => ⟨h⟩, fun h => h.out⟩
theorem finF_eq : FinFD = FinF := by
  funext r P
  exact propext ⟨fun h => ⟨h⟩, fun h => h.out⟩
theorem fin_congr {α : Type} {r r' : R α} {P : α → DEnv → Prop} (h : r = r') : Fin r P = Fin r' P := by
  have h := @fin_congr_D
  simp only [fin_eq, finF_eq] at h
  first | exact h | exact h (by assumption) | exact h (by assumption) (by assumption) | exact h _ (by assumption) (by assumption) (by assumption) | exact h _ _ _ _ (by assumption) (by assumption) (by assumption)
@[simp] theorem fin_ok {α : Type} {a : α} {e : DEnv} {P : α → DEnv → Prop} : Fin (.ok a e) P ↔ P a e := by
  have h := @fin_ok_D
  simp only [fin_eq, finF_eq] at h
  first | exact h | exact h (by assumption) | exact h (by assumption) (by assumption) | exact h _ (by assumption) (by assumption) (by assumption) | exact h _ _ _ _ (by assumption) (by assumption) (by assumption)
@[simp] theorem fin_bad {α : Type} {P : α → DEnv → Prop} : Fin (R.bad : R α) P ↔ False := by
  have h := @fin_bad_D
  simp only [fin_eq, finF_eq] at h
  first | exact h | exact h (by assumption) | exact h (by assumption) (by assumption) | exact h _ (by assumption) (by assumption) (by assumption) | exact h _ _ _ _ (by assumption) (by assumption) (by assumption)
@[simp ↓] theorem fin_bind {α β : Type} {r : R α} {f : α → DEnv → R β} {P : β → DEnv → Prop} : Fin (r.bind f) P ↔ Fin r fun a e => Fin (f a e) P := by
  have h := @fin_bind_D
  simp only [fin_eq, finF_eq] at h
  first | exact h | exact h (by assumption) | exact h (by assumption) (by assumption) | exact h _ (by assumption) (by assumption) (by assumption) | exact h _ _ _ _ (by assumption) (by assumption) (by assumption)
theorem fin_iff {α : Type} {r : R α} {P : α → DEnv → Prop} : Fin r P ↔ ∃ a e, r = .ok a e ∧ P a e := by
  have h := @fin_iff_D
  simp only [fin_eq, finF_eq] at h
  first | exact h | exact h (by assumption) | exact h (by assumption) (by assumption) | exact h _ (by assumption) (by assumption) (by assumption) | exact h _ _ _ _ (by assumption) (by assumption) (by assumption)
theorem Fin.mono {α : Type} {r : R α} {P P' : α → DEnv → Prop} (h : Fin r P) (k : ∀ a e, P a e → P' a e) : Fin r P' := by
  have h := @FinD.mono
  simp only [fin_eq, finF_eq] at h
  first | exact h | exact h (by assumption) | exact h (by assumption) (by assumption) | exact h _ (by assumption) (by assumption) (by assumption) | exact h _ _ _ _ (by assumption) (by assumption) (by assumption)
@[simp ↓] theorem contS_nx {b : DS} {e : DEnv} {P : Fl → DEnv → Prop} : Fin (contS b .nx e) P ↔ Fin (b e) P := by
  have h := @contS_nx_D
  simp only [fin_eq, finF_eq] at h
  first | exact h | exact h (by assumption) | exact h (by assumption) (by assumption) | exact h _ (by assumption) (by assumption) (by assumption) | exact h _ _ _ _ (by assumption) (by assumption) (by assumption)
@[simp ↓] theorem contS_ret {b : DS} {r : Ent} {e : DEnv} {P : Fl → DEnv → Prop} : Fin (contS b (.ret r) e) P ↔ P (.ret r) e := by
  have h := @contS_ret_D
  simp only [fin_eq, finF_eq] at h
  first | exact h | exact h (by assumption) | exact h (by assumption) (by assumption) | exact h _ (by assumption) (by assumption) (by assumption) | exact h _ _ _ _ (by assumption) (by assumption) (by assumption)
@[simp ↓] theorem contS_brk {b : DS} {e : DEnv} {P : Fl → DEnv → Prop} : Fin (contS b .brk e) P ↔ P .brk e := by
  have h := @contS_brk_D
  simp only [fin_eq, finF_eq] at h
  first | exact h | exact h (by assumption) | exact h (by assumption) (by assumption) | exact h _ (by assumption) (by assumption) (by assumption) | exact h _ _ _ _ (by assumption) (by assumption) (by assumption)
@[simp ↓] theorem contS_cnt {b : DS} {e : DEnv} {P : Fl → DEnv → Prop} : Fin (contS b .cnt e) P ↔ P .cnt e := by
  have h := @contS_cnt_D
  simp only [fin_eq, finF_eq] at h
  first | exact h | exact h (by assumption) | exact h (by assumption) (by assumption) | exact h _ (by assumption) (by assumption) (by assumption) | exact h _ _ _ _ (by assumption) (by assumption) (by assumption)
@[simp ↓] theorem fin_seq {a b : DS} {env : DEnv} {P : Fl → DEnv → Prop} : Fin (dSeq a b env) P ↔ Fin (a env) fun fl e => Fin (contS b fl e) P := by
  have h := @fin_seq_D
  simp only [fin_eq, finF_eq] at h
  first | exact h | exact h (by assumption) | exact h (by assumption) (by assumption) | exact h _ (by assumption) (by assumption) (by assumption) | exact h _ _ _ _ (by assumption) (by assumption) (by assumption)
@[simp] theorem fin_ofO {e : Ent} {env : DEnv} {P : Ent → DEnv → Prop} : Fin (ofO (some (some e)) env) P ↔ P e env := by
  have h := @fin_ofO_D
  simp only [fin_eq, finF_eq] at h
  first | exact h | exact h (by assumption) | exact h (by assumption) (by assumption) | exact h _ (by assumption) (by assumption) (by assumption) | exact h _ _ _ _ (by assumption) (by assumption) (by assumption)
@[simp] theorem fin_resD {x : D} {env : DEnv} {P : Ent → DEnv → Prop} : Fin (resP (some (.d x)) env) P ↔ P ⟨.shr, x⟩ env := by
  have h := @fin_resD_D
  simp only [fin_eq, finF_eq] at h
  first | exact h | exact h (by assumption) | exact h (by assumption) (by assumption) | exact h _ (by assumption) (by assumption) (by assumption) | exact h _ _ _ _ (by assumption) (by assumption) (by assumption)
@[simp] theorem fin_resN {xs : List D} {env : DEnv} {P : Ent → DEnv → Prop} : Fin (resP (some (.nl xs)) env) P ↔ P ⟨.own, .lst xs⟩ env := by
  have h := @fin_resN_D
  simp only [fin_eq, finF_eq] at h
  first | exact h | exact h (by assumption) | exact h (by assumption) (by assumption) | exact h _ (by assumption) (by assumption) (by assumption) | exact h _ _ _ _ (by assumption) (by assumption) (by assumption)
@[simp] theorem fin_resA {α : Type} {x : α} {env : DEnv} {P : α → DEnv → Prop} : Fin (resA (some x) env) P ↔ P x env := by
  have h := @fin_resA_D
  simp only [fin_eq, finF_eq] at h
  first | exact h | exact h (by assumption) | exact h (by assumption) (by assumption) | exact h _ (by assumption) (by assumption) (by assumption) | exact h _ _ _ _ (by assumption) (by assumption) (by assumption)
section
variable {env : DEnv} {PF : Fl → DEnv → Prop} {PE : Ent → DEnv → Prop} {PB : Bool → DEnv → Prop} {PL : List D → DEnv → Prop}
@[simp ↓] theorem fin_ifs {c : DT} {a b : DS} : Fin (dIfS c a b env) PF ↔ Fin (c env) fun k e => Fin (if k = true then a e else b e) PF := by
  have h := @fin_ifs_D
  simp only [fin_eq, finF_eq] at h
  first | exact h | exact h (by assumption) | exact h (by assumption) (by assumption) | exact h _ (by assumption) (by assumption) (by assumption) | exact h _ _ _ _ (by assumption) (by assumption) (by assumption)
@[simp ↓] theorem fin_next : Fin (dNext env) PF ↔ PF .nx env := by
  have h := @fin_next_D
  simp only [fin_eq, finF_eq] at h
  first | exact h | exact h (by assumption) | exact h (by assumption) (by assumption) | exact h _ (by assumption) (by assumption) (by assumption) | exact h _ _ _ _ (by assumption) (by assumption) (by assumption)
@[simp ↓] theorem fin_brk : Fin (dBrk env) PF ↔ PF .brk env := by
  have h := @fin_brk_D
  simp only [fin_eq, finF_eq] at h
  first | exact h | exact h (by assumption) | exact h (by assumption) (by assumption) | exact h _ (by assumption) (by assumption) (by assumption) | exact h _ _ _ _ (by assumption) (by assumption) (by assumption)
@[simp ↓] theorem fin_cnt : Fin (dCnt env) PF ↔ PF .cnt env := by
  have h := @fin_cnt_D
  simp only [fin_eq, finF_eq] at h
  first | exact h | exact h (by assumption) | exact h (by assumption) (by assumption) | exact h _ (by assumption) (by assumption) (by assumption) | exact h _ _ _ _ (by assumption) (by assumption) (by assumption)
@[simp ↓] theorem fin_never : Fin (dNever env) PF ↔ False := by
  have h := @fin_never_D
  simp only [fin_eq, finF_eq] at h
  first | exact h | exact h (by assumption) | exact h (by assumption) (by assumption) | exact h _ (by assumption) (by assumption) (by assumption) | exact h _ _ _ _ (by assumption) (by assumption) (by assumption)
@[simp ↓] theorem fin_set {i : Nat} {m : DE} : Fin (dSet i m env) PF ↔ Fin (m env) fun r e => PF .nx (e.set i (some r)) := by
  have h := @fin_set_D
  simp only [fin_eq, finF_eq] at h
  first | exact h | exact h (by assumption) | exact h (by assumption) (by assumption) | exact h _ (by assumption) (by assumption) (by assumption) | exact h _ _ _ _ (by assumption) (by assumption) (by assumption)
@[simp ↓] theorem fin_drop {m : DE} : Fin (dDrop m env) PF ↔ Fin (m env) fun r e => PF .nx e := by
  have h := @fin_drop_D
  simp only [fin_eq, finF_eq] at h
  first | exact h | exact h (by assumption) | exact h (by assumption) (by assumption) | exact h _ (by assumption) (by assumption) (by assumption) | exact h _ _ _ _ (by assumption) (by assumption) (by assumption)
@[simp ↓] theorem fin_ret {m : DE} : Fin (dRet m env) PF ↔ Fin (m env) fun r e => PF (.ret r) e := by
  have h := @fin_ret_D
  simp only [fin_eq, finF_eq] at h
  first | exact h | exact h (by assumption) | exact h (by assumption) (by assumption) | exact h _ (by assumption) (by assumption) (by assumption) | exact h _ _ _ _ (by assumption) (by assumption) (by assumption)
@[simp ↓] theorem fin_retV {i : Nat} : Fin (dRetV i env) PF ↔ Fin (ofO env[i]? env) fun r e => PF (.ret r) (e.set i none) := by
  have h := @fin_retV_D
  simp only [fin_eq, finF_eq] at h
  first | exact h | exact h (by assumption) | exact h (by assumption) (by assumption) | exact h _ (by assumption) (by assumption) (by assumption) | exact h _ _ _ _ (by assumption) (by assumption) (by assumption)
@[simp ↓] theorem fin_c {d : D} : Fin (dC d env) PE ↔ PE ⟨.shr, d⟩ env := by
  have h := @fin_c_D
  simp only [fin_eq, finF_eq] at h
  first | exact h | exact h (by assumption) | exact h (by assumption) (by assumption) | exact h _ (by assumption) (by assumption) (by assumption) | exact h _ _ _ _ (by assumption) (by assumption) (by assumption)
@[simp ↓] theorem fin_var {i : Nat} : Fin (dVar i env) PE ↔ Fin (ofO env[i]? env) fun r e => PE ⟨.shr, r.d⟩ (e.set i (some ⟨.shr, r.d⟩)) := by
  have h := @fin_var_D
  simp only [fin_eq, finF_eq] at h
  first | exact h | exact h (by assumption) | exact h (by assumption) (by assumption) | exact h _ (by assumption) (by assumption) (by assumption) | exact h _ _ _ _ (by assumption) (by assumption) (by assumption)
@[simp ↓] theorem fin_os_nil {P : List AV → DEnv → Prop} : Fin (evOs [] env) P ↔ P [] env := by
  have h := @fin_os_nil_D
  simp only [fin_eq, finF_eq] at h
  first | exact h | exact h (by assumption) | exact h (by assumption) (by assumption) | exact h _ (by assumption) (by assumption) (by assumption) | exact h _ _ _ _ (by assumption) (by assumption) (by assumption)
@[simp ↓] theorem fin_os_v {m : DE} {os : List Opd} {P : List AV → DEnv → Prop} : Fin (evOs (.v m :: os) env) P ↔ Fin (m env) fun r e => Fin (evOs os e) fun avs e2 => P (.d r.d :: avs) e2 := by
  have h := @fin_os_v_D
  simp only [fin_eq, finF_eq] at h
  first | exact h | exact h (by assumption) | exact h (by assumption) (by assumption) | exact h _ (by assumption) (by assumption) (by assumption) | exact h _ _ _ _ (by assumption) (by assumption) (by assumption)
@[simp ↓] theorem fin_os_s {i : Nat} {os : List Opd} {P : List AV → DEnv → Prop} : Fin (evOs (.s i :: os) env) P ↔ Fin (ofO env[i]? env) fun _ e => Fin (evOs os e) fun avs e2 => P (.s i :: avs) e2 := by
  have h := @fin_os_s_D
  simp only [fin_eq, finF_eq] at h
  first | exact h | exact h (by assumption) | exact h (by assumption) (by assumption) | exact h _ (by assumption) (by assumption) (by assumption) | exact h _ _ _ _ (by assumption) (by assumption) (by assumption)
@[simp ↓] theorem fin_prim {p : Pr} {os : List Opd} : Fin (dPrim p os env) PE ↔ Fin (evOs os env) fun avs e => Fin (resP (bindO (getAVs e avs) p) e) PE := by
  have h := @fin_prim_D
  simp only [fin_eq, finF_eq] at h
  first | exact h | exact h (by assumption) | exact h (by assumption) (by assumption) | exact h _ (by assumption) (by assumption) (by assumption) | exact h _ _ _ _ (by assumption) (by assumption) (by assumption)
@[simp ↓] theorem fin_tstB {b : Bool} : Fin (tstB ⟨.shr, .bl b⟩ env) PB ↔ PB b env := by
  have h := @fin_tstB_D
  simp only [fin_eq, finF_eq] at h
  first | exact h | exact h (by assumption) | exact h (by assumption) (by assumption) | exact h _ (by assumption) (by assumption) (by assumption) | exact h _ _ _ _ (by assumption) (by assumption) (by assumption)
@[simp ↓] theorem fin_tst {m : DE} : Fin (dTst m env) PB ↔ Fin (m env) fun r e => Fin (tstB r e) PB := by
  have h := @fin_tst_D
  simp only [fin_eq, finF_eq] at h
  first | exact h | exact h (by assumption) | exact h (by assumption) (by assumption) | exact h _ (by assumption) (by assumption) (by assumption) | exact h _ _ _ _ (by assumption) (by assumption) (by assumption)
@[simp ↓] theorem fin_and {a b : DT} : Fin (dAnd a b env) PB ↔ Fin (a env) fun c e => Fin (if c = true then b e else .ok false e) PB := by
  have h := @fin_and_D
  simp only [fin_eq, finF_eq] at h
  first | exact h | exact h (by assumption) | exact h (by assumption) (by assumption) | exact h _ (by assumption) (by assumption) (by assumption) | exact h _ _ _ _ (by assumption) (by assumption) (by assumption)
@[simp ↓] theorem fin_or {a b : DT} : Fin (dOr a b env) PB ↔ Fin (a env) fun c e => Fin (if c = true then .ok true e else b e) PB := by
  have h := @fin_or_D
  simp only [fin_eq, finF_eq] at h
  first | exact h | exact h (by assumption) | exact h (by assumption) (by assumption) | exact h _ (by assumption) (by assumption) (by assumption) | exact h _ _ _ _ (by assumption) (by assumption) (by assumption)
@[simp ↓] theorem fin_not {a : DT} : Fin (dNot a env) PB ↔ Fin (a env) fun c e => PB (!c) e := by
  have h := @fin_not_D
  simp only [fin_eq, finF_eq] at h
  first | exact h | exact h (by assumption) | exact h (by assumption) (by assumption) | exact h _ (by assumption) (by assumption) (by assumption) | exact h _ _ _ _ (by assumption) (by assumption) (by assumption)
@[simp ↓] theorem fin_yes : Fin (dYes env) PB ↔ PB true env := by
  have h := @fin_yes_D
  simp only [fin_eq, finF_eq] at h
  first | exact h | exact h (by assumption) | exact h (by assumption) (by assumption) | exact h _ (by assumption) (by assumption) (by assumption) | exact h _ _ _ _ (by assumption) (by assumption) (by assumption)
@[simp ↓] theorem fin_B {m : DT} : Fin (dB m env) PE ↔ Fin (m env) fun b e => PE ⟨.shr, .bl b⟩ e := by
  have h := @fin_B_D
  simp only [fin_eq, finF_eq] at h
  first | exact h | exact h (by assumption) | exact h (by assumption) (by assumption) | exact h _ (by assumption) (by assumption) (by assumption) | exact h _ _ _ _ (by assumption) (by assumption) (by assumption)
@[simp ↓] theorem fin_andV {a : DT} {b : DE} : Fin (dAndV a b env) PE ↔ Fin (a env) fun c e => Fin (if c = true then b e else .ok ⟨.shr, .bl false⟩ e) PE := by
  have h := @fin_andV_D
  simp only [fin_eq, finF_eq] at h
  first | exact h | exact h (by assumption) | exact h (by assumption) (by assumption) | exact h _ (by assumption) (by assumption) (by assumption) | exact h _ _ _ _ (by assumption) (by assumption) (by assumption)
@[simp ↓] theorem fin_orV {a : DT} {b : DE} : Fin (dOrV a b env) PE ↔ Fin (a env) fun c e => Fin (if c = true then .ok ⟨.shr, .bl true⟩ e else b e) PE := by
  have h := @fin_orV_D
  simp only [fin_eq, finF_eq] at h
  first | exact h | exact h (by assumption) | exact h (by assumption) (by assumption) | exact h _ (by assumption) (by assumption) (by assumption) | exact h _ _ _ _ (by assumption) (by assumption) (by assumption)
@[simp ↓] theorem fin_if {c : DT} {a b : DE} : Fin (dIf c a b env) PE ↔ Fin (c env) fun k e => Fin (if k = true then a e else b e) PE := by
  have h := @fin_if_D
  simp only [fin_eq, finF_eq] at h
  first | exact h | exact h (by assumption) | exact h (by assumption) (by assumption) | exact h _ (by assumption) (by assumption) (by assumption) | exact h _ _ _ _ (by assumption) (by assumption) (by assumption)
@[simp] theorem fin_chainN {p' : Pr} {oc : Opd} {y : D} {k : Bool} : Fin (chainN p' oc (some y) (some (.d (.bl k))) env) PE ↔ Fin (if k = true then dPrim p' [.v (dC y), oc] env else .ok ⟨.shr, .bl false⟩ env) PE := by
  have h := @fin_chainN_D
  simp only [fin_eq, finF_eq] at h
  first | exact h | exact h (by assumption) | exact h (by assumption) (by assumption) | exact h _ (by assumption) (by assumption) (by assumption) | exact h _ _ _ _ (by assumption) (by assumption) (by assumption)
@[simp ↓] theorem fin_chain {p p' : Pr} {oa ob oc : Opd} : Fin (dChain p p' oa ob oc env) PE ↔ Fin (evOs [oa, ob] env) fun avs e => Fin (chainN p' oc (secondV avs) (bindO (getAVs e avs) p) e) PE := by
  have h := @fin_chain_D
  simp only [fin_eq, finF_eq] at h
  first | exact h | exact h (by assumption) | exact h (by assumption) (by assumption) | exact h _ (by assumption) (by assumption) (by assumption) | exact h _ _ _ _ (by assumption) (by assumption) (by assumption)
@[simp ↓] theorem fin_call {f : DFn} {os : List Opd} : Fin (dCall f os env) PE ↔ Fin (evOs os env) fun avs e => Fin (resA (getAVs e avs) e) fun ds e => Fin (afterC e (f (shrs ds))) PE := by
  have h := @fin_call_D
  simp only [fin_eq, finF_eq] at h
  first | exact h | exact h (by assumption) | exact h (by assumption) (by assumption) | exact h _ (by assumption) (by assumption) (by assumption) | exact h _ _ _ _ (by assumption) (by assumption) (by assumption)
@[simp] theorem fin_afterOk {r : Ent} {o : D} : Fin (afterC env (.ok r o)) PE ↔ PE r env := by
  have h := @fin_afterOk_D
  simp only [fin_eq, finF_eq] at h
  first | exact h | exact h (by assumption) | exact h (by assumption) (by assumption) | exact h _ (by assumption) (by assumption) (by assumption) | exact h _ _ _ _ (by assumption) (by assumption) (by assumption)
@[simp] theorem fin_afterROk {r : Ent} {o : D} {i : Nat} : Fin (afterR env i (.ok r o)) PE ↔ PE r (env.set i (some ⟨.own, o⟩)) := by
  have h := @fin_afterROk_D
  simp only [fin_eq, finF_eq] at h
  first | exact h | exact h (by assumption) | exact h (by assumption) (by assumption) | exact h _ (by assumption) (by assumption) (by assumption) | exact h _ _ _ _ (by assumption) (by assumption) (by assumption)
@[simp] theorem fin_ownO {d : D} {P : D → DEnv → Prop} : Fin (ownO (some (some ⟨.own, d⟩)) env) P ↔ P d env := by
  have h := @fin_ownO_D
  simp only [fin_eq, finF_eq] at h
  first | exact h | exact h (by assumption) | exact h (by assumption) (by assumption) | exact h _ (by assumption) (by assumption) (by assumption) | exact h _ _ _ _ (by assumption) (by assumption) (by assumption)
@[simp] theorem fin_ownL {d : List D} : Fin (ownL (some (some ⟨.own, .lst d⟩)) env) PL ↔ PL d env := by
  have h := @fin_ownL_D
  simp only [fin_eq, finF_eq] at h
  first | exact h | exact h (by assumption) | exact h (by assumption) (by assumption) | exact h _ (by assumption) (by assumption) (by assumption) | exact h _ _ _ _ (by assumption) (by assumption) (by assumption)
@[simp ↓] theorem fin_callR {f : DFn} {i : Nat} {os : List Opd} : Fin (dCallR f i os env) PE ↔ Fin (ownO env[i]? env) fun _ e => Fin (evOs os e) fun avs e => Fin (resA (getAVs e avs) e) fun ds e => Fin (ownO e[i]? e) fun d e => Fin (afterR e i (f (⟨.own, d⟩ :: shrs ds))) PE := by
  have h := @fin_callR_D
  simp only [fin_eq, finF_eq] at h
  first | exact h | exact h (by assumption) | exact h (by assumption) (by assumption) | exact h _ (by assumption) (by assumption) (by assumption) | exact h _ _ _ _ (by assumption) (by assumption) (by assumption)
@[simp ↓] theorem fin_mut {op : List D → List D → Option (List D × D)} {i : Nat} {os : List Opd} : Fin (dMut op i os env) PE ↔ Fin (ownL env[i]? env) fun _ e => Fin (evOs os e) fun avs e => Fin (resA (getAVs e avs) e) fun ds e => Fin (ownL e[i]? e) fun xs e => Fin (resA (op xs ds) e) fun y e => PE ⟨.shr, y.2⟩ (e.set i (some ⟨.own, .lst y.1⟩)) := by
  have h := @fin_mut_D
  simp only [fin_eq, finF_eq] at h
  first | exact h | exact h (by assumption) | exact h (by assumption) (by assumption) | exact h _ (by assumption) (by assumption) (by assumption) | exact h _ _ _ _ (by assumption) (by assumption) (by assumption)
@[simp] theorem fin_intO {k : Int} {P : Int → DEnv → Prop} : Fin (intO (some [.int k]) env) P ↔ P k env := by
  have h := @fin_intO_D
  simp only [fin_eq, finF_eq] at h
  first | exact h | exact h (by assumption) | exact h (by assumption) (by assumption) | exact h _ (by assumption) (by assumption) (by assumption) | exact h _ _ _ _ (by assumption) (by assumption) (by assumption)
@[simp ↓] theorem fin_setIx {i : Nat} {os : List Opd} {m : DE} : Fin (dSetIx i os m env) PF ↔ Fin (m env) fun r e => Fin (ownL e[i]? e) fun _ e => Fin (evOs os e) fun avs e => Fin (intO (getAVs e avs) e) fun k e => Fin (ownL e[i]? e) fun xs e => Fin (resA (ixN xs.length k) e) fun j e => PF .nx (e.set i (some ⟨.own, .lst (xs.set j r.d)⟩)) := by
  have h := @fin_setIx_D
  simp only [fin_eq, finF_eq] at h
  first | exact h | exact h (by assumption) | exact h (by assumption) (by assumption) | exact h _ (by assumption) (by assumption) (by assumption) | exact h _ _ _ _ (by assumption) (by assumption) (by assumption)
@[simp ↓] theorem fin_intB {b : Int} {P : Option Int → DEnv → Prop} : Fin (intB ⟨.shr, .int b⟩ env) P ↔ P (some b) env := by
  have h := @fin_intB_D
  simp only [fin_eq, finF_eq] at h
  first | exact h | exact h (by assumption) | exact h (by assumption) (by assumption) | exact h _ (by assumption) (by assumption) (by assumption) | exact h _ _ _ _ (by assumption) (by assumption) (by assumption)
@[simp ↓] theorem fin_partN {P : Option Int → DEnv → Prop} : Fin (dPart none env) P ↔ P none env := by
  have h := @fin_partN_D
  simp only [fin_eq, finF_eq] at h
  first | exact h | exact h (by assumption) | exact h (by assumption) (by assumption) | exact h _ (by assumption) (by assumption) (by assumption) | exact h _ _ _ _ (by assumption) (by assumption) (by assumption)
@[simp ↓] theorem fin_partS {m : DE} {P : Option Int → DEnv → Prop} : Fin (dPart (some m) env) P ↔ Fin (m env) fun r e => Fin (intB r e) P := by
  have h := @fin_partS_D
  simp only [fin_eq, finF_eq] at h
  first | exact h | exact h (by assumption) | exact h (by assumption) (by assumption) | exact h _ (by assumption) (by assumption) (by assumption) | exact h _ _ _ _ (by assumption) (by assumption) (by assumption)
@[simp] theorem fin_oneO {d : D} {P : D → DEnv → Prop} : Fin (oneO (some [d]) env) P ↔ P d env := by
  have h := @fin_oneO_D
  simp only [fin_eq, finF_eq] at h
  first | exact h | exact h (by assumption) | exact h (by assumption) (by assumption) | exact h _ (by assumption) (by assumption) (by assumption) | exact h _ _ _ _ (by assumption) (by assumption) (by assumption)
@[simp ↓] theorem fin_slice {p : Ps} {o : Opd} {lo hi : Option DE} : Fin (dSlice p o lo hi env) PE ↔ Fin (evOs [o] env) fun avs e => Fin (dPart lo e) fun l e => Fin (dPart hi e) fun u e => Fin (oneO (getAVs e avs) e) fun d e => Fin (resP (p d l u) e) PE := by
  have h := @fin_slice_D
  simp only [fin_eq, finF_eq] at h
  first | exact h | exact h (by assumption) | exact h (by assumption) (by assumption) | exact h _ (by assumption) (by assumption) (by assumption) | exact h _ _ _ _ (by assumption) (by assumption) (by assumption)
@[simp ↓] theorem fin_forI {it : DI} {g : DG} {body : DS} : Fin (dForI it g body env) PF ↔ Fin (it env) fun xs e => Fin (dFor g body xs e) PF := by
  have h := @fin_forI_D
  simp only [fin_eq, finF_eq] at h
  first | exact h | exact h (by assumption) | exact h (by assumption) (by assumption) | exact h _ (by assumption) (by assumption) (by assumption) | exact h _ _ _ _ (by assumption) (by assumption) (by assumption)
@[simp ↓] theorem fin_iArgs {p : List D → Option (List D)} {os : List Opd} : Fin (iArgs p os env) PL ↔ Fin (evOs os env) fun avs e => Fin (resA (bindO (getAVs e avs) p) e) PL := by
  have h := @fin_iArgs_D
  simp only [fin_eq, finF_eq] at h
  first | exact h | exact h (by assumption) | exact h (by assumption) (by assumption) | exact h _ (by assumption) (by assumption) (by assumption) | exact h _ _ _ _ (by assumption) (by assumption) (by assumption)
@[simp ↓] theorem fin_iSeq {m : DE} : Fin (iSeq m env) PL ↔ Fin (m env) fun r e => Fin (resA (dSeqOf r.d) e) PL := by
  have h := @fin_iSeq_D
  simp only [fin_eq, finF_eq] at h
  first | exact h | exact h (by assumption) | exact h (by assumption) (by assumption) | exact h _ (by assumption) (by assumption) (by assumption) | exact h _ _ _ _ (by assumption) (by assumption) (by assumption)
end
theorem finF_congr {r r' : FR} {P : Ent → D → Prop} (h : r = r') : FinF r P = FinF r' P := by
  have h := @finF_congr_D
  simp only [fin_eq, finF_eq] at h
  first | exact h | exact h (by assumption) | exact h (by assumption) (by assumption) | exact h _ (by assumption) (by assumption) (by assumption) | exact h _ _ _ _ (by assumption) (by assumption) (by assumption)
@[simp] theorem finF_ok {a : Ent} {o : D} {P : Ent → D → Prop} : FinF (.ok a o) P ↔ P a o := by
  have h := @finF_ok_D
  simp only [fin_eq, finF_eq] at h
  first | exact h | exact h (by assumption) | exact h (by assumption) (by assumption) | exact h _ (by assumption) (by assumption) (by assumption) | exact h _ _ _ _ (by assumption) (by assumption) (by assumption)
theorem finF_iff {r : FR} {P : Ent → D → Prop} : FinF r P ↔ ∃ a o, r = .ok a o ∧ P a o := by
  have h := @finF_iff_D
  simp only [fin_eq, finF_eq] at h
  first | exact h | exact h (by assumption) | exact h (by assumption) (by assumption) | exact h _ (by assumption) (by assumption) (by assumption) | exact h _ _ _ _ (by assumption) (by assumption) (by assumption)
theorem finF_def {br : Bool} {n ns : Nat} {body : DS} {args : List Ent} {P : Ent → D → Prop} (hn : args.length = n) (h : Fin (body (args.map some ++ List.replicate (ns - n) none)) (EndS br P)) : FinF (dDef br n ns body args) P := by
  have h := @finF_def_D
  simp only [fin_eq, finF_eq] at h
  first | exact h | exact h (by assumption) | exact h (by assumption) (by assumption) | exact h _ (by assumption) (by assumption) (by assumption) | exact h _ _ _ _ (by assumption) (by assumption) (by assumption)
theorem def_eq {n ns : Nat} {body : DS} {args : List Ent} {r : Ent} (hn : args.length = n) (h : Fin (body (args.map some ++ List.replicate (ns - n) none)) fun fl _ => fl = .ret r ∨ (fl = .nx ∧ r = ⟨.shr, .non⟩)) : dDef false n ns body args = .ok r .non := by
  have h := @def_eq_D
  simp only [fin_eq, finF_eq] at h
  first | exact h | exact h (by assumption) | exact h (by assumption) (by assumption) | exact h _ (by assumption) (by assumption) (by assumption) | exact h _ _ _ _ (by assumption) (by assumption) (by assumption)
theorem fin_after {env : DEnv} {r : FR} {P : Ent → DEnv → Prop} : FinF r (fun a _ => P a env) → Fin (afterC env r) P := by
  have h := @fin_after_D
  simp only [fin_eq, finF_eq] at h
  first | exact h | exact h (by assumption) | exact h (by assumption) (by assumption) | exact h _ (by assumption) (by assumption) (by assumption) | exact h _ _ _ _ (by assumption) (by assumption) (by assumption)
theorem fin_afterR {env : DEnv} {i : Nat} {r : FR} {P : Ent → DEnv → Prop} : FinF r (fun a o => P a (env.set i (some ⟨.own, o⟩))) → Fin (afterR env i r) P := by
  have h := @fin_afterR_D
  simp only [fin_eq, finF_eq] at h
  first | exact h | exact h (by assumption) | exact h (by assumption) (by assumption) | exact h _ (by assumption) (by assumption) (by assumption) | exact h _ _ _ _ (by assumption) (by assumption) (by assumption)
theorem fin_for_from {g : DG} {body : DS} {P : Fl → DEnv → Prop} (I : Nat → DEnv → Prop) : ∀ (xs : List D) (k : Nat) (env : DEnv), I k env →
    (∀ j x env, xs[j]? = some x → I (k + j) env → ∃ env1, g x env = some env1 ∧ Fin (body env1) fun fl e => Goes fl ∧ I (k + j + 1) e) →
    (∀ env, I (k + xs.length) env → P .nx env) → Fin (dFor g body xs env) P := by
  have h := @fin_for_from_D
  simp only [fin_eq, finF_eq] at h
  first | exact h | exact h (by assumption) | exact h (by assumption) (by assumption) | exact h _ (by assumption) (by assumption) (by assumption) | exact h _ _ _ _ (by assumption) (by assumption) (by assumption)
theorem fin_for {g : DG} {body : DS} {P : Fl → DEnv → Prop} {xs : List D} {env : DEnv} (I : Nat → DEnv → Prop) (h0 : I 0 env)
    (step : ∀ j x env, xs[j]? = some x → I j env → ∃ env1, g x env = some env1 ∧ Fin (body env1) fun fl e => Goes fl ∧ I (j + 1) e)
    (z : ∀ env, I xs.length env → P .nx env) : Fin (dFor g body xs env) P := by
  have h := @fin_for_D
  simp only [fin_eq, finF_eq] at h
  first | exact h | exact h (by assumption) | exact h (by assumption) (by assumption) | exact h _ (by assumption) (by assumption) (by assumption) | exact h _ _ _ _ (by assumption) (by assumption) (by assumption)
theorem fin_while {c : DT} {body : DS} {P : Fl → DEnv → Prop} (I : Nat → DEnv → Prop)
    (step : ∀ k env, I k env → Fin (c env) fun b e => if b = true then Fin (body e) (fun fl e2 => Goes fl ∧ ∃ k', k' < k ∧ I k' e2) else P .nx e) : ∀ (n k : Nat) (env : DEnv), k < n → I k env → Fin (dWhile c body n env) P := by
  have h := @fin_while_D
  simp only [fin_eq, finF_eq] at h
  first | exact h | exact h (by assumption) | exact h (by assumption) (by assumption) | exact h _ (by assumption) (by assumption) (by assumption) | exact h _ _ _ _ (by assumption) (by assumption) (by assumption)
theorem fin_comp {vs : List Nat} {it : DI} {g : DG} {e : DE} {env env1 : DEnv} {xs : List D} {P : Ent → DEnv → Prop} (hi : Fin (it env) fun ys e => ys = xs ∧ e = env1) (I : DEnv → Prop) (F : D → D) (h0 : I (wipeD env1 vs)) (hl : xs.length ≤ sizeLine)
    (step : ∀ x ∈ xs, ∀ env, I env → ∃ env1, g x env = some env1 ∧ Fin (e env1) fun r env2 => r.d = F x ∧ I (wipeD env2 vs))
    (z : ∀ env', I env' → P ⟨.own, .lst (xs.map F)⟩ (backD env1 env' vs)) : Fin (dComp vs it g dYes e env) P := by
  have h := @fin_comp_D
  simp only [fin_eq, finF_eq] at h
  exact h hi I F h0 hl step z

/-! ### positions -/
theorem atI_nat {α : Type} (xs : List α) (n : Nat) : atI xs (n : Int) = xs[n]? := by
  unfold atI ixN
  rw [if_pos (by omega)]
  by_cases h : n < xs.length
  · rw [if_pos (by omega)]
    simp
  · rw [if_neg (by omega)]
    simp at h
    simp [h]
theorem atI_last {α : Type} (xs : List α) (a : α) : atI (xs ++ [a]) (-1) = some a := by
  unfold atI ixN
  rw [if_neg (by omega), if_pos (by rw [List.length_append, List.length_singleton]; omega)]
  rw [List.length_append, List.length_singleton, Option.bind_some, show ((-1 : Int) + ((xs.length + 1 : Nat) : Int)).toNat = xs.length by omega]
  simp
@[simp] theorem atI_0 {α : Type} (xs : List α) : atI xs 0 = xs[0]? := atI_nat xs 0
@[simp] theorem atI_1 {α : Type} (xs : List α) : atI xs 1 = xs[1]? := atI_nat xs 1
@[simp] theorem atI_2 {α : Type} (xs : List α) : atI xs 2 = xs[2]? := atI_nat xs 2
@[simp] theorem atI_3 {α : Type} (xs : List α) : atI xs 3 = xs[3]? := atI_nat xs 3
theorem ixN_nat {n k : Nat} (h : k < n) : ixN n (k : Int) = some k := by
  unfold ixN
  rw [if_pos (by omega), if_pos (by omega)]
  simp
theorem ixN_0 {n : Nat} (h : 0 < n) : ixN n 0 = some 0 := ixN_nat h
theorem ixN_1 {n : Nat} (h : 1 < n) : ixN n 1 = some 1 := ixN_nat h
theorem ixN_2 {n : Nat} (h : 2 < n) : ixN n 2 = some 2 := ixN_nat h

/-! ### numbers in a row -/
def dNats (ns : List Nat) : List D := ns.map fun n => .int (n : Nat)
theorem mem_rngD {lo : Int} : ∀ {n : Nat} {d : D}, d ∈ rngD lo n → ∃ k : Int, d = .int k ∧ lo ≤ k ∧ k < lo + n
  | n + 1, d, h => by
    rcases List.mem_cons.mp h with rfl | h
    · exact ⟨lo, rfl, by omega, by omega⟩
    · obtain ⟨k, rfl, h1, h2⟩ := mem_rngD h
      exact ⟨k, rfl, by omega, by omega⟩

/-! ### values told equal, shown -/
theorem plains_nats : ∀ ns : List Nat, plains (dNats ns) = true
  | [] => by simp only [dNats, List.map_nil, plains]
  | n :: ns => by
    have := plains_nats ns
    simp only [dNats, List.map_cons, plains, plain, Bool.true_and] at *
    exact this
theorem toPs_nats : ∀ ns : List Nat, toPs (dNats ns) = ns.map fun n => PyData.int (n : Nat)
  | [] => by simp only [dNats, List.map_nil, toPs]
  | n :: ns => by
    have := toPs_nats ns
    simp only [dNats, List.map_cons, toPs, toP] at *
    rw [this]
theorem shaped_nats (ns : List Nat) : SeqAt.shaped (.tuple (ns.map fun n => PyData.int (n : Nat))) = true := by
  have h1 : ∀ ms : List Nat, PyData.canLayAll0 (ms.map fun n => PyData.int (n : Nat)) = true := fun ms => by
    induction ms with
    | nil => simp only [List.map_nil, PyData.canLayAll0]
    | cons m ms ih => simp only [List.map_cons, PyData.canLayAll0, PyData.canLay0, ih, Bool.and_self]
  have h2 : ∀ ms : List Nat, PyData.depthAll (ms.map fun n => PyData.int (n : Nat)) = 0 := fun ms => by
    induction ms with
    | nil => simp only [List.map_nil, PyData.depthAll]
    | cons m ms ih => simp only [List.map_cons, PyData.depthAll, PyData.depth, ih, Nat.max_self]
  simp only [SeqAt.shaped, PyData.canLay0, PyData.depth, h1, h2, Bool.true_and]
  decide
theorem okD_nats (ns : List Nat) : okD (.tup (dNats ns)) = true := by
  simp only [okD, plain, toP, plains_nats, toPs_nats, shaped_nats, Bool.and_self]
@[simp] theorem okD_int (i : Int) : okD (.int i) = true := by
  simp only [okD, plain, toP, SeqAt.shaped, PyData.canLay0, PyData.depth, Bool.true_and]
  decide
@[simp] theorem okD_bl (b : Bool) : okD (.bl b) = true := by
  simp only [okD, plain, toP, SeqAt.shaped, PyData.canLay0, PyData.depth, Bool.true_and]
  decide
@[simp] theorem okD_non : okD .non = true := by
  simp only [okD, plain, toP, SeqAt.shaped, PyData.canLay0, PyData.depth, Bool.true_and]
  decide
theorem strOk_of (s : String) : PyData.strOk (Str.ofString s) = true := by
  rw [Str.ofString_eq_toList]
  unfold PyData.strOk
  rw [Array.all_eq_true_iff_forall_mem]
  intro c hc
  simp only [List.mem_toArray, List.mem_map] at hc
  obtain ⟨ch, _, rfl⟩ := hc
  have h := ch.valid
  simp only [decide_eq_true_eq]
  have : ch.toNat < 0x110000 := by
    rcases h with h | ⟨_, h⟩
    · exact Nat.lt_trans h (by decide)
    · exact h
  exact this
theorem strOk_append {x y : Str} (h1 : PyData.strOk x = true) (h2 : PyData.strOk y = true) : PyData.strOk (x ++ y) = true := by
  show Array.all (x.cps ++ y.cps) _ = true
  rw [Array.all_append]
  exact Bool.and_eq_true_iff.mpr ⟨h1, h2⟩
theorem strOk_join {s : Str} (hs : PyData.strOk s = true) : ∀ ts : List Str, (∀ t ∈ ts, PyData.strOk t = true) → PyData.strOk (Str.join s ts) = true
  | [], _ => strOk_of ""
  | [x], h => h x (List.mem_cons_self ..)
  | x :: y :: r, h => strOk_append (strOk_append (h x (List.mem_cons_self ..)) hs) (strOk_join hs (y :: r) fun t ht => h t (List.mem_cons_of_mem _ ht))
theorem strOk_textFrom : ∀ (ts : List Str) (k : Nat) (acc : Str), PyData.strOk acc = true → (∀ t ∈ ts, PyData.strOk t = true) → PyData.strOk (textFrom k acc ts) = true
  | [], _, acc, h, _ => h
  | t :: ts, k, acc, h, ht => strOk_textFrom ts (k + 1) _ (strOk_append (strOk_append h (strOk_of _)) (ht t (List.mem_cons_self ..))) fun y hy => ht y (List.mem_cons_of_mem _ hy)
theorem strOk_listText {ts : List Str} (h : ∀ t ∈ ts, PyData.strOk t = true) : PyData.strOk (listText ts) = true := strOk_append (strOk_textFrom ts 0 _ (strOk_of _) h) (strOk_of _)
theorem strOk_tupleText {ts : List Str} (h : ∀ t ∈ ts, PyData.strOk t = true) : PyData.strOk (tupleText ts) = true := strOk_append (strOk_append (strOk_of _) (strOk_join (strOk_of _) ts h)) (strOk_of _)
mutual
/-- no strings in it -/
def noStr : PyData → Bool
  | .str _ => false
  | .list xs => noStrs xs
  | .tuple xs => noStrs xs
  | .dict _ => false
  | _ => true
def noStrs : List PyData → Bool
  | [] => true
  | x :: xs => noStr x && noStrs xs
end
mutual
theorem strOk_shown : ∀ d : PyData, noStr d = true → PyData.strOk d.shown = true
  | .none, _ => strOk_of _
  | .bool b, _ => by cases b <;> exact strOk_of _
  | .int i, _ => strOk_of _
  | .str x, h => by simp [noStr] at h
  | .list xs, h => strOk_listText (strOk_shownAll xs (by simpa [noStr] using h))
  | .tuple xs, h => strOk_tupleText (strOk_shownAll xs (by simpa [noStr] using h))
  | .dict _, h => by simp [noStr] at h
theorem strOk_shownAll : ∀ xs : List PyData, noStrs xs = true → ∀ t ∈ PyData.shownAll xs, PyData.strOk t = true
  | [], _ => fun t h => by simp [PyData.shownAll] at h
  | x :: xs, h => fun t ht => by
    simp only [noStrs, Bool.and_eq_true] at h
    simp only [PyData.shownAll, List.mem_cons] at ht
    rcases ht with rfl | ht
    · exact strOk_shown x h.1
    · exact strOk_shownAll xs h.2 t ht
end
theorem okD_str {x : Str} (h : PyData.strOk x = true) : okD (.str x) = true := by
  simp only [okD, plain, toP, SeqAt.shaped, PyData.canLay0, PyData.depth, Bool.true_and, h]
  decide
theorem noStrs_nats : ∀ ns : List Nat, noStrs (ns.map fun n => PyData.int (n : Nat)) = true
  | [] => rfl
  | n :: ns => by simp only [List.map_cons, noStrs, noStr, noStrs_nats ns, Bool.and_self]
theorem okS_nats (ns : List Nat) : okD (.str (toP (.tup (dNats ns))).shown) = true := okD_str (strOk_shown _ (by simp only [toP, toPs_nats, noStr]; exact noStrs_nats ns))
theorem okS_int (i : Int) : okD (.str (toP (.int i)).shown) = true := okD_str (strOk_shown _ rfl)
theorem okS_bl (i : Bool) : okD (.str (toP (.bl i)).shown) = true := okD_str (strOk_shown _ rfl)
theorem okS_non : okD (.str (toP .non).shown) = true := okD_str (strOk_shown _ rfl)
mutual
theorem eqv_self : ∀ d : PyData, PyData.hasDict d = false → PyData.eqv d d = true
  | .none, _ => by simp only [PyData.eqv]
  | .bool _, _ => by simp only [PyData.eqv, beq_self_eq_true]
  | .int _, _ => by simp only [PyData.eqv, beq_self_eq_true]
  | .str x, _ => by simp [PyData.eqv]
  | .list xs, h => by simp only [PyData.eqv]; exact eqvAll_self xs (by simpa only [PyData.hasDict] using h)
  | .tuple xs, h => by simp only [PyData.eqv]; exact eqvAll_self xs (by simpa only [PyData.hasDict] using h)
  | .dict _, h => by simp only [PyData.hasDict] at h; cases h
theorem eqvAll_self : ∀ xs : List PyData, PyData.hasDictAll xs = false → PyData.eqvAll xs xs = true
  | [], _ => by simp only [PyData.eqvAll]
  | x :: xs, h => by
    simp only [PyData.hasDictAll, Bool.or_eq_false_iff] at h
    simp only [PyData.eqvAll, eqv_self x h.1, eqvAll_self xs h.2, Bool.and_self]
end
theorem deq_self {d : D} (h : okD d = true) : deq d d = true := by
  simp only [okD, Bool.and_eq_true] at h
  exact eqv_self _ (PyData.hasDict_of_canLay _ (SeqAt.canLay_of_shaped h.2))
/-- a number of at most twelve digits -/
def twelve (n : Nat) : Prop := n ≤ 999999999999
theorem log_small {n : Nat} (h : twelve n) : n.log2 < 1920 := by
  unfold twelve at h
  by_cases h0 : n = 0
  · subst h0; decide
  · exact (Nat.log2_lt h0).mpr (Nat.lt_of_le_of_lt h (by decide))
theorem showAll_nats (ns : List Nat) (h : ∀ n ∈ ns, twelve n) : PyData.showableAll (ns.map fun n => PyData.int (n : Nat)) = true := by
  induction ns with
  | nil => simp only [List.map_nil, PyData.showableAll]
  | cons n ns ih =>
    simp only [List.map_cons, PyData.showableAll, ih fun m hm => h m (List.mem_cons_of_mem _ hm), PyData.showable, Bool.and_true, decide_eq_true_eq, Int.natAbs_natCast]
    exact log_small (h n (List.mem_cons_self ..))
theorem okR_nats {ns : List Nat} (h : ∀ n ∈ ns, twelve n) (hl : ns.length ≤ 4096) : okR (.tup (dNats ns)) = true := by
  have k := okD_nats ns
  simp only [okD, Bool.and_eq_true] at k
  simp only [okR, k, Bool.true_and, Bool.and_eq_true, decide_eq_true_eq]
  refine ⟨by simp only [toP, toPs_nats, PyData.showable]; exact showAll_nats ns h, ?_⟩
  simp only [toP, toPs_nats, PyData.shown]
  refine Nat.le_trans (tupleText_len_le _) ?_
  have e : ∀ ms : List Nat, (∀ n ∈ ms, twelve n) → ((PyData.shownAll (ms.map fun n => PyData.int (n : Nat))).map (·.length)).sum ≤ 13 * ms.length ∧ (PyData.shownAll (ms.map fun n => PyData.int (n : Nat))).length = ms.length := fun ms hm => by
    induction ms with
    | nil => simp [PyData.shownAll]
    | cons m ms ih =>
      obtain ⟨i1, i2⟩ := ih fun x hx => hm x (List.mem_cons_of_mem _ hx)
      have q := hm m (List.mem_cons_self ..)
      unfold twelve at q
      have b := PyData.shown_int_le2 (i := (m : Int)) (by omega) (by omega)
      simp only [List.map_cons, PyData.shownAll, List.sum_cons, List.length_cons]
      omega
  obtain ⟨e1, e2⟩ := e ns h
  rw [e2, sizeLine_eq]
  omega
theorem okR_nat {n : Nat} (h : twelve n) : okR (.int n) = true := by
  have k := okD_int (n : Nat)
  simp only [okD, Bool.and_eq_true] at k
  simp only [okR, k, Bool.true_and, Bool.and_eq_true, decide_eq_true_eq]
  refine ⟨by simp only [toP, PyData.showable, Int.natAbs_natCast, decide_eq_true_eq]; exact log_small h, ?_⟩
  unfold twelve at h
  have b := PyData.shown_int_le2 (i := (n : Int)) (by omega) (by omega)
  simp only [toP]
  rw [sizeLine_eq]
  omega
theorem okR_bl (b : Bool) : okR (.bl b) = true := by
  have k := okD_bl b
  simp only [okD, Bool.and_eq_true] at k
  simp only [okR, k, Bool.true_and, Bool.and_eq_true, decide_eq_true_eq]
  cases b <;> exact ⟨by simp only [toP, PyData.showable], by simp only [toP]; rw [sizeLine_eq]; decide⟩
theorem okR_non : okR .non = true := by
  have k := okD_non
  simp only [okD, Bool.and_eq_true] at k
  simp only [okR, k, Bool.true_and, Bool.and_eq_true, decide_eq_true_eq]
  exact ⟨by simp only [toP, PyData.showable], by simp only [toP]; rw [sizeLine_eq]; decide⟩
theorem sm62 {i : Int} (h0 : -1000000 ≤ i) (h1 : i ≤ 1000000) : small62 i = true := by
  simp only [small62, Bool.and_eq_true, decide_eq_true_eq]
  omega
theorem rng2_eq {i j : Int} (h1 : small62 i = true) (h2 : small62 j = true) : rng2 [.int i, .int j] = some (rngD i (j - i).toNat) := by
  simp only [rng2]
  rw [if_pos h1, if_pos h2]
theorem rng1_eq {j : Int} (h2 : small62 j = true) : rng1 [.int j] = some (rngD 0 j.toNat) := by
  simp only [rng1]
  rw [if_pos h2]
end DL
/-! DM2: reckoning with the new pieces; loops that end early; comprehensions over mapped lists. -/
namespace DL
open PySem PySem.Spec PyProof.Rows L2
section
variable (a b : Int) (xs ys : List D) (d e : D)
@[simp] theorem p_abs : pAbs [.int a] = some (.d (.int (if a < 0 then -a else a))) := id rfl
@[simp] theorem p_band : pBand [.int a, .int b] = some (.d (.int (Builtin.bitAnd a b))) := id rfl
@[simp] theorem p_rg2 : pRg2 [.int a, .int b] = some (.d (.rng a b)) := id rfl
@[simp] theorem p_lstRg1 : pLstRg1 [.int a] = if rgOk 0 a = true then some (.nl (rngD 0 a.toNat)) else none := id rfl
@[simp] theorem p_cnt : pCnt xs [d] = if (okD (.tup xs) && okD d) = true then some (.int (xs.countP fun y => deq y d : Nat)) else none := id rfl
@[simp] theorem isNonD_pr : isNonD (.pr d e) = false := id rfl
@[simp] theorem gs_nilE (env : DEnv) : gsNil [] env = some env := id rfl
@[simp] theorem gs_consE (g : DG) (h : List D → DEnv → Option DEnv) (env : DEnv) : gsCons g h (d :: xs) env = (g d env).bind (h xs) := id rfl
@[simp] theorem g_pr (m : List D → DEnv → Option DEnv) (env : DEnv) : gTupD 2 m (.pr d e) env = m [d, e] env := id rfl
theorem g_tupE (n : Nat) (m : List D → DEnv → Option DEnv) (env : DEnv) (h : xs.length = n) : gTupD n m (.tup xs) env = m xs env := by
  simp only [gTupD, if_pos h]
@[simp] theorem g_tup2 (m : List D → DEnv → Option DEnv) (env : DEnv) : gTupD 2 m (.tup [d, e]) env = m [d, e] env := id rfl
@[simp] theorem g_tup3 (f : D) (m : List D → DEnv → Option DEnv) (env : DEnv) : gTupD 3 m (.tup [d, e, f]) env = m [d, e, f] env := id rfl
@[simp] theorem g_setE (i : Nat) (env : DEnv) : gSet i d env = some (env.set i (some ⟨.shr, d⟩)) := id rfl
end
def tupOfO (o : Option (Option Ent)) (env : DEnv) : R (List D) := match o with
  | some (some (Ent.mk Md.shr (.tup d))) => .ok d env
  | _ => .bad
def intOfO (o : Option (Option Ent)) (env : DEnv) : R Int := match o with
  | some (some (Ent.mk Md.shr (.int d))) => .ok d env
  | _ => .bad
def intOfE (r : Ent) (env : DEnv) : R Int := match r with
  | ⟨.shr, .int b⟩ => .ok b env
  | _ => .bad
def intOfD (o : Option D) (env : DEnv) : R Int := match o with
  | some (.int d) => .ok d env
  | _ => .bad
def lstOfD (o : D) (env : DEnv) : R (List D) := match o with
  | .lst d => .ok d env
  | _ => .bad
def rngOfD (o : D) (env : DEnv) : R (Int × Int) := match o with
  | .rng lo hi => .ok (lo, hi) env
  | _ => .bad
section
variable {env : DEnv} {PF : Fl → DEnv → Prop} {PE : Ent → DEnv → Prop} {PL : List D → DEnv → Prop} {PI : Int → DEnv → Prop}
theorem fin_tupOfO_D {d : List D} : FinD (tupOfO (some (some ⟨.shr, .tup d⟩)) env) PL ↔ PL d env := ⟨id, id⟩
theorem fin_intOfO_D {d : Int} : FinD (intOfO (some (some ⟨.shr, .int d⟩)) env) PI ↔ PI d env := ⟨id, id⟩
theorem fin_intOfE_D {d : Int} : FinD (intOfE ⟨.shr, .int d⟩ env) PI ↔ PI d env := ⟨id, id⟩
theorem fin_intOfD_D {d : Int} : FinD (intOfD (some (.int d)) env) PI ↔ PI d env := ⟨id, id⟩
theorem fin_lstOfD_D {d : List D} : FinD (lstOfD (.lst d) env) PL ↔ PL d env := ⟨id, id⟩
theorem fin_rngOfD_D {lo hi : Int} {P : Int × Int → DEnv → Prop} : FinD (rngOfD (.rng lo hi) env) P ↔ P (lo, hi) env := ⟨id, id⟩
theorem augP_eq {i : Nat} {f : Int → Int → Option Int} {m : DE} : dAugP i f m env = (intOfO env[i]? env).bind fun a e => (m e).bind fun r e => (intOfE r e).bind fun b e => (resA (f a b) e).bind fun c e => .ok .nx (e.set i (some ⟨.shr, .int c⟩)) := by
  unfold dAugP intOfO
  rcases env[i]? with _ | (_ | ⟨md, d⟩)
  · rfl
  · rfl
  · cases md with
    | shr =>
      cases d with
      | int a =>
        simp only [bind_ok]
        congr 1
        funext r e
        obtain ⟨md, d⟩ := r
        cases md with
        | shr =>
          cases d with
          | int b =>
            show (match f a b with
              | some c => R.ok Fl.nx (e.set i (some ⟨.shr, .int c⟩))
              | none => R.bad) = (resA (f a b) e).bind fun c e => R.ok Fl.nx (e.set i (some ⟨.shr, .int c⟩))
            generalize f a b = o
            cases o <;> rfl
          | _ => rfl
        | _ => rfl
      | _ => rfl
    | _ => rfl
theorem aug_eq {i : Nat} {f : Int → Int → Int} {m : DE} : dAug i f m env = (intOfO env[i]? env).bind fun a e => (m e).bind fun r e => (intOfE r e).bind fun b e => .ok .nx (e.set i (some ⟨.shr, .int (f a b)⟩)) := by
  unfold dAug intOfO
  rcases env[i]? with _ | (_ | ⟨md, d⟩)
  · rfl
  · rfl
  · cases md with
    | shr =>
      cases d with
      | int a =>
        simp only [bind_ok]
        congr 1
        funext r e
        obtain ⟨md, d⟩ := r
        cases md with
        | shr => cases d <;> rfl
        | _ => rfl
      | _ => rfl
    | _ => rfl
theorem augL_eq {i : Nat} {m : DE} : dAugL i m env = (ownL env[i]? env).bind fun _ e => (m e).bind fun r e => (lstOfD r.d e).bind fun ys e => (ownL e[i]? e).bind fun xs e => if xs.length + ys.length ≤ sizeLine then .ok .nx (e.set i (some ⟨.own, .lst (xs ++ ys)⟩)) else .bad := by
  unfold dAugL ownL
  rcases env[i]? with _ | (_ | ⟨md, d⟩)
  · rfl
  · rfl
  · cases md with
    | own =>
      cases d with
      | lst l0 =>
        simp only [bind_ok]
        congr 1
        funext r e
        obtain ⟨md2, d2⟩ := r
        cases d2 with
        | lst ys =>
          show _ = R.bind (match e[i]? with
            | some (some (Ent.mk Md.own (.lst d))) => .ok d e
            | _ => .bad) _
          rcases e[i]? with _ | (_ | ⟨md3, d3⟩)
          · rfl
          · rfl
          · cases md3 with
            | own => cases d3 <;> rfl
            | _ => rfl
        | _ => rfl
      | _ => rfl
    | _ => rfl
theorem augIx_eq {i : Nat} {k n : Int} : dAugIx i k n env = (ownL env[i]? env).bind fun xs e => (resA (ixN xs.length k) e).bind fun j e => (intOfD xs[j]? e).bind fun a e => .ok .nx (e.set i (some ⟨.own, .lst (xs.set j (.int (a + n)))⟩)) := by
  unfold dAugIx ownL
  rcases env[i]? with _ | (_ | ⟨md, d⟩)
  · rfl
  · rfl
  · cases md with
    | own =>
      cases d with
      | lst l0 =>
        simp only [bind_ok]
        unfold resA
        cases ixN l0.length k with
        | none => rfl
        | some j =>
          simp only [bind_ok]
          unfold intOfD
          rcases l0[j]? with _ | d
          · rfl
          · cases d <;> rfl
      | _ => rfl
    | _ => rfl
theorem count_eq {i : Nat} {os : List Opd} : dCount i os env = (tupOfO env[i]? env).bind fun xs e => (evOs os e).bind fun avs e => (resA (getAVs e avs) e).bind fun ds e => (resA (pCnt xs ds) e).bind fun d e => .ok ⟨.shr, d⟩ e := by
  unfold dCount tupOfO
  rcases env[i]? with _ | (_ | ⟨md, d⟩)
  · rfl
  · rfl
  · cases md with
    | shr =>
      cases d with
      | tup xs =>
        simp only [bind_ok]
        congr 1
        funext avs e
        unfold resA
        cases getAVs e avs with
        | none => rfl
        | some ds =>
          simp only [bind_ok]
          cases pCnt xs ds <;> rfl
      | _ => rfl
    | _ => rfl
theorem iRng_eq {m : DE} : iRng m env = (m env).bind fun r e => (rngOfD r.d e).bind fun p e => if small62 p.1 = true then (if small62 p.2 = true then .ok (rngD p.1 (p.2 - p.1).toNat) e else .bad) else .bad := by
  unfold iRng
  congr 1
  funext r e
  obtain ⟨md, d⟩ := r
  cases d <;> rfl
@[simp] theorem fin_tupOfO {d : List D} : Fin (tupOfO (some (some ⟨.shr, .tup d⟩)) env) PL ↔ PL d env := by
  have h := @fin_tupOfO_D
  simp only [fin_eq] at h
  exact h
@[simp] theorem fin_intOfO {d : Int} : Fin (intOfO (some (some ⟨.shr, .int d⟩)) env) PI ↔ PI d env := by
  have h := @fin_intOfO_D
  simp only [fin_eq] at h
  exact h
@[simp] theorem fin_intOfE {d : Int} : Fin (intOfE ⟨.shr, .int d⟩ env) PI ↔ PI d env := by
  have h := @fin_intOfE_D
  simp only [fin_eq] at h
  exact h
@[simp] theorem fin_intOfD {d : Int} : Fin (intOfD (some (.int d)) env) PI ↔ PI d env := by
  have h := @fin_intOfD_D
  simp only [fin_eq] at h
  exact h
@[simp] theorem fin_lstOfD {d : List D} : Fin (lstOfD (.lst d) env) PL ↔ PL d env := by
  have h := @fin_lstOfD_D
  simp only [fin_eq] at h
  exact h
@[simp] theorem fin_rngOfD {lo hi : Int} {P : Int × Int → DEnv → Prop} : Fin (rngOfD (.rng lo hi) env) P ↔ P (lo, hi) env := by
  have h := @fin_rngOfD_D
  simp only [fin_eq] at h
  exact h
@[simp ↓] theorem fin_augP {i : Nat} {f : Int → Int → Option Int} {m : DE} : Fin (dAugP i f m env) PF ↔ Fin (intOfO env[i]? env) fun a e => Fin (m e) fun r e => Fin (intOfE r e) fun b e => Fin (resA (f a b) e) fun c e => PF .nx (e.set i (some ⟨.shr, .int c⟩)) := by
  rw [augP_eq]; simp only [fin_bind, fin_ok]
@[simp ↓] theorem fin_aug {i : Nat} {f : Int → Int → Int} {m : DE} : Fin (dAug i f m env) PF ↔ Fin (intOfO env[i]? env) fun a e => Fin (m e) fun r e => Fin (intOfE r e) fun b e => PF .nx (e.set i (some ⟨.shr, .int (f a b)⟩)) := by
  rw [aug_eq]; simp only [fin_bind, fin_ok]
@[simp ↓] theorem fin_augL {i : Nat} {m : DE} : Fin (dAugL i m env) PF ↔ Fin (ownL env[i]? env) fun _ e => Fin (m e) fun r e => Fin (lstOfD r.d e) fun ys e => Fin (ownL e[i]? e) fun xs e => Fin (if xs.length + ys.length ≤ sizeLine then R.ok Fl.nx (e.set i (some ⟨.own, .lst (xs ++ ys)⟩)) else .bad) PF := by
  rw [augL_eq]; simp only [fin_bind]
@[simp ↓] theorem fin_augIx {i : Nat} {k n : Int} : Fin (dAugIx i k n env) PF ↔ Fin (ownL env[i]? env) fun xs e => Fin (resA (ixN xs.length k) e) fun j e => Fin (intOfD xs[j]? e) fun a e => PF .nx (e.set i (some ⟨.own, .lst (xs.set j (.int (a + n)))⟩)) := by
  rw [augIx_eq]; simp only [fin_bind, fin_ok]
@[simp ↓] theorem fin_count {i : Nat} {os : List Opd} : Fin (dCount i os env) PE ↔ Fin (tupOfO env[i]? env) fun xs e => Fin (evOs os e) fun avs e => Fin (resA (getAVs e avs) e) fun ds e => Fin (resA (pCnt xs ds) e) fun d e => PE ⟨.shr, d⟩ e := by
  rw [count_eq]; simp only [fin_bind, fin_ok]
@[simp ↓] theorem fin_iRng {m : DE} : Fin (iRng m env) PL ↔ Fin (m env) fun r e => Fin (rngOfD r.d e) fun p e => Fin (if small62 p.1 = true then (if small62 p.2 = true then R.ok (rngD p.1 (p.2 - p.1).toNat) e else .bad) else .bad) PL := by
  rw [iRng_eq]; simp only [fin_bind]
end
@[simp ↓] theorem fin_asg {g : DG} {m : DE} {env : DEnv} {PF : Fl → DEnv → Prop} : Fin (dAsg g m env) PF ↔ Fin (m env) fun r e => ∃ e2, g r.d e = some e2 ∧ PF .nx e2 := by
  unfold dAsg
  rw [fin_bind]
  have key : ∀ (r : Ent) (e : DEnv), Fin (match g r.d e with
    | some env2 => R.ok Fl.nx env2
    | none => .bad) PF ↔ ∃ e2, g r.d e = some e2 ∧ PF .nx e2 := fun r e => by
    cases g r.d e with
    | none => simp
    | some e2 => simp
  exact ⟨fun h => h.mono fun a e k => (key a e).mp k, fun h => h.mono fun a e k => (key a e).mpr k⟩
@[simp] theorem goes_ret {r : Ent} : Goes (.ret r) ↔ False := Iff.rfl
@[simp] theorem goes_brk : Goes .brk ↔ False := Iff.rfl
/-- a turn that ends the loop -/
def Outs (P : Fl → DEnv → Prop) : Fl → DEnv → Prop
  | .ret r, e => P (.ret r) e
  | .brk, e => P .nx e
  | _, _ => False
@[simp] theorem outs_ret {P : Fl → DEnv → Prop} {r : Ent} {e : DEnv} : Outs P (.ret r) e ↔ P (.ret r) e := Iff.rfl
@[simp] theorem outs_brk {P : Fl → DEnv → Prop} {e : DEnv} : Outs P .brk e ↔ P .nx e := Iff.rfl
@[simp] theorem outs_nx {P : Fl → DEnv → Prop} {e : DEnv} : Outs P .nx e ↔ False := Iff.rfl
@[simp] theorem outs_cnt {P : Fl → DEnv → Prop} {e : DEnv} : Outs P .cnt e ↔ False := Iff.rfl
/-- a loop that may end early; I by what is left of the list -/
theorem fin_forL {g : DG} {body : DS} {P : Fl → DEnv → Prop} {α : Type} (G : α → D) (I : List α → DEnv → Prop) : ∀ (xs : List α) (env : DEnv), I xs env →
    (∀ x rest env, I (x :: rest) env → ∃ env1, g (G x) env = some env1 ∧ Fin (body env1) fun fl e => (Goes fl ∧ I rest e) ∨ Outs P fl e) →
    (∀ env, I [] env → P .nx env) → Fin (dFor g body (xs.map G) env) P
  | [], env, h, _, z => fin_iff.mpr ⟨_, _, rfl, z env h⟩
  | x :: xs, env, h, step, z => by
    obtain ⟨env1, e1, h1⟩ := step x xs env h
    obtain ⟨fl, e2, q1, q2⟩ := fin_iff.mp h1
    have go : ∀ e, I xs e → Fin (dFor g body (xs.map G) e) P := fun e he => fin_forL G I xs e he step z
    rw [List.map_cons, dFor, e1]
    simp only [q1]
    rcases q2 with ⟨k1, k2⟩ | k
    · cases fl with
      | nx => exact go e2 k2
      | cnt => exact go e2 k2
      | brk => exact k1.elim
      | ret r => exact k1.elim
    · cases fl with
      | nx => exact k.elim
      | cnt => exact k.elim
      | brk => exact fin_iff.mpr ⟨_, _, rfl, k⟩
      | ret r => exact fin_iff.mpr ⟨_, _, rfl, k⟩
theorem dLoop_M {α : Type} {vs : List Nat} {g : DG} {c : DT} {e : DE} {E : DEnv} (G : α → D) (p : α → Bool) (F : α → D) : ∀ (ys : List α) (acc : List D), acc.length + ys.length ≤ sizeLine →
    (∀ y ∈ ys, ∃ env1, g (G y) E = some env1 ∧ Fin (c env1) fun b e2 => b = p y ∧ (if p y = true then Fin (e e2) fun r e3 => r.d = F y ∧ wipeD e3 vs = E else wipeD e2 vs = E)) →
    dLoop vs g c e (ys.map G) acc E = .ok (acc ++ (ys.filter p).map F) E
  | [], acc, _, _ => by simp [dLoop]
  | y :: ys, acc, hl, step => by
    obtain ⟨env1, e1, hc⟩ := step y (List.mem_cons_self ..)
    obtain ⟨b, e2, q1, q2, q3⟩ := fin_iff.mp hc
    rw [List.length_cons] at hl
    have st : ∀ z ∈ ys, _ := fun z hz => step z (List.mem_cons_of_mem _ hz)
    rw [List.map_cons, dLoop, e1]
    subst q2
    cases hp : p y with
    | true =>
      rw [hp, if_pos rfl] at q3
      rw [hp] at q1
      obtain ⟨r, e3, q4, q5, q6⟩ := fin_iff.mp q3
      simp only [q1, q4]
      rw [if_pos (by omega), q5, q6, dLoop_M G p F ys (acc ++ [F y]) (by rw [List.length_append, List.length_singleton]; omega) st, List.filter_cons, if_pos hp, List.map_cons, List.append_assoc]
      rfl
    | false =>
      rw [hp, if_neg (by simp)] at q3
      rw [hp] at q1
      simp only [q1]
      rw [q3, dLoop_M G p F ys acc (by omega) st, List.filter_cons, if_neg (by rw [hp]; simp)]
/-- a comprehension over a mapped list -/
theorem fin_compM {α : Type} {vs : List Nat} {it : DI} {g : DG} {c : DT} {e : DE} {env : DEnv} {P : Ent → DEnv → Prop} (env1 : DEnv) (G : α → D) (p : α → Bool) (F : α → D) (ys : List α) (hi : Fin (it env) fun xs e => xs = ys.map G ∧ e = env1) (hl : ys.length ≤ sizeLine)
    (step : ∀ y ∈ ys, ∃ env2, g (G y) (wipeD env1 vs) = some env2 ∧ Fin (c env2) fun b e2 => b = p y ∧ (if p y = true then Fin (e e2) fun r e3 => r.d = F y ∧ wipeD e3 vs = wipeD env1 vs else wipeD e2 vs = wipeD env1 vs))
    (z : P ⟨.own, .lst ((ys.filter p).map F)⟩ (backD env1 (wipeD env1 vs) vs)) : Fin (dComp vs it g c e env) P := by
  have e1 := dLoop_M (g := g) (c := c) (e := e) (vs := vs) (E := wipeD env1 vs) G p F ys [] (by simpa using hl) step
  obtain ⟨ys', e2, hi1, rfl, rfl⟩ := fin_iff.mp hi
  refine fin_iff.mpr ⟨_, _, ?_, z⟩
  unfold dComp
  rw [hi1, bind_ok, e1]
  rfl
/-- the same without a condition -/
theorem fin_compN {α : Type} {vs : List Nat} {it : DI} {g : DG} {e : DE} {env : DEnv} {P : Ent → DEnv → Prop} (env1 : DEnv) (G : α → D) (F : α → D) (ys : List α) (hi : Fin (it env) fun xs e => xs = ys.map G ∧ e = env1) (hl : ys.length ≤ sizeLine)
    (step : ∀ y ∈ ys, ∃ env2, g (G y) (wipeD env1 vs) = some env2 ∧ Fin (e env2) fun r e3 => r.d = F y ∧ wipeD e3 vs = wipeD env1 vs)
    (z : P ⟨.own, .lst (ys.map F)⟩ (backD env1 (wipeD env1 vs) vs)) : Fin (dComp vs it g dYes e env) P := by
  refine fin_compM env1 G (fun _ => true) F ys hi hl (fun y hy => ?_) ?_
  · obtain ⟨env2, h1, h2⟩ := step y hy
    refine ⟨env2, h1, ?_⟩
    simp only [fin_yes, if_true]
    exact ⟨trivial, h2⟩
  · rw [List.filter_eq_self.mpr fun _ _ => rfl]
    exact z
theorem rngD_map (lo : Int) : ∀ n : Nat, rngD lo n = (List.range n).map fun (i : Nat) => D.int (lo + (i : Nat))
  | 0 => rfl
  | n + 1 => by
    rw [rngD, List.range_succ_eq_map, List.map_cons, List.map_map, rngD_map (lo + 1) n]
    congr 1
    · simp
    · apply List.map_congr_left
      intro i _
      show D.int (lo + 1 + (i : Nat)) = D.int (lo + ((i + 1 : Nat) : Int))
      congr 1
      omega
theorem rngD0 (n : Nat) : rngD 0 n = (List.range n).map fun (i : Nat) => D.int (i : Nat) := by
  rw [rngD_map]
  apply List.map_congr_left
  intro i _
  simp
theorem enumD_map (k : Nat) (xs : List D) : enumD k xs = (xs.zipIdx k).map fun (p : D × Nat) => D.pr (.int (p.2 : Nat)) p.1 := by
  induction xs generalizing k with
  | nil => rfl
  | cons x xs ih => rw [enumD, List.zipIdx_cons, List.map_cons, ih]
end DL
namespace DL
open PySem PySem.Spec PyProof.Rows L2
def lstOfO (o : Option (Option Ent)) (env : DEnv) : R (List D) := match o with
  | some (some (Ent.mk _ (.lst d))) => .ok d env
  | _ => .bad
section
variable {env : DEnv} {PE : Ent → DEnv → Prop} {PL : List D → DEnv → Prop}
theorem index_eq {i : Nat} {os : List Opd} : dIndex i os env = (lstOfO env[i]? env).bind fun _ e => (evOs os e).bind fun avs e => (lstOfO e[i]? e).bind fun xs e => (resA (getAVs e avs) e).bind fun ds e => (resA (pIdx xs ds) e).bind fun d e => .ok ⟨.shr, d⟩ e := by
  unfold dIndex lstOfO
  rcases env[i]? with _ | (_ | ⟨md, d⟩)
  · rfl
  · rfl
  · cases d with
    | lst xs =>
      simp only [bind_ok]
      congr 1
      funext avs e
      unfold resA
      rcases e[i]? with _ | (_ | ⟨md2, d2⟩)
      · rfl
      · rfl
      · cases d2 with
        | lst ys =>
          simp only [bind_ok]
          cases getAVs e avs with
          | none => rfl
          | some ds =>
            simp only [bind_ok]
            cases pIdx ys ds <;> rfl
        | _ => rfl
    | _ => rfl
theorem fin_lstOfO_D {md : Md} {d : List D} : FinD (lstOfO (some (some ⟨md, .lst d⟩)) env) PL ↔ PL d env := ⟨id, id⟩
@[simp] theorem fin_lstOfO {md : Md} {d : List D} : Fin (lstOfO (some (some ⟨md, .lst d⟩)) env) PL ↔ PL d env := by
  have h := @fin_lstOfO_D
  simp only [fin_eq] at h
  exact h
@[simp ↓] theorem fin_index {i : Nat} {os : List Opd} : Fin (dIndex i os env) PE ↔ Fin (lstOfO env[i]? env) fun _ e => Fin (evOs os e) fun avs e => Fin (lstOfO e[i]? e) fun xs e => Fin (resA (getAVs e avs) e) fun ds e => Fin (resA (pIdx xs ds) e) fun d e => PE ⟨.shr, d⟩ e := by
  rw [index_eq]; simp only [fin_bind, fin_ok]
end
end DL
namespace DL
open PySem PySem.Spec PyProof.Rows L2
section
variable {env : DEnv} {PL : List D → DEnv → Prop}
def strR (r : Ent) (e : DEnv) : R (List D) := match r.d with
  | .str z => .ok (signsD z) e
  | _ => .bad
theorem fin_strR_D {md : Md} {z : Str} : FinD (strR ⟨md, .str z⟩ env) PL ↔ PL (signsD z) env := ⟨id, id⟩
@[simp] theorem fin_strR {md : Md} {z : Str} : Fin (strR ⟨md, .str z⟩ env) PL ↔ PL (signsD z) env := by
  have h := @fin_strR_D
  simp only [fin_eq, finF_eq] at h
  first | exact h | exact h ..
@[simp ↓] theorem fin_iStrD {m : DE} : Fin (iStrD m env) PL ↔ Fin (m env) fun r e => Fin (strR r e) PL := by
  unfold iStrD
  exact fin_bind
end
end DL
/-! DM6: reckoning with errors. -/
namespace DL
open PySem PySem.Spec PyProof.Rows L2
def Er {α : Type} (r : R α) (Q : Xc → DEnv → Prop) : Prop := match r with
  | .err x e => Q x e
  | _ => False
section
variable {env : DEnv} {Q : Xc → DEnv → Prop}
theorem er_seq1 {a b : DS} (h : Er (a env) Q) : Er (dSeq a b env) Q := by
  unfold dSeq
  cases q : a env with
  | ok fl e => rw [q] at h; exact h.elim
  | err x e => rw [q] at h; exact h
  | bad => rw [q] at h; exact h.elim
theorem er_seq2 {a b : DS} (h : Fin (a env) fun fl e => fl = .nx ∧ Er (b e) Q) : Er (dSeq a b env) Q := by
  obtain ⟨fl, e, h1, rfl, h2⟩ := fin_iff.mp h
  unfold dSeq
  rw [h1]
  exact h2
theorem er_bind {α β : Type} {r : R α} {f : α → DEnv → R β} (h : Er r Q) : Er (r.bind f) Q := by
  cases r with
  | ok a e => exact h.elim
  | err x e => exact h
  | bad => exact h.elim
theorem er_drop {m : DE} (h : Er (m env) Q) : Er (dDrop m env) Q := er_bind h
theorem er_set {i : Nat} {m : DE} (h : Er (m env) Q) : Er (dSet i m env) Q := er_bind h
theorem er_ret {m : DE} (h : Er (m env) Q) : Er (dRet m env) Q := er_bind h
theorem er_if {c : DT} {a b : DS} (h : Fin (c env) fun k e => Er ((if k = true then a else b) e) Q) : Er (dIfS c a b env) Q := by
  obtain ⟨k, e, h1, h2⟩ := fin_iff.mp h
  unfold dIfS
  rw [h1]
  show Er (if k = true then a e else b e) Q
  cases k <;> exact h2
theorem er_raise {c : Str} (h : Q ⟨c, []⟩ env) : Er (dRaise c env) Q := h
theorem er_call {f : DFn} {os : List Opd} (h : Fin (evOs os env) fun avs e => Fin (resA (getAVs e avs) e) fun ds e => ∃ x o, f (shrs ds) = .err x o ∧ Q x e) : Er (dCall f os env) Q := by
  obtain ⟨avs, e, h1, h2⟩ := fin_iff.mp h
  obtain ⟨ds, e', h3, x, o, h4, h5⟩ := fin_iff.mp h2
  unfold dCall
  rw [h1]
  unfold resA at h3
  cases q : getAVs e avs with
  | none => rw [q] at h3; cases h3
  | some ds' =>
    rw [q] at h3
    cases h3
    show Er (match getAVs e avs with | some ds => afterC e (f (shrs ds)) | none => .bad) Q
    rw [q]
    show Er (afterC e (f (shrs ds))) Q
    rw [h4]
    exact h5
theorem er_def {n ns : Nat} {body : DS} {args : List Ent} {x : Xc} (hn : args.length = n) (h : Er (body (args.map some ++ List.replicate (ns - n) none)) fun y _ => y = x) : dDef false n ns body args = .err x .non := by
  unfold dDef
  rw [if_pos hn]
  cases q : body (args.map some ++ List.replicate (ns - n) none) with
  | ok fl e => rw [q] at h; exact h.elim
  | err y e => rw [q] at h; cases h; rfl
  | bad => rw [q] at h; exact h.elim
theorem fin_tryE {ok : List Str} {i j : Nat} {body : DS} {P : Fl → DEnv → Prop} (h : Er (body env) fun x e => ok.contains x.c = true ∧ i < e.length ∧ j < e.length ∧ P .nx ((e.set i none).set j (some ⟨.shr, .exc x.c []⟩))) : Fin (dTry ok i j body env) P := by
  unfold dTry
  cases q : body env with
  | ok fl e => rw [q] at h; exact h.elim
  | bad => rw [q] at h; exact h.elim
  | err x e =>
    rw [q] at h
    obtain ⟨h1, h2, h3, h4⟩ := h
    refine fin_iff.mpr ⟨.nx, _, ?_, h4⟩
    show (if _ then _ else _) = _
    rw [if_pos ⟨h1, h2, h3⟩]
theorem fin_tryN {ok : List Str} {i j : Nat} {body : DS} {P : Fl → DEnv → Prop} (h : Fin (body env) P) : Fin (dTry ok i j body env) P := by
  obtain ⟨fl, e, h1, h2⟩ := fin_iff.mp h
  unfold dTry
  rw [h1]
  exact fin_iff.mpr ⟨fl, e, rfl, h2⟩
end
@[simp] theorem isNonD_exc (c : Str) (fs : List D) : isNonD (.exc c fs) = false := rfl
@[simp] theorem p_isO (R : List Str) (y : Str) (all : Bool) (c : Str) (fs : List D) : pIsO R y all [.exc c fs] = if R.contains c = true then some (.d (.bl (all || c == y))) else none := id rfl
end DL
namespace My
open PySem PySem.Spec PyProof.Rows L2 DL
@[simp] theorem deq_int (a b : Int) : deq (.int a) (.int b) = decide (a = b) := by
  simp only [deq, toP, PyData.eqv]
  rfl
@[simp] theorem pEq_int (a b : Int) : pEq [.int a, .int b] = some (.d (.bl (decide (a = b)))) := by simp [pEq]
@[simp] theorem pNe_int (a b : Int) : pNe [.int a, .int b] = some (.d (.bl (!decide (a = b)))) := by simp [pNe]
theorem log_le {x : Int} {k : Nat} (h0 : 0 ≤ x) (h : x < 2 ^ k) (hk : 0 < k) : x.natAbs.log2 < k := by
  by_cases hx : x.natAbs = 0
  · rw [hx]; simpa using hk
  · refine (Nat.log2_lt hx).mpr ?_
    have e : ((x.natAbs : Nat) : Int) = x := Int.natAbs_of_nonneg h0
    have : ((x.natAbs : Nat) : Int) < ((2 ^ k : Nat) : Int) := by rw [e]; simpa using h
    exact Int.ofNat_lt.mp this
theorem mul_wide {x y : Int} {i j : Nat} (hx : 0 ≤ x) (hx' : x < 2 ^ i) (hy : 0 ≤ y) (hy' : y < 2 ^ j) (hi : 0 < i) (hj : 0 < j) (h : i + j ≤ 1000000) : wideMul x y = true := by
  have h1 := log_le hx hx' hi
  have h2 := log_le hy hy' hj
  unfold wideMul
  exact decide_eq_true (by omega)
def treeD (ps : List Nat) : D := .tup (.non :: dNats ps)
structure TreeOk (ps : List Nat) : Prop where
  len : ps.length ≤ 9
  par : ∀ (i p : Nat), ps[i]? = some p → p ≤ i
theorem dNats_snoc (ps : List Nat) (p : Nat) : dNats (ps ++ [p]) = dNats ps ++ [.int (p : Nat)] := by
  simp [dNats]
theorem dNats_get (ps : List Nat) (i : Nat) : (dNats ps)[i]? = (ps[i]?).map fun n => D.int (n : Nat) := by simp [dNats]
theorem dNats_len (ps : List Nat) : (dNats ps).length = ps.length := by simp [dNats]
theorem TreeOk.snoc {ps : List Nat} {p : Nat} (h : TreeOk ps) (hl : ps.length < 9) (hp : p ≤ ps.length) : TreeOk (ps ++ [p]) := ⟨by rw [List.length_append, List.length_singleton]; omega, fun i q hq => by
  by_cases hi : i < ps.length
  · rw [List.getElem?_append_left hi] at hq
    exact h.par i q hq
  · rw [List.getElem?_append_right (by omega)] at hq
    by_cases h0 : i - ps.length = 0
    · rw [h0] at hq
      cases hq
      omega
    · rw [List.getElem?_eq_none (by simp; omega)] at hq
      cases hq⟩
@[simp] theorem pTyIs_tup (xs : List D) : pTyIs "tuple" [.tup xs] = some (.d (.bl true)) := by
  have h : metaN.contains "tuple" = true := by decide
  simp only [pTyIs, h, if_true, tyOf]
  rfl
@[simp] theorem pTyIs_lst (xs : List D) : pTyIs "tuple" [.lst xs] = some (.d (.bl false)) := by
  have h : metaN.contains "tuple" = true := by decide
  simp only [pTyIs, h, if_true, tyOf]
  rfl
@[simp] theorem pIsI_int (a : Int) : pIsI "int" [.int a] = some (.d (.bl true)) := by
  have h : kitB "int" "int" = some true := by decide
  simp [pIsI, tyOf, h]
@[simp] theorem pIsI_bool (a : Int) : pIsI "bool" [.int a] = some (.d (.bl false)) := by
  have h : kitB "int" "bool" = some false := by decide
  simp [pIsI, tyOf, h]
theorem blsOf_map {α : Type} (xs : List α) (f : α → Bool) : blsOf (xs.map fun x => D.bl (f x)) = some (xs.map f) := by
  induction xs with
  | nil => rfl
  | cons x xs ih => simp [blsOf, ih]
theorem tree_at {ps : List Nat} (k : Nat) (p : Nat) (h : ps[k]? = some p) : atI (D.non :: dNats ps) ((k : Int) + 1) = some (.int (p : Nat)) := by
  have := atI_nat (D.non :: dNats ps) (k + 1)
  rw [show (((k + 1 : Nat)) : Int) = (k : Int) + 1 by omega] at this
  rw [this, List.getElem?_cons_succ, dNats_get, h]
  rfl
def pOf (ps : List Nat) (k : Nat) : Nat := ps.getD k 0
def parD (ps : List Nat) : Nat → D
  | 0 => .non
  | k + 1 => .int ((pOf ps k : Nat) : Int)
theorem at_par {ps : List Nat} {l : Nat} (h : l ≤ ps.length) : atI (D.non :: dNats ps) (l : Int) = some (parD ps l) := by
  rw [DL.atI_nat]
  cases l with
  | zero => rfl
  | succ k =>
    rw [List.getElem?_cons_succ, dNats_get]
    have hk : k < ps.length := by omega
    simp [parD, pOf, List.getD, hk]
def upF (ps : List Nat) : Nat → Nat → List Nat
  | 0, l => [l]
  | f + 1, l => match l with
    | 0 => [0]
    | k + 1 => match pOf ps k with
      | 0 => [k + 1]
      | p + 1 => (k + 1) :: upF ps f (p + 1)
def up (ps : List Nat) (l : Nat) : List Nat := upF ps l l
theorem upF_end {ps : List Nat} {f l : Nat} (h : parD ps l = .non ∨ parD ps l = .int 0) (hf : l ≤ f) : upF ps f l = [l] := by
  cases f with
  | zero => rw [upF]
  | succ f =>
    cases l with
    | zero => rfl
    | succ k =>
      rcases h with h | h
      · cases h
      · have e : pOf ps k = 0 := by
          simp only [parD, D.int.injEq] at h
          omega
        rw [upF, e]
theorem upF_step {ps : List Nat} {f k p : Nat} (h : pOf ps k = p + 1) : upF ps (f + 1) (k + 1) = (k + 1) :: upF ps f (p + 1) := by
  rw [upF, h]
theorem TreeOk.getD {ps : List Nat} (ht : TreeOk ps) (k : Nat) : pOf ps k ≤ k := by
  by_cases h : k < ps.length
  · have := ht.par k ps[k] (by simp [h])
    simpa [pOf, List.getD, h] using this
  · simp [pOf, List.getD, h]
theorem upF_last (ps : List Nat) : ∀ (f l : Nat), ∃ init t, upF ps f l = init ++ [t]
  | 0, l => ⟨[], l, rfl⟩
  | f + 1, l => by
    cases l with
    | zero => exact ⟨[], 0, rfl⟩
    | succ k =>
      cases hq : pOf ps k with
      | zero => exact ⟨[], k + 1, by rw [upF, hq]; rfl⟩
      | succ p =>
        obtain ⟨i, t, h⟩ := upF_last ps f (p + 1)
        exact ⟨(k + 1) :: i, t, by rw [upF_step hq, h]; rfl⟩
theorem upF_le {ps : List Nat} (ht : TreeOk ps) : ∀ (f l : Nat), l ≤ 9 → (∀ n ∈ upF ps f l, n ≤ 9)
  | 0, l, hl => fun n hn => by
    rw [upF, List.mem_singleton] at hn
    omega
  | f + 1, l, hl => fun n hn => by
    cases l with
    | zero =>
      rw [upF, List.mem_singleton] at hn
      omega
    | succ k =>
      cases hq : pOf ps k with
      | zero =>
        rw [upF, hq] at hn
        simp at hn
        omega
      | succ p =>
        have hp := ht.getD k
        rw [upF_step hq] at hn
        rcases List.mem_cons.mp hn with rfl | hn
        · omega
        · exact upF_le ht f (p + 1) (by omega) n hn
theorem upF_len {ps : List Nat} : ∀ (f l : Nat), (upF ps f l).length ≤ f + 1
  | 0, l => by simp [upF]
  | f + 1, l => by
    cases l with
    | zero => simp [upF]
    | succ k =>
      cases hq : pOf ps k with
      | zero => rw [upF, hq]; simp
      | succ p =>
        have := upF_len (ps := ps) f (p + 1)
        rw [upF_step hq, List.length_cons]
        omega
theorem upF_mem {ps : List Nat} (ht : TreeOk ps) : ∀ (f l : Nat), (∀ n ∈ upF ps f l, n ≤ l)
  | 0, l => fun n hn => by
    rw [upF, List.mem_singleton] at hn
    omega
  | f + 1, l => fun n hn => by
    cases l with
    | zero =>
      rw [upF, List.mem_singleton] at hn
      omega
    | succ k =>
      cases hq : pOf ps k with
      | zero =>
        rw [upF, hq] at hn
        simp at hn
        omega
      | succ p =>
        have hp := ht.getD k
        rw [upF_step hq] at hn
        rcases List.mem_cons.mp hn with rfl | hn
        · omega
        · have := upF_mem ht f (p + 1) n hn
          omega
theorem upF_pos {ps : List Nat} (f l : Nat) : 0 < (upF ps f l).length := by
  obtain ⟨i, t, h⟩ := upF_last ps f l
  rw [h, List.length_append, List.length_singleton]
  omega
theorem eqv_nats : ∀ a b : List Nat, PyData.eqvAll (a.map fun n => PyData.int (n : Nat)) (b.map fun n => PyData.int (n : Nat)) = decide (a = b)
  | [], [] => by simp [PyData.eqvAll]
  | [], _ :: _ => by simp [PyData.eqvAll]
  | _ :: _, [] => by simp [PyData.eqvAll]
  | x :: xs, y :: ys => by
    have e : PyData.eqv (.int (x : Nat)) (.int (y : Nat)) = decide (x = y) := by
      simp only [PyData.eqv]
      by_cases h : x = y
      · subst h; simp
      · rw [decide_eq_false h]
        simp
        omega
    simp only [List.map_cons, PyData.eqvAll, e, eqv_nats xs ys]
    by_cases h1 : x = y <;> by_cases h2 : xs = ys <;> simp [h1, h2]
theorem deq_nats (a b : List Nat) : deq (.tup (dNats a)) (.tup (dNats b)) = decide (a = b) := by
  simp only [deq, toP, toPs_nats, PyData.eqv]
  exact eqv_nats a b
theorem ne_nats (a b : List Nat) : pNe [.tup (dNats a), .tup (dNats b)] = some (.d (.bl (!decide (a = b)))) := by
  simp only [pNe, okD_nats, Bool.and_self, if_true, deq_nats]
structure AsksOk (ps as : List Nat) : Prop where
  len : as.length ≤ 40
  ok : ∀ a ∈ as, a ≤ ps.length
theorem dNats_at {ns : List Nat} {r : Int} (h0 : 0 ≤ r) (h1 : r < ns.length) : ∃ m, m ∈ ns ∧ atI (dNats ns) r = some (.int (m : Nat)) := by
  obtain ⟨k, rfl⟩ : ∃ k : Nat, r = (k : Int) := ⟨r.toNat, by omega⟩
  have hk : k < ns.length := by omega
  refine ⟨ns[k], List.getElem_mem hk, ?_⟩
  rw [DL.atI_nat, dNats_get]
  simp [hk]
theorem flat_nats (s : Int) (f : List Nat) : flat_all (.int s) (dNats f) = true := by
  simp [flat_all, flatD, dNats]
theorem inD_nats (s : Nat) (f : List Nat) : inD (.int (s : Nat)) (dNats f) = decide (s ∈ f) := by
  induction f with
  | nil => simp [inD, dNats]
  | cons x xs ih =>
    have e : inD (.int (s : Nat)) (dNats (x :: xs)) = (decide (x = s) || inD (.int (s : Nat)) (dNats xs)) := by
      simp only [inD, dNats, List.map_cons, List.any_cons, deq_int]
      by_cases h : x = s
      · subst h; simp
      · rw [decide_eq_false h, decide_eq_false (by omega)]
    rw [e, ih]
    by_cases h : x = s
    · subst h; simp
    · rw [decide_eq_false h, Bool.false_or]
      by_cases h2 : s ∈ xs
      · rw [decide_eq_true h2, decide_eq_true (List.mem_cons_of_mem _ h2)]
      · rw [decide_eq_false h2, decide_eq_false (by simp [h2]; exact fun e => h e.symm)]
theorem inN_nats (neg : Bool) (s : Nat) (f : List Nat) : pInN neg [.int (s : Nat), .lst (dNats f)] = some (.d (.bl (if neg then !decide (s ∈ f) else decide (s ∈ f)))) := by
  simp only [pInN, flat_nats, if_true, inD_nats]
def addNew (f s : List Nat) : List Nat := s.foldl (fun f x => if x ∈ f then f else f ++ [x]) f
def rnd (ps ls : List Nat) : List Nat := ls.foldl (fun f l => addNew f (up ps l)) []
theorem addNew_snoc (f s : List Nat) (x : Nat) : addNew f (s ++ [x]) = if x ∈ addNew f s then addNew f s else addNew f s ++ [x] := by
  rw [addNew, List.foldl_append]
  rfl
theorem rnd_snoc (ps ls : List Nat) (l : Nat) : rnd ps (ls ++ [l]) = addNew (rnd ps ls) (up ps l) := by
  simp [rnd, List.foldl_append]
theorem addNew_len (s : List Nat) : ∀ f : List Nat, (addNew f s).length ≤ f.length + s.length := by
  induction s with
  | nil => intro f; simp [addNew]
  | cons x s ih =>
    intro f
    have := ih (if x ∈ f then f else f ++ [x])
    have e : addNew f (x :: s) = addNew (if x ∈ f then f else f ++ [x]) s := rfl
    rw [e, List.length_cons]
    split at this
    · rename_i h; rw [if_pos h]; omega
    · rename_i h
      rw [if_neg h]
      rw [List.length_append, List.length_singleton] at this
      omega
theorem take_get {α : Type} {xs : List α} {j : Nat} {x : α} (h : xs[j]? = some x) : xs.take (j + 1) = xs.take j ++ [x] := by
  rw [List.take_succ, h]
  rfl
theorem dNats_some {ns : List Nat} {j : Nat} {x : D} (h : (dNats ns)[j]? = some x) : ∃ m, x = .int (m : Nat) ∧ ns[j]? = some m := by
  rw [dNats_get] at h
  simp only [Option.map_eq_some_iff] at h
  obtain ⟨m, h1, h2⟩ := h
  exact ⟨m, h2.symm, h1⟩
theorem visits {c : DT} {P : Fl → DEnv → Prop} {found steps : List Nat} {E : List Nat → Option Ent → DEnv} {e0 : Option Ent}
    (hset : ∀ f e s, gSet 4 (.int (s : Nat)) (E f e) = some (E f (some ⟨.shr, .int (s : Nat)⟩)))
    (body : DS) (hb : ∀ f (s : Nat), f.length ≤ found.length + steps.length → Fin (body (E f (some ⟨.shr, .int (s : Nat)⟩))) fun fl e => Goes fl ∧ e = E (if s ∈ f then f else f ++ [s]) (some ⟨.shr, .int (s : Nat)⟩))
    (z : ∀ e, P .nx (E (addNew found steps) e)) : Fin (dFor (gSet 4) body (dNats steps) (E found e0)) P := by
  refine fin_for (fun j env => ∃ e, env = E (addNew found (steps.take j)) e) ⟨e0, rfl⟩ (fun j x env hj hI => ?_) fun env hI => ?_
  · obtain ⟨e, rfl⟩ := hI
    obtain ⟨s, rfl, hs⟩ := dNats_some hj
    refine ⟨_, hset _ _ _, (hb (addNew found (steps.take j)) s ?_).mono fun fl e ⟨h1, h2⟩ => ⟨h1, some ⟨.shr, .int (s : Nat)⟩, ?_⟩⟩
    · have := addNew_len (steps.take j) found
      rw [List.length_take] at this
      omega
    · rw [h2, take_get hs, addNew_snoc]
  · obtain ⟨e, rfl⟩ := hI
    rw [dNats_len, List.take_length]
    exact z e
theorem mem_addNew (s : List Nat) : ∀ (f : List Nat) (x : Nat), x ∈ addNew f s ↔ x ∈ f ∨ x ∈ s := by
  induction s with
  | nil => intro f x; simp [addNew]
  | cons y s ih =>
    intro f x
    have e : addNew f (y :: s) = addNew (if y ∈ f then f else f ++ [y]) s := rfl
    rw [e, ih]
    by_cases h : y ∈ f
    · rw [if_pos h, List.mem_cons]
      exact ⟨fun k => k.elim .inl fun k => .inr (.inr k), fun k => k.elim .inl fun k => k.elim (fun k => .inl (k ▸ h)) .inr⟩
    · rw [if_neg h, List.mem_append, List.mem_singleton, List.mem_cons, or_assoc]
theorem addNew_sub (s : List Nat) : ∀ f : List Nat, (∀ x ∈ s, x ∈ f) → addNew f s = f := by
  induction s with
  | nil => intro f _; rfl
  | cons y s ih =>
    intro f h
    have e : addNew f (y :: s) = addNew (if y ∈ f then f else f ++ [y]) s := rfl
    rw [e, if_pos (h y (List.mem_cons_self ..)), ih f fun x hx => h x (List.mem_cons_of_mem _ hx)]
theorem addNew_new (s : List Nat) : ∀ f : List Nat, (∀ x ∈ s, x ∉ f) → s.Nodup → addNew f s = f ++ s := by
  induction s with
  | nil => intro f _ _; simp [addNew]
  | cons y s ih =>
    intro f h hn
    have e : addNew f (y :: s) = addNew (if y ∈ f then f else f ++ [y]) s := rfl
    rw [List.nodup_cons] at hn
    rw [e, if_neg (h y (List.mem_cons_self ..)), ih _ (fun x hx hm => ?_) hn.2, List.append_assoc]
    · rfl
    · rcases List.mem_append.mp hm with k | k
      · exact h x (List.mem_cons_of_mem _ hx) k
      · rw [List.mem_singleton.mp k] at hx
        exact hn.1 hx
theorem mem_rnd (ps : List Nat) (x : Nat) : ∀ ls : List Nat, ∀ f : List Nat, x ∈ ls.foldl (fun f l => addNew f (up ps l)) f ↔ x ∈ f ∨ ∃ l ∈ ls, x ∈ up ps l
  | [], f => by simp
  | l :: ls, f => by
    rw [List.foldl_cons, mem_rnd ps x ls, mem_addNew, or_assoc]
    simp
theorem in_rnd {ps : List Nat} {x : Nat} {ls : List Nat} : x ∈ rnd ps ls ↔ ∃ l ∈ ls, x ∈ up ps l := by
  rw [rnd, mem_rnd]
  simp
theorem upF_fuel {ps : List Nat} (ht : TreeOk ps) : ∀ (f g l : Nat), l ≤ f → l ≤ g → upF ps f l = upF ps g l
  | 0, g, l, h1, h2 => by
    have : l = 0 := by omega
    subst this
    cases g with
    | zero => rfl
    | succ g => rfl
  | f + 1, 0, l, h1, h2 => by
    have : l = 0 := by omega
    subst this
    rfl
  | f + 1, g + 1, l, h1, h2 => by
    cases l with
    | zero => rfl
    | succ k =>
      cases hq : pOf ps k with
      | zero => rw [upF, upF, hq]
      | succ p =>
        have := ht.getD k
        rw [upF_step hq, upF_step hq, upF_fuel ht f g (p + 1) (by omega) (by omega)]
theorem up_step {ps : List Nat} (ht : TreeOk ps) {k p : Nat} (h : pOf ps k = p + 1) : up ps (k + 1) = (k + 1) :: up ps (p + 1) := by
  have := ht.getD k
  rw [up, upF_step h, up, upF_fuel ht k (p + 1) (p + 1) (by omega) (Nat.le_refl _)]
theorem up_zero {ps : List Nat} {k : Nat} (h : pOf ps k = 0) : up ps (k + 1) = [k + 1] := by rw [up, upF, h]
theorem up_self (ps : List Nat) (l : Nat) : l ∈ up ps l := by
  cases l with
  | zero => simp [up, upF]
  | succ k =>
    cases hq : pOf ps k with
    | zero => rw [up_zero hq]; simp
    | succ p => rw [up, upF_step hq]; simp
theorem up_sub {ps : List Nat} (ht : TreeOk ps) {a x : Nat} (hx : x ∈ up ps a) : ∀ b, a ∈ up ps b → x ∈ up ps b := by
  intro b
  induction b using Nat.strongRecOn with
  | _ b ih =>
    intro h
    cases b with
    | zero =>
      have e : up ps 0 = [0] := rfl
      rw [e, List.mem_singleton] at h
      rw [← h]; exact hx
    | succ k =>
      cases hq : pOf ps k with
      | zero =>
        rw [up_zero hq, List.mem_singleton] at h
        rw [← h]; exact hx
      | succ p =>
        have hp := ht.getD k
        rw [up_step ht hq] at h ⊢
        rcases List.mem_cons.mp h with h | h
        · rw [h, up_step ht hq] at hx
          exact hx
        · exact List.mem_cons_of_mem _ (ih (p + 1) (by omega) h)
theorem up_pos {ps : List Nat} (ht : TreeOk ps) : ∀ l, 0 < l → (∀ x ∈ up ps l, 0 < x) ∧ (up ps l).Nodup := by
  intro l
  induction l using Nat.strongRecOn with
  | _ l ih =>
    intro h
    cases l with
    | zero => omega
    | succ k =>
      cases hq : pOf ps k with
      | zero =>
        rw [up_zero hq]
        exact ⟨fun x hx => by rw [List.mem_singleton.mp hx]; omega, by simp⟩
      | succ p =>
        have hp := ht.getD k
        obtain ⟨i1, i2⟩ := ih (p + 1) (by omega) (by omega)
        rw [up_step ht hq]
        refine ⟨fun x hx => ?_, List.nodup_cons.mpr ⟨fun hm => ?_, i2⟩⟩
        · rcases List.mem_cons.mp hx with h | h
          · omega
          · exact i1 x h
        · have := upF_mem ht (p + 1) (p + 1) _ hm
          omega
theorem rnd_one {ps : List Nat} (ht : TreeOk ps) (l : Nat) : rnd ps ([l] ++ [0]) = up ps l ++ (if 0 < l then [0] else []) := by
  rw [rnd_snoc]
  have e0 : up ps 0 = [0] := rfl
  by_cases h : 0 < l
  · obtain ⟨h1, h2⟩ := up_pos ht l h
    have e : rnd ps [l] = up ps l := by
      show addNew [] (up ps l) = _
      rw [addNew_new _ _ (fun x _ hx => by simp at hx) h2, List.nil_append]
    rw [e, e0, if_pos h, addNew_new _ _ (fun x hx hm => ?_) (by simp)]
    rw [List.mem_singleton.mp hx] at hm
    have := h1 0 hm
    omega
  · have : l = 0 := by omega
    subst this
    rfl
@[simp] theorem p_sliceF (xs : List D) (l u : Option Int) : pSlice (.fz xs) l u = some (.nl (DL.cutD xs l u)) := id rfl
theorem cut_ints (ns : List Int) (l u : Option Int) : ∃ ms, DL.cutD (dInts ns) l u = dInts ms ∧ ms.length ≤ ns.length := by
  refine ⟨(ns.drop (HT.sIx (dInts ns).length 0 l)).take (HT.sIx (dInts ns).length (dInts ns).length u - HT.sIx (dInts ns).length 0 l), ?_, ?_⟩
  · unfold DL.cutD
    simp [dInts, List.map_take, List.map_drop]
  · simp
    omega
theorem item_int {x : D} {i : Int} {ms : List Int} {j : Nat} (hj : (D.int i :: dInts ms)[j]? = some x) : ∃ n : Int, x = .int n := by
  cases j with
  | zero => cases hj; exact ⟨_, rfl⟩
  | succ j =>
    rw [List.getElem?_cons_succ] at hj
    simp only [dInts, List.getElem?_map, Option.map_eq_some_iff] at hj
    obtain ⟨n, _, rfl⟩ := hj
    exact ⟨n, rfl⟩
def lastUp (ps : List Nat) (l : Nat) : Nat := (up ps l).getLast?.getD 0
theorem lastUp_at {ps : List Nat} (l : Nat) : atI (dNats (up ps l)) (-1) = some (.int (lastUp ps l : Nat)) ∧ lastUp ps l ∈ up ps l := by
  obtain ⟨i, t, h⟩ := upF_last ps l l
  have h : up ps l = i ++ [t] := h
  have e : lastUp ps l = t := by rw [lastUp, h]; simp
  rw [e, h, dNats_snoc]
  exact ⟨DL.atI_last _ _, by simp⟩

@[simp] theorem p_sliceT (xs : List D) (l u : Option Int) : pSlice (.tup xs) l u = some (.d (.tup (DL.cutD xs l u))) := id rfl
def cutN (ns : List Nat) (l u : Option Int) : List Nat := (ns.drop (HT.sIx ns.length 0 l)).take (HT.sIx ns.length ns.length u - HT.sIx ns.length 0 l)
theorem cut_nats (ns : List Nat) (l u : Option Int) : DL.cutD (dNats ns) l u = dNats (cutN ns l u) := by
  unfold DL.cutD cutN
  rw [dNats_len]
  simp [dNats]
theorem cutN_mem {ns : List Nat} {l u : Option Int} : ∀ x ∈ cutN ns l u, x ∈ ns := fun x h => List.mem_of_mem_drop (List.mem_of_mem_take h)
theorem cutN_len (ns : List Nat) (l u : Option Int) : (cutN ns l u).length ≤ ns.length := by
  unfold cutN
  rw [List.length_take, List.length_drop]
  omega
theorem dNats_app (a b : List Nat) : dNats a ++ dNats b = dNats (a ++ b) := by simp [dNats]
theorem dNats_rev (a : List Nat) : (dNats a).reverse = dNats a.reverse := by simp [dNats]
theorem addN (a b : List Nat) (h : a.length + b.length ≤ 1000) : pAdd [.tup (dNats a), .tup (dNats b)] = some (.d (.tup (dNats (a ++ b)))) := by
  rw [p_addT, dNats_len, dNats_len, if_pos (by rw [sizeLine_eq]; omega), dNats_app]
theorem sIx_m1 (n d : Nat) : HT.sIx n d (some (-1)) = n - 1 := by
  show (if (-1 : Int) < 0 then ((-1 : Int) + (n : Int)).toNat else min (-1 : Int).toNat n) = n - 1
  rw [if_pos (by omega)]
  omega
@[simp] theorem p_sliceL (xs : List D) (l u : Option Int) : pSlice (.lst xs) l u = some (.nl (DL.cutD xs l u)) := id rfl

structure Cat where
  ps : List Nat
  key : Bool
  w : Nat
  rows : List (List (Option Nat))
def optD : Option Nat → D
  | none => .non
  | some t => .int (t : Nat)
def rowD (r : List (Option Nat)) : D := .tup (r.map optD)
def rowsD (c : Cat) : D := .tup (c.rows.map rowD)
def wayD (k : Bool) : D := .str (if k = true then "key" else "bundle")
def catD (c : Cat) : D := .tup [treeD c.ps, wayD c.key, rowsD c]
structure CatOk (c : Cat) : Prop where
  tree : TreeOk c.ps
  w1 : 1 ≤ c.w
  w4 : c.w ≤ 4
  len : c.rows.length = c.ps.length + 1
  wid : ∀ r ∈ c.rows, r.length = c.w
  txt : ∀ r ∈ c.rows, ∀ t, some t ∈ r → t ≤ 9
def row (c : Cat) (l : Nat) : List (Option Nat) := c.rows.getD l []
def cell (c : Cat) (l k : Nat) : Option Nat := (row c l).getD k none
@[simp] theorem isNon_opt (o : Option Nat) : isNonD (optD o) = o.isNone := by cases o <;> rfl
theorem row_get {c : Cat} (h : CatOk c) {l : Nat} (hl : l ≤ c.ps.length) : c.rows[l]? = some (row c l) := by
  have : l < c.rows.length := by rw [h.len]; omega
  simp [row, List.getD, this]
theorem row_mem {c : Cat} (h : CatOk c) {l : Nat} (hl : l ≤ c.ps.length) : row c l ∈ c.rows := List.mem_of_getElem? (row_get h hl)
theorem row_len {c : Cat} (h : CatOk c) {l : Nat} (hl : l ≤ c.ps.length) : (row c l).length = c.w := h.wid _ (row_mem h hl)
theorem at_row {c : Cat} (h : CatOk c) {l : Nat} (hl : l ≤ c.ps.length) : atI (c.rows.map rowD) (l : Nat) = some (rowD (row c l)) := by
  rw [DL.atI_nat, List.getElem?_map, row_get h hl]
  rfl
theorem cell_get {c : Cat} (h : CatOk c) {l k : Nat} (hl : l ≤ c.ps.length) (hk : k < c.w) : (row c l)[k]? = some (cell c l k) := by
  have : k < (row c l).length := by rw [row_len h hl]; exact hk
  simp [cell, List.getD, this]
theorem at_cell {c : Cat} (h : CatOk c) {l k : Nat} (hl : l ≤ c.ps.length) (hk : k < c.w) : atI ((row c l).map optD) (k : Nat) = some (optD (cell c l k)) := by
  rw [DL.atI_nat, List.getElem?_map, cell_get h hl hk]
  rfl
theorem cell_le {c : Cat} (h : CatOk c) {l k t : Nat} (hl : l ≤ c.ps.length) (hk : k < c.w) (e : cell c l k = some t) : t ≤ 9 :=
  h.txt _ (row_mem h hl) t (by rw [← e]; exact List.mem_of_getElem? (cell_get h hl hk))
/-- rows, cells by their places -/
theorem ix_rows {c : Cat} (h : CatOk c) {l : Nat} (hl : l ≤ c.ps.length) : pIx [rowsD c, .int (l : Nat)] = some (.d (rowD (row c l))) := by
  rw [rowsD, p_ixT, at_row h hl]; rfl
theorem ix_row {c : Cat} (h : CatOk c) {l k : Nat} (hl : l ≤ c.ps.length) (hk : k < c.w) : pIx [rowD (row c l), .int (k : Nat)] = some (.d (optD (cell c l k))) := by
  rw [rowD, p_ixT, at_cell h hl hk]; rfl
@[simp] theorem pLen_tree (ps : List Nat) : pLen [treeD ps] = some (.d (.int ((ps.length : Int) + 1))) := by
  have d := dNats_len ps
  simp [treeD, d]
@[simp] theorem pLen_row (r : List (Option Nat)) : pLen [rowD r] = some (.d (.int (r.length : Nat))) := by simp [rowD]
@[simp] theorem pLen_rows (c : Cat) : pLen [rowsD c] = some (.d (.int (c.rows.length : Nat))) := by simp [rowsD]
@[simp] theorem cat_0 (c : Cat) : pIx [catD c, .int 0] = some (.d (treeD c.ps)) := by simp [catD]
@[simp] theorem cat_1 (c : Cat) : pIx [catD c, .int 1] = some (.d (wayD c.key)) := by simp [catD]
@[simp] theorem cat_2 (c : Cat) : pIx [catD c, .int 2] = some (.d (rowsD c)) := by simp [catD]
@[simp] theorem g_cat (c : Cat) (m : List D → DEnv → Option DEnv) (env : DEnv) : gTupD 3 m (catD c) env = m [treeD c.ps, wayD c.key, rowsD c] env := id rfl
@[simp] theorem seq_row (r : List (Option Nat)) : dSeqOf (rowD r) = some (r.map optD) := rfl
@[simp] theorem seq_rows (c : Cat) : dSeqOf (rowsD c) = some (c.rows.map rowD) := rfl
@[simp] theorem pIsI_str (x : Str) : pIsI "str" [.str x] = some (.d (.bl true)) := by
  have h : kitB "str" "str" = some true := by decide
  simp [pIsI, tyOf, h]
theorem deq_way (a b : Bool) : deq (wayD a) (wayD b) = decide (a = b) := by
  cases a <;> cases b <;> simp [deq, toP, PyData.eqv, wayD] <;> decide
@[simp] theorem eq_key (k : Bool) : pEq [wayD k, .str "key"] = some (.d (.bl k)) := by
  have h1 : okD (wayD k) = true := okD_str (by cases k <;> exact strOk_of _)
  have h2 : okD (.str "key") = true := okD_str (strOk_of _)
  have h3 : deq (wayD k) (.str "key") = k := by
    have := deq_way k true
    simp only [wayD, if_true] at this ⊢
    rw [this]
    cases k <;> rfl
  simp [pEq, h1, h2, h3]
@[simp] theorem eq_bundle (k : Bool) : pEq [wayD k, .str "bundle"] = some (.d (.bl (!k))) := by
  have h1 : okD (wayD k) = true := okD_str (by cases k <;> exact strOk_of _)
  have h2 : okD (.str "bundle") = true := okD_str (strOk_of _)
  have h3 : deq (wayD k) (.str "bundle") = !k := by
    have := deq_way k false
    simp only [wayD] at this ⊢
    cases k <;> exact this
  simp [pEq, h1, h2, h3]
theorem blsOf_true {α : Type} (xs : List α) : blsOf (xs.map fun _ => D.bl true) = some (xs.map fun _ => true) := blsOf_map xs fun _ => true
theorem all_true {α : Type} (xs : List α) : (xs.map fun _ => true).all id = true := by induction xs <;> simp_all
theorem pAll_true {α : Type} (xs : List α) : pAll [.lst (xs.map fun _ => D.bl true)] = some (.d (.bl true)) := by
  simp [pAll, blsOf_true]
/-- the first of the locales with a text -/
def fpl (c : Cat) (ls : List Nat) (k : Nat) : Option Nat := ls.find? fun l => (cell c l k).isSome
/-- there is an entry on the path -/
def rowHas (r : List (Option Nat)) : Bool := r.any Option.isSome
def held (c : Cat) (l : Nat) : Bool := (up c.ps l).any fun s => rowHas (row c s)
theorem up_le {ps : List Nat} (ht : TreeOk ps) {l : Nat} (hl : l ≤ ps.length) : ∀ s ∈ up ps l, s ≤ ps.length := fun s hs => by
  have := upF_mem ht l l s hs
  omega
theorem enum_nats : ∀ (ws : List Nat) (k : Nat), enumD k (dNats ws) = (ws.zipIdx k).map fun p => D.pr (.int (p.2 : Nat)) (.int (p.1 : Nat))
  | [], _ => rfl
  | w :: ws, k => by
    have := enum_nats ws (k + 1)
    simp only [dNats, List.map_cons, enumD, List.zipIdx_cons] at *
    rw [this]
theorem zip_nats : ∀ (a b : List Nat), zipD (dNats a) (dNats b) = (a.zip b).map fun p => D.pr (.int (p.1 : Nat)) (.int (p.2 : Nat))
  | [], _ => rfl
  | x :: a, [] => rfl
  | x :: a, y :: b => by
    have := zip_nats a b
    simp only [dNats, List.map_cons, zipD, List.zip_cons_cons] at *
    rw [this]
def chos (c : Cat) (ws : List Nat) : Option Nat := (ws.zipIdx.find? fun p => held c p.1).map (·.2)
theorem chos_spec (c : Cat) (ws : List Nat) : (chos c ws = none ∧ ws.find? (held c) = none) ∨ ∃ i w, chos c ws = some i ∧ ws[i]? = some w ∧ ws.find? (held c) = some w := by
  have key : ∀ (ws : List Nat) (k : Nat), ((ws.zipIdx k).find? (fun p => held c p.1) = none ∧ ws.find? (held c) = none) ∨ ∃ i w, (ws.zipIdx k).find? (fun p => held c p.1) = some (w, k + i) ∧ ws[i]? = some w ∧ ws.find? (held c) = some w := by
    intro ws
    induction ws with
    | nil => intro k; left; simp
    | cons x ws ih =>
      intro k
      rw [List.zipIdx_cons]
      cases hx : held c x with
      | true => right; exact ⟨0, x, by simp [hx], rfl, by simp [hx]⟩
      | false =>
        rcases ih (k + 1) with ⟨h1, h2⟩ | ⟨i, w, h1, h2, h3⟩
        · left; simp [hx, h1, h2]
        · right; exact ⟨i + 1, w, by simp [hx, h1]; omega, by simpa using h2, by simp [hx, h3]⟩
  rcases key ws 0 with ⟨h1, h2⟩ | ⟨i, w, h1, h2, h3⟩
  · left; exact ⟨by simp [chos, h1], h2⟩
  · right; exact ⟨i, w, by simp [chos, h1], h2, h3⟩
/-- the locales at which a list looks -/
def sght (c : Cat) (ws : List Nat) : List Nat := if c.key = true then rnd c.ps (ws ++ [0]) else match ws.find? (held c) with
  | some w => rnd c.ps ([w] ++ [0])
  | none => [0]
theorem sght_le {c : Cat} (h : CatOk c) {ws : List Nat} (hw : ∀ w ∈ ws, w ≤ c.ps.length) : ∀ l ∈ sght c ws, l ≤ c.ps.length := by
  have key : ∀ as : List Nat, (∀ a ∈ as, a ≤ c.ps.length) → ∀ l ∈ rnd c.ps as, l ≤ c.ps.length := fun as ha l hl => by
    obtain ⟨a, h1, h2⟩ := in_rnd.mp hl
    have := up_le h.tree (ha a h1) l h2
    exact this
  intro l hl
  have snoc : ∀ as : List Nat, (∀ a ∈ as, a ≤ c.ps.length) → ∀ a ∈ as ++ [0], a ≤ c.ps.length := fun as ha a h => by
    rcases List.mem_append.mp h with k | k
    · exact ha a k
    · rw [List.mem_singleton.mp k]; omega
  unfold sght at hl
  split at hl
  · exact key _ (snoc _ hw) l hl
  · split at hl
    · rename_i w hf
      exact key _ (snoc _ fun a ha => by rw [List.mem_singleton.mp ha]; exact hw w (List.mem_of_find?_eq_some hf)) l hl
    · rw [List.mem_singleton.mp hl]; omega
theorem fpl_le {c : Cat} {ls : List Nat} (hls : ∀ l ∈ ls, l ≤ c.ps.length) {k l : Nat} (e : fpl c ls k = some l) : l ≤ c.ps.length := hls l (List.mem_of_find?_eq_some e)

/-- the text of the first of the locales with one -/
def ftx (c : Cat) (ls : List Nat) (k : Nat) : Option Nat := match fpl c ls k with
  | some l => cell c l k
  | none => none
theorem fpl_some {c : Cat} {ls : List Nat} {k l : Nat} (e : fpl c ls k = some l) : ∃ t, cell c l k = some t := by
  have := List.find?_some e
  exact Option.isSome_iff_exists.mp this
def shw (c : Cat) (ws : List Nat) : List (Option Nat) := (List.range c.w).map fun k => ftx c (sght c ws) k
theorem shw_len (c : Cat) (ws : List Nat) : (shw c ws).length = c.w := by simp [shw]
theorem shw_ok {c : Cat} (h : CatOk c) {ws : List Nat} (hw : ∀ w ∈ ws, w ≤ c.ps.length) : ∀ t, some t ∈ shw c ws → t ≤ 9 := fun t ht => by
  obtain ⟨k, hk, e⟩ := List.mem_map.mp ht
  unfold ftx at e
  cases hf : fpl c (sght c ws) k with
  | none => rw [hf] at e; cases e
  | some l =>
    rw [hf] at e
    exact cell_le h (fpl_le (sght_le h hw) hf) (List.mem_range.mp hk) e

theorem fin_seqM {a b : DS} {env : DEnv} {P : Fl → DEnv → Prop} (M : DEnv → Prop) (h1 : Fin (a env) fun fl e => fl = .nx ∧ M e) (h2 : ∀ e, M e → Fin (b e) P) : Fin (dSeq a b env) P := by
  rw [fin_seq]
  refine h1.mono fun fl e ⟨hf, hm⟩ => ?_
  subst hf
  rw [contS_nx]
  exact h2 e hm

def TxtOk (r : List (Option Nat)) : Prop := ∀ t, some t ∈ r → t ≤ 9
theorem TxtOk.snoc {r : List (Option Nat)} {o : Option Nat} (h : TxtOk r) (ho : ∀ t, o = some t → t ≤ 9) : TxtOk (r ++ [o]) := fun t ht => by
  rcases List.mem_append.mp ht with k | k
  · exact h t k
  · exact ho t (List.mem_singleton.mp k).symm
theorem at_opts {r : List (Option Nat)} {k : Nat} (hk : k < r.length) : atI (r.map optD) (k : Nat) = some (optD (r.getD k none)) := by
  rw [DL.atI_nat, List.getElem?_map]
  simp [hk]
theorem opts_ok {r : List (Option Nat)} (h : TxtOk r) {k : Nat} (hk : k < r.length) : ∀ t, r.getD k none = some t → t ≤ 9 := fun t e => h t (by
  have : r[k]? = some (r.getD k none) := by simp [hk]
  rw [e] at this
  exact List.mem_of_getElem? this)
def optsL (r : List (Option Nat)) : D := .lst (r.map optD)

def jar (a b c : Int) : D := .lst [.int a, .int b, .int c]
theorem fill_spec (n : Int) : ∃ a b : Int, f__law_fill [⟨.shr, .int n⟩] = .ok ⟨.own, jar a b 0⟩ .non ∧ 0 ≤ b ∧ b < 2147483587 := by
  refine ⟨if n - 1000000000000000000 > 0 then n - 1000000000000000000 else 0, n % 2147483587, def_eq rfl ?_, Int.emod_nonneg n (by decide : (2147483587 : Int) ≠ 0), Int.emod_lt_of_pos n (by decide)⟩
  simp [m__law_fill, sizeLine_eq, jar]
theorem pull_spec {a b c s n : Int} (hb : 0 ≤ b ∧ b < 2147483587) (hc : 0 ≤ c ∧ c ≤ n) (hn : n ≤ 1000000) (hs : 0 < s ∧ s ≤ 4096) :
    ∃ r a' c', f__law_pull [⟨.own, jar a b c⟩, ⟨.shr, .int s⟩] = .ok ⟨.shr, .int r⟩ (jar a' b c') ∧ (0 ≤ r ∧ r < s) ∧ 0 ≤ c' ∧ c' ≤ n + 1 := by
  have hs2 : s.natAbs.log2 < 9000 := Nat.lt_trans (log_le (k := 13) (by omega) (by omega) (by decide)) (by decide)
  suffices q : FinF (f__law_pull [⟨.own, jar a b c⟩, ⟨.shr, .int s⟩]) fun x o => ∃ r a' c', (x = ⟨.shr, .int r⟩ ∧ o = jar a' b c') ∧ (0 ≤ r ∧ r < s) ∧ 0 ≤ c' ∧ c' ≤ n + 1 by
    obtain ⟨x, o, e, r, a', c', ⟨rfl, rfl⟩, h⟩ := finF_iff.mp q
    exact ⟨r, a', c', e, h⟩
  refine finF_def rfl ?_
  by_cases ha : 0 < a
  · have h1 : 0 ≤ a % s := Int.emod_nonneg a (by omega)
    have h2 : a % s < s := Int.emod_lt_of_pos a hs.1
    simp [m__law_pull, jar, ha, hs.1, hs2, ixN_0]
    exact ⟨_, _, _, ⟨rfl, rfl, rfl⟩, ⟨h1, h2⟩, hc.1, by omega⟩
  · have w1 : wideMul 104729 (c + 1) = true := mul_wide (i := 20) (j := 24) (by omega) (by omega) (by omega) (by omega) (by omega) (by omega) (by omega)
    have w2 : wideMul (104729 * (c + 1)) (c + 1) = true := mul_wide (i := 44) (j := 24) (by omega) (by omega) (by omega) (by omega) (by omega) (by omega) (by omega)
    have w3 : wideMul 31 (c + 1) = true := mul_wide (i := 20) (j := 24) (by omega) (by omega) (by omega) (by omega) (by omega) (by omega) (by omega)
    have w4 : wideMul 48271 (c + 1) = true := mul_wide (i := 20) (j := 24) (by omega) (by omega) (by omega) (by omega) (by omega) (by omega) (by omega)
    generalize hx : (b + 104729 * (c + 1) * (c + 1) + 31 * (c + 1)) % 2147483629 = x
    have x0 : 0 ≤ x ∧ x < 2147483629 := by
      rw [← hx]
      exact ⟨Int.emod_nonneg _ (by decide), Int.emod_lt_of_pos _ (by decide)⟩
    have w5 : wideMul x x = true := mul_wide (i := 31) (j := 31) (by omega) (by omega) (by omega) (by omega) (by omega) (by omega) (by omega)
    generalize hy : (x * x + 48271 * (c + 1) + 5) % 2147483563 = y
    have y0 : 0 ≤ y ∧ y < 2147483563 := by
      rw [← hy]
      exact ⟨Int.emod_nonneg _ (by decide), Int.emod_lt_of_pos _ (by decide)⟩
    have w6 : wideMul y y = true := mul_wide (i := 31) (j := 31) (by omega) (by omega) (by omega) (by omega) (by omega) (by omega) (by omega)
    have l16 : (16 : Nat).log2 < 9000 := by decide
    generalize hz : (y * y % 2147483399 / 16) % s = z
    have z0 : 0 ≤ z ∧ z < s := by
      rw [← hz]
      exact ⟨Int.emod_nonneg _ (by omega), Int.emod_lt_of_pos _ hs.1⟩
    simp [m__law_pull, jar, ha, hs.1, ixN_2, w1, w2, w3, w4, hx, w5, hy, w6, l16, hz]
    exact ⟨_, _, _, ⟨rfl, rfl, rfl⟩, z0, by omega, by omega⟩
theorem same_eq {d : D} (h1 : okD d = true) (h2 : okR d = true) (h3 : okD (.str (toP d).shown) = true) : f__law_same [⟨.shr, d⟩, ⟨.shr, d⟩] = .ok ⟨.shr, .bl true⟩ .non := by
  have h4 := deq_self h1
  have h5 := deq_self h3
  exact def_eq rfl (by simp [m__law_same, pEq, h1, h4, pRepr, h2, h3, h5])
theorem same_nats {ns : List Nat} (h : ∀ n ∈ ns, n ≤ 9) (hl : ns.length ≤ 4096) : f__law_same [⟨.shr, .tup (dNats ns)⟩, ⟨.shr, .tup (dNats ns)⟩] = .ok ⟨.shr, .bl true⟩ .non :=
  same_eq (okD_nats ns) (okR_nats (fun n hn => by unfold twelve; have := h n hn; omega) hl) (okS_nats ns)
theorem same_nat {n : Nat} (h : n ≤ 999999999999) : f__law_same [⟨.shr, .int (n : Nat)⟩, ⟨.shr, .int (n : Nat)⟩] = .ok ⟨.shr, .bl true⟩ .non := same_eq (okD_int _) (okR_nat h) (okS_int _)
theorem same_bl (b : Bool) : f__law_same [⟨.shr, .bl b⟩, ⟨.shr, .bl b⟩] = .ok ⟨.shr, .bl true⟩ .non := same_eq (okD_bl _) (okR_bl _) (okS_bl _)

/-! data without texts, of small numbers: told equal, shown -/
mutual
def sm : D → Bool
  | .non => true
  | .bl _ => true
  | .int i => decide (0 ≤ i) && decide (i ≤ 999999999999)
  | .lst ds => sms ds
  | .tup ds => sms ds
  | _ => false
def sms : List D → Bool
  | [] => true
  | d :: ds => sm d && sms ds
end
mutual
def dp : D → Nat
  | .lst ds => dps ds + 1
  | .tup ds => dps ds + 1
  | _ => 0
def dps : List D → Nat
  | [] => 0
  | d :: ds => max (dp d) (dps ds)
end
mutual
def wt : D → Nat
  | .lst ds => 3 + wts ds
  | .tup ds => 3 + wts ds
  | _ => 14
def wts : List D → Nat
  | [] => 0
  | d :: ds => wt d + 2 + wts ds
end
structure SmF (x : D) : Prop where
  p : DL.plain x = true
  l : (toP x).canLay0 = true
  s : (toP x).showable = true
  n : noStr (toP x) = true
  d : (toP x).depth = dp x
  w : (toP x).shown.length ≤ wt x
structure SmsF (x : List D) : Prop where
  p : plains x = true
  l : PyData.canLayAll0 (toPs x) = true
  s : PyData.showableAll (toPs x) = true
  n : noStrs (toPs x) = true
  d : PyData.depthAll (toPs x) = dps x
  w : ((PyData.shownAll (toPs x)).map (·.length)).sum + 2 * (PyData.shownAll (toPs x)).length ≤ wts x
mutual
theorem sm_facts : ∀ d : D, sm d = true → SmF d
  | .non, _ => ⟨by simp only [DL.plain], by simp only [toP, PyData.canLay0], by simp only [toP, PyData.showable], by simp only [toP, noStr], by simp only [toP, PyData.depth, dp], by simp only [toP, PyData.shown, wt]; decide⟩
  | .bl b, _ => ⟨by simp only [DL.plain], by simp only [toP, PyData.canLay0], by simp only [toP, PyData.showable], by simp only [toP, noStr], by simp only [toP, PyData.depth, dp], by simp only [toP, PyData.shown, wt]; cases b <;> decide⟩
  | .int i, h => by
    simp only [sm, Bool.and_eq_true, decide_eq_true_eq] at h
    obtain ⟨n, rfl⟩ : ∃ n : Nat, i = (n : Int) := ⟨i.toNat, by omega⟩
    have b := PyData.shown_int_le2 (i := (n : Int)) (by omega) (by omega)
    refine ⟨by simp only [DL.plain], by simp only [toP, PyData.canLay0], ?_, by simp only [toP, noStr], by simp only [toP, PyData.depth, dp], by simp only [toP, wt]; omega⟩
    simp only [toP, PyData.showable, Int.natAbs_natCast, decide_eq_true_eq]
    exact log_small (by unfold twelve; omega)
  | .lst ds, h => by
    have q := sms_facts ds (by simpa only [sm] using h)
    refine ⟨by simp only [DL.plain]; exact q.p, by simp only [toP, PyData.canLay0]; exact q.l, by simp only [toP, PyData.showable]; exact q.s, by simp only [toP, noStr]; exact q.n, by simp only [toP, PyData.depth, dp, q.d], ?_⟩
    simp only [toP, PyData.shown, wt]
    have := listText_len_le (PyData.shownAll (toPs ds))
    have := q.w
    omega
  | .tup ds, h => by
    have q := sms_facts ds (by simpa only [sm] using h)
    refine ⟨by simp only [DL.plain]; exact q.p, by simp only [toP, PyData.canLay0]; exact q.l, by simp only [toP, PyData.showable]; exact q.s, by simp only [toP, noStr]; exact q.n, by simp only [toP, PyData.depth, dp, q.d], ?_⟩
    simp only [toP, PyData.shown, wt]
    have := tupleText_len_le (PyData.shownAll (toPs ds))
    have := q.w
    omega
  | .str _, h => by simp only [sm] at h; cases h
  | .fz _, h => by simp only [sm] at h; cases h
  | .exc _ _, h => by simp only [sm] at h; cases h
  | .pr _ _, h => by simp only [sm] at h; cases h
  | .rng _ _, h => by simp only [sm] at h; cases h
theorem sms_facts : ∀ ds : List D, sms ds = true → SmsF ds
  | [], _ => ⟨by simp only [plains], by simp only [toPs, PyData.canLayAll0], by simp only [toPs, PyData.showableAll], by simp only [toPs, noStrs], by simp only [toPs, PyData.depthAll, dps], by simp only [toPs, PyData.shownAll, wts]; decide⟩
  | d :: ds, h => by
    simp only [sms, Bool.and_eq_true] at h
    have q1 := sm_facts d h.1
    have q2 := sms_facts ds h.2
    refine ⟨by simp only [plains, q1.p, q2.p, Bool.and_self], by simp only [toPs, PyData.canLayAll0, q1.l, q2.l, Bool.and_self], by simp only [toPs, PyData.showableAll, q1.s, q2.s, Bool.and_self], by simp only [toPs, noStrs, q1.n, q2.n, Bool.and_self], by simp only [toPs, PyData.depthAll, dps, q1.d, q2.d], ?_⟩
    have w1 := q1.w
    have w2 := q2.w
    simp only [toPs, PyData.shownAll, wts, List.map_cons, List.sum_cons, List.length_cons]
    omega
end
theorem okD_sm {d : D} (h : sm d = true) (hd : dp d ≤ 64) : okD d = true := by
  have q := sm_facts d h
  simp only [okD, q.p, SeqAt.shaped, q.l, q.d, Bool.true_and, decide_eq_true_eq]
  exact hd
theorem okR_sm {d : D} (h : sm d = true) (hd : dp d ≤ 64) (hw : wt d ≤ 1000000) : okR d = true := by
  have q := sm_facts d h
  have k := okD_sm h hd
  simp only [okD, Bool.and_eq_true] at k
  have : (toP d).shown.length ≤ sizeLine := by have := q.w; rw [sizeLine_eq]; omega
  simp only [okR, k.1, k.2, q.s, this, Bool.true_and, decide_true]
theorem okS_sm {d : D} (h : sm d = true) : okD (.str (toP d).shown) = true := okD_str (strOk_shown _ (sm_facts d h).n)
theorem pRepr_sm {d : D} (h : sm d = true) (hd : dp d ≤ 64) (hw : wt d ≤ 1000000) : pRepr [d] = some (.d (.str (toP d).shown)) := by simp only [pRepr, okR_sm h hd hw, if_true]
theorem ne_selfD {d : D} (h : okD d = true) : pNe [d, d] = some (.d (.bl false)) := by
  have h4 := deq_self h
  simp [pNe, h, h4]
theorem eq_selfD {d : D} (h : okD d = true) : pEq [d, d] = some (.d (.bl true)) := by
  have h4 := deq_self h
  simp [pEq, h, h4]
theorem sms_map {α : Type} {f : α → D} : ∀ {xs : List α}, (∀ x ∈ xs, sm (f x) = true) → sms (xs.map f) = true
  | [], _ => by simp only [List.map_nil, sms]
  | x :: xs, h => by
    simp only [List.map_cons, sms, h x (List.mem_cons_self ..), Bool.true_and]
    exact sms_map fun y hy => h y (List.mem_cons_of_mem _ hy)
theorem dps_map {α : Type} {f : α → D} {k : Nat} : ∀ {xs : List α}, (∀ x ∈ xs, dp (f x) ≤ k) → dps (xs.map f) ≤ k
  | [], _ => by simp only [List.map_nil, dps]; exact Nat.zero_le _
  | x :: xs, h => by
    simp only [List.map_cons, dps]
    exact Nat.max_le.mpr ⟨h x (List.mem_cons_self ..), dps_map fun y hy => h y (List.mem_cons_of_mem _ hy)⟩
theorem wts_map {α : Type} {f : α → D} {k : Nat} : ∀ {xs : List α}, (∀ x ∈ xs, wt (f x) ≤ k) → wts (xs.map f) ≤ (k + 2) * xs.length
  | [], _ => by simp only [List.map_nil, wts]; exact Nat.zero_le _
  | x :: xs, h => by
    have h1 := h x (List.mem_cons_self ..)
    have h2 := wts_map (f := f) (k := k) (xs := xs) fun y hy => h y (List.mem_cons_of_mem _ hy)
    simp only [List.map_cons, wts, List.length_cons, Nat.mul_add, Nat.mul_one]
    omega

theorem excV_eq {c : Str} {m : DE} {env : DEnv} : dExcV c m env = (m env).bind fun _ e => .ok ⟨.shr, .exc c []⟩ e := rfl
@[simp ↓] theorem fin_excV {c : Str} {m : DE} {env : DEnv} {PE : Ent → DEnv → Prop} : DL.Fin (dExcV c m env) PE ↔ DL.Fin (m env) fun _ e => PE ⟨.shr, .exc c []⟩ e := by
  rw [excV_eq, fin_bind]
  simp
theorem pull_wide {a b c s n : Int} (hb : 0 ≤ b ∧ b < 2147483587) (hc : 0 ≤ c ∧ c ≤ n) (hn : n ≤ 1000000) (hs : 0 < s ∧ s ≤ 10 ^ 30) :
    ∃ r a' c', f__law_pull [⟨.own, jar a b c⟩, ⟨.shr, .int s⟩] = .ok ⟨.shr, .int r⟩ (jar a' b c') ∧ (0 ≤ r ∧ r < s) ∧ 0 ≤ c' ∧ c' ≤ n + 1 := by
  have hs2 : s.natAbs.log2 < 9000 := Nat.lt_trans (log_le (k := 101) (by omega) (by omega) (by decide)) (by decide)
  suffices q : FinF (f__law_pull [⟨.own, jar a b c⟩, ⟨.shr, .int s⟩]) fun x o => ∃ r a' c', (x = ⟨.shr, .int r⟩ ∧ o = jar a' b c') ∧ (0 ≤ r ∧ r < s) ∧ 0 ≤ c' ∧ c' ≤ n + 1 by
    obtain ⟨x, o, e, r, a', c', ⟨rfl, rfl⟩, h⟩ := finF_iff.mp q
    exact ⟨r, a', c', e, h⟩
  refine finF_def rfl ?_
  by_cases ha : 0 < a
  · have h1 : 0 ≤ a % s := Int.emod_nonneg a (by omega)
    have h2 : a % s < s := Int.emod_lt_of_pos a hs.1
    simp [m__law_pull, jar, ha, hs.1, hs2, ixN_0]
    exact ⟨_, _, _, ⟨rfl, rfl, rfl⟩, ⟨h1, h2⟩, hc.1, by omega⟩
  · have w1 : wideMul 104729 (c + 1) = true := mul_wide (i := 20) (j := 24) (by omega) (by omega) (by omega) (by omega) (by omega) (by omega) (by omega)
    have w2 : wideMul (104729 * (c + 1)) (c + 1) = true := mul_wide (i := 44) (j := 24) (by omega) (by omega) (by omega) (by omega) (by omega) (by omega) (by omega)
    have w3 : wideMul 31 (c + 1) = true := mul_wide (i := 20) (j := 24) (by omega) (by omega) (by omega) (by omega) (by omega) (by omega) (by omega)
    have w4 : wideMul 48271 (c + 1) = true := mul_wide (i := 20) (j := 24) (by omega) (by omega) (by omega) (by omega) (by omega) (by omega) (by omega)
    generalize hx : (b + 104729 * (c + 1) * (c + 1) + 31 * (c + 1)) % 2147483629 = x
    have x0 : 0 ≤ x ∧ x < 2147483629 := by
      rw [← hx]
      exact ⟨Int.emod_nonneg _ (by decide), Int.emod_lt_of_pos _ (by decide)⟩
    have w5 : wideMul x x = true := mul_wide (i := 31) (j := 31) (by omega) (by omega) (by omega) (by omega) (by omega) (by omega) (by omega)
    generalize hy : (x * x + 48271 * (c + 1) + 5) % 2147483563 = y
    have y0 : 0 ≤ y ∧ y < 2147483563 := by
      rw [← hy]
      exact ⟨Int.emod_nonneg _ (by decide), Int.emod_lt_of_pos _ (by decide)⟩
    have w6 : wideMul y y = true := mul_wide (i := 31) (j := 31) (by omega) (by omega) (by omega) (by omega) (by omega) (by omega) (by omega)
    have l16 : (16 : Nat).log2 < 9000 := by decide
    generalize hz : (y * y % 2147483399 / 16) % s = z
    have z0 : 0 ≤ z ∧ z < s := by
      rw [← hz]
      exact ⟨Int.emod_nonneg _ (by omega), Int.emod_lt_of_pos _ hs.1⟩
    simp [m__law_pull, jar, ha, hs.1, ixN_2, w1, w2, w3, w4, hx, w5, hy, w6, l16, hz]
    exact ⟨_, _, _, ⟨rfl, rfl, rfl⟩, z0, by omega, by omega⟩
theorem dLoop_S {vs : List Nat} {g : DG} {e : DE} (n : Nat) (hn : n ≤ sizeLine) (I : List D → DEnv → Prop) (step : ∀ acc x en, acc.length < n → I acc en → ∃ en1, g x en = some en1 ∧ DL.Fin (e en1) fun r e2 => I (acc ++ [r.d]) (wipeD e2 vs)) :
    ∀ (xs acc : List D) (env : DEnv), I acc env → acc.length + xs.length = n → ∃ acc' env', dLoop vs g dYes e xs acc env = .ok acc' env' ∧ acc'.length = n ∧ I acc' env'
  | [], acc, env, h, hl => ⟨acc, env, rfl, by simpa using hl, h⟩
  | x :: xs, acc, env, h, hl => by
    rw [List.length_cons] at hl
    obtain ⟨env1, e1, q⟩ := step acc x env (by omega) h
    obtain ⟨r, env2, e2, h2⟩ := fin_iff.mp q
    obtain ⟨acc', env', e3, h3⟩ := dLoop_S n hn I step xs (acc ++ [r.d]) (wipeD env2 vs) h2 (by rw [List.length_append, List.length_singleton]; omega)
    refine ⟨acc', env', ?_, h3⟩
    rw [dLoop, e1]
    simp only [dYes, e2]
    rw [if_pos (by omega), e3]
theorem fin_compS {vs : List Nat} {it : DI} {g : DG} {e : DE} {env : DEnv} {P : Ent → DEnv → Prop} (env1 : DEnv) (xs : List D) (I : List D → DEnv → Prop) (hi : DL.Fin (it env) fun ys e => ys = xs ∧ e = env1) (hl : xs.length ≤ sizeLine) (h0 : I [] (wipeD env1 vs))
    (step : ∀ acc x en, acc.length < xs.length → I acc en → ∃ en1, g x en = some en1 ∧ DL.Fin (e en1) fun r e2 => I (acc ++ [r.d]) (wipeD e2 vs))
    (z : ∀ acc en, acc.length = xs.length → I acc en → P ⟨.own, .lst acc⟩ (backD env1 en vs)) : DL.Fin (dComp vs it g dYes e env) P := by
  obtain ⟨acc', env', e1, h1, h2⟩ := dLoop_S (g := g) (e := e) (vs := vs) xs.length hl I step xs [] (wipeD env1 vs) h0 (by simp)
  obtain ⟨ys, e2, hi1, rfl, rfl⟩ := fin_iff.mp hi
  refine fin_iff.mpr ⟨_, _, ?_, z acc' env' h1 h2⟩
  unfold dComp
  rw [hi1, bind_ok, e1]
theorem int_len {i : Int} (h0 : 0 ≤ i) (h : i < 10 ^ 30) : (toString i : Str).length ≤ 30 := by
  obtain ⟨n, rfl⟩ : ∃ n : Nat, i = (n : Int) := ⟨i.toNat, by omega⟩
  have hn : n < 10 ^ 30 := by omega
  have := (Nat.length_toDigits_le_iff (b := 10) (n := n) (k := 30) (by decide) (by decide)).mpr hn
  rw [PySem.Str.ofString_eq_toList]
  show ((String.toList (toString (n : Int))).map Char.toNat).toArray.size ≤ 30
  rw [List.size_toArray, List.length_map]
  have e : toString (n : Int) = Nat.repr n := rfl
  rw [e]
  simpa [Nat.repr] using this
def errsD (a : D) (n : Int) : List D := [.exc "InvalidTree" [], .exc "InvalidLocale" [], .exc "InvalidWishes" [], .exc "InvalidWay" [], .exc "InvalidCatalog" [], .exc "InvalidKey" [], .exc "InvalidText" [], .exc "InvalidPage" [], .exc "InvalidDoor" [], .exc "InvalidChoice" [], .exc "InvalidIndex" [], .exc "Unlike" [], .exc "Needless" [], .exc "NothingThere" [], .exc "NoBlock" [], .exc "NothingToUndo" [], .exc "InvalidCommand" [], .exc "Mixed" [.str "wishes", a], .exc "InvalidWords" [.str "place", .int n]]
theorem each_eq {s : Str} {xs : List D} {n : Int} : f__law_each [⟨.shr, .str s⟩, ⟨.shr, .tup xs⟩, ⟨.shr, .int n⟩] = .ok ⟨.own, .lst (errsD (.tup xs) n)⟩ .non := by
  have hz : ∀ n : Nat, n ≤ 64 → n ≤ sizeLine := fun n hn => by rw [sizeLine_eq]; omega
  have h4 := hz 4 (by omega)
  have h5 := hz 5 (by omega)
  have h10 := hz 10 (by omega)
  have h15 := hz 15 (by omega)
  have h19 := hz 19 (by omega)
  have q1 : pExcF "Mixed" "wishes" [.tup xs] = some (.d (.exc "Mixed" [.str "wishes", .tup xs])) := rfl
  have q2 : pExcF "InvalidWords" "place" [.int n] = some (.d (.exc "InvalidWords" [.str "place", .int n])) := rfl
  refine def_eq rfl ?_
  simp [m__law_each, h4, h5, h10, h15, h19, q1, q2, errsD]
theorem okR_int30 {i : Int} (h0 : 0 ≤ i) (h : i < 10 ^ 30) : okR (.int i) = true := by
  have k := okD_int i
  simp only [okD, Bool.and_eq_true] at k
  simp only [okR, k, Bool.true_and, Bool.and_eq_true, decide_eq_true_eq]
  refine ⟨by simp only [toP, PyData.showable, decide_eq_true_eq]; exact Nat.lt_trans (log_le (k := 101) (by omega) (by omega) (by decide)) (by decide), ?_⟩
  have b := int_len h0 h
  show (toString i : Str).length ≤ sizeLine
  rw [sizeLine_eq]; omega

def m00a : DE := dPrim pTupOf [.v (dComp [6] (iArgs rng1 [.v (dCallR f__law_pull 2 [.v (dC (.int 41))])]) (gSet 6) (dYes) (dCallR f__law_pull 2 [.v (dC (.int 10))]))]
def m00t : DS := dForI (iArgs rng1 [.v (dC (.int 19))]) (gSet 6) (dIfS (dTst (dPrim pNe [.v (dCall f__law_stands_under [.v (dPrim pIx [.s 5, .s 6])]), .v (dPrim pLst [.v (dVar 6)])])) (dRet (dC (.bl false))) (dNext))
theorem m00_eq : m_law = dSeq (dForI (iSeq (dPrim pAdd [.v (dPrim pLst [.v (dPrim pAdd [.v (dPrim pPow [.v (dC (.int 199)), .v (dC (.int 26))]), .v (dC (.int 4))])]), .v (dSlice pSlice (.s 0) none (some (dC (.int 4))))])) (gSet 1) (dSeq (dSet 2 (dCall f__law_fill [.v (dVar 1)])) (dSeq (dSet 3 m00a) (dSeq (dSet 4 (dCallR f__law_pull 2 [.v (dPrim pPow [.v (dC (.int 10)), .v (dC (.int 30))])])) (dSeq (dSet 5 (dCall f__law_each [.v (dPrim pAdd [.v (dC (.str "the word ")), .v (dPrim pStrOf [.s 4])]), .v (dVar 3), .v (dVar 4)])) (dSeq m00t (dSeq (dIfS (dOr (dNot (dTst (dCall f__law_same [.v (dPrim (pFld "Mixed" "wishes") [.v (dPrim pIx [.s 5, .v (dC (.int 17))])]), .v (dVar 3)]))) (dNot (dTst (dCall f__law_same [.v (dPrim (pFld "InvalidWords" "place") [.v (dPrim pIx [.s 5, .v (dC (.int 18))])]), .v (dVar 4)])))) (dRet (dC (.bl false))) (dNext)) (dIfS (dOr (dTst (dPrim pNe [.v (dPrim (pFld "Mixed" "wishes") [.v (dPrim (pExcF "Mixed" "wishes") [.s 3])]), .s 3])) (dTst (dPrim pNe [.v (dPrim (pFld "InvalidWords" "place") [.v (dPrim (pExcF "InvalidWords" "place") [.s 4])]), .s 4]))) (dRet (dC (.bl false))) (dNext))))))))) (dRet (dPrim pEqE [.v (dCall f__law_stands_under [.v (dExcV "WishError" (dC (.str "a")))]), .v (dPrim pLst [])])) := rfl
theorem a_fin {a b : Int} (hb : 0 ≤ b ∧ b < 2147483587) {e0 e1 e3 e4 e5 e6 : Option Ent} :
    DL.Fin (m00a [e0, e1, some ⟨.own, jar a b 0⟩, e3, e4, e5, e6]) fun r e => ∃ (ns : List Nat) (a' c' : Int) (f6 : Option Ent), r = ⟨.shr, .tup (dNats ns)⟩ ∧ (∀ n ∈ ns, n ≤ 9) ∧ ns.length ≤ 40 ∧ e = [e0, e1, some ⟨.own, jar a' b c'⟩, e3, e4, e5, f6] ∧ 0 ≤ c' ∧ c' ≤ 41 := by
  obtain ⟨r, a1, c1, e1', hr, hc1⟩ := pull_wide (a := a) (c := 0) (n := 0) (s := 41) hb ⟨by omega, by omega⟩ (by omega) ⟨by omega, by omega⟩
  obtain ⟨m, rfl⟩ : ∃ m : Nat, r = (m : Int) := ⟨r.toNat, by omega⟩
  have rg := rng1_eq (j := (m : Int)) (sm62 (by omega) (by omega))
  have hlen : (rngD 0 (m : Int).toNat).length = m := by rw [rngD_len]; omega
  unfold m00a
  simp
  refine fin_compS [e0, e1, some ⟨.own, jar a1 b c1⟩, e3, e4, e5, e6] (rngD 0 (m : Int).toNat) (fun acc en => ∃ (ns : List Nat) (a' c' : Int), acc = dNats ns ∧ (∀ n ∈ ns, n ≤ 9) ∧ en = [e0, e1, some ⟨.own, jar a' b c'⟩, e3, e4, e5, none] ∧ 0 ≤ c' ∧ c' ≤ 1 + (acc.length : Int)) (by simp [e1', rg]) (by rw [hlen, sizeLine_eq]; omega) ⟨[], a1, c1, rfl, nofun, rfl, hc1.1, by simpa using hc1.2⟩ (fun acc x en hl hI => ?_) (fun acc en hl hI => ?_)
  · obtain ⟨ns, a2, c2, rfl, hns, rfl, h0, h1⟩ := hI
    rw [hlen] at hl
    obtain ⟨r2, a3, c3, e2, hr2, hc3⟩ := pull_wide (a := a2) (c := c2) (n := 1 + ((dNats ns).length : Int)) (s := 10) hb ⟨h0, h1⟩ (by omega) ⟨by omega, by omega⟩
    obtain ⟨q, rfl⟩ : ∃ q : Nat, r2 = (q : Int) := ⟨r2.toNat, by omega⟩
    refine ⟨_, rfl, ?_⟩
    simp [e2]
    refine ⟨ns ++ [q], ?_, fun n hn => ?_, a3, c3, rfl, hc3.1, by omega⟩
    · simp [dNats]
    · rcases List.mem_append.mp hn with hn | hn
      · exact hns n hn
      · rw [List.mem_singleton.mp hn]; omega
  · obtain ⟨ns, a2, c2, rfl, hns, rfl, h0, h1⟩ := hI
    rw [hlen] at hl
    have hl' : ns.length = m := by rw [← hl, dNats_len]
    have hs : ns.length ≤ sizeLine := by rw [sizeLine_eq]; omega
    simp [dNats_len, hs]
    exact ⟨ns, rfl, hns, by omega, a2, c2, rfl, h0, by rw [hl] at h1; omega⟩

theorem isK {c y : Str} {all b : Bool} {fs : List D} (hc : (["InvalidTree", "InvalidLocale", "InvalidWishes", "InvalidWay", "InvalidCatalog", "InvalidKey", "InvalidText", "InvalidPage", "InvalidDoor", "InvalidChoice", "InvalidIndex", "Unlike", "Needless", "NothingThere", "NoBlock", "NothingToUndo", "InvalidCommand", "Mixed", "InvalidWords", "WishError"] : List Str).contains c = true) (hb : (all || c == y) = b) : pIsO (["InvalidTree", "InvalidLocale", "InvalidWishes", "InvalidWay", "InvalidCatalog", "InvalidKey", "InvalidText", "InvalidPage", "InvalidDoor", "InvalidChoice", "InvalidIndex", "Unlike", "Needless", "NothingThere", "NoBlock", "NothingToUndo", "InvalidCommand", "Mixed", "InvalidWords", "WishError"] : List Str) y all [.exc c fs] = some (.d (.bl b)) := by
  rw [p_isO, if_pos hc, hb]
theorem muK : ∀ (n k : Int), 0 ≤ k → k ≤ 1 → pMul [.lst [.int n], .int k] = some (.nl (List.replicate k.toNat (D.int n))) := fun n k h0 h1 => by
  have e : pMul [.lst [.int n], .int k] = if -(2 ^ 63) ≤ k ∧ k < 2 ^ 63 ∧ [D.int n].length * k.toNat ≤ sizeLine then some (.nl (List.replicate k.toNat [D.int n]).flatten) else none := id rfl
  rw [e, if_pos ⟨by omega, by omega, by rw [List.length_singleton, sizeLine_eq]; omega⟩, List.flatten_replicate_singleton]
theorem mu0K : ∀ n : Int, pMul [.lst [.int n], .int 0] = some (.nl []) := fun n => muK n 0 (by omega) (by omega)
theorem mu1K : ∀ n : Int, pMul [.lst [.int n], .int 1] = some (.nl [.int n]) := fun n => muK n 1 (by omega) (by omega)
theorem stands_InvalidTree {fs : List D} : f__law_stands_under [⟨.shr, .exc "InvalidTree" fs⟩] = .ok ⟨.own, .lst [.int 0]⟩ .non := by
  have hz : ∀ n : Nat, n ≤ 64 → n ≤ sizeLine := fun n hn => by rw [sizeLine_eq]; omega
  have hz0 := hz 0 (by omega)
  have hz1 := hz 1 (by omega)
  have hc : (["InvalidTree", "InvalidLocale", "InvalidWishes", "InvalidWay", "InvalidCatalog", "InvalidKey", "InvalidText", "InvalidPage", "InvalidDoor", "InvalidChoice", "InvalidIndex", "Unlike", "Needless", "NothingThere", "NoBlock", "NothingToUndo", "InvalidCommand", "Mixed", "InvalidWords", "WishError"] : List Str).contains "InvalidTree" = true := by decide +kernel
  have i0 := isK (c := "InvalidTree") (y := "InvalidTree") (all := false) (b := true) (fs := fs) hc (by decide +kernel)
  have i1 := isK (c := "InvalidTree") (y := "InvalidLocale") (all := false) (b := false) (fs := fs) hc (by decide +kernel)
  have i2 := isK (c := "InvalidTree") (y := "InvalidWishes") (all := false) (b := false) (fs := fs) hc (by decide +kernel)
  have i3 := isK (c := "InvalidTree") (y := "InvalidWay") (all := false) (b := false) (fs := fs) hc (by decide +kernel)
  have i4 := isK (c := "InvalidTree") (y := "InvalidCatalog") (all := false) (b := false) (fs := fs) hc (by decide +kernel)
  have i5 := isK (c := "InvalidTree") (y := "InvalidKey") (all := false) (b := false) (fs := fs) hc (by decide +kernel)
  have i6 := isK (c := "InvalidTree") (y := "InvalidText") (all := false) (b := false) (fs := fs) hc (by decide +kernel)
  have i7 := isK (c := "InvalidTree") (y := "InvalidPage") (all := false) (b := false) (fs := fs) hc (by decide +kernel)
  have i8 := isK (c := "InvalidTree") (y := "InvalidDoor") (all := false) (b := false) (fs := fs) hc (by decide +kernel)
  have i9 := isK (c := "InvalidTree") (y := "InvalidChoice") (all := false) (b := false) (fs := fs) hc (by decide +kernel)
  have i10 := isK (c := "InvalidTree") (y := "InvalidIndex") (all := false) (b := false) (fs := fs) hc (by decide +kernel)
  have i11 := isK (c := "InvalidTree") (y := "Unlike") (all := false) (b := false) (fs := fs) hc (by decide +kernel)
  have i12 := isK (c := "InvalidTree") (y := "Needless") (all := false) (b := false) (fs := fs) hc (by decide +kernel)
  have i13 := isK (c := "InvalidTree") (y := "NothingThere") (all := false) (b := false) (fs := fs) hc (by decide +kernel)
  have i14 := isK (c := "InvalidTree") (y := "NoBlock") (all := false) (b := false) (fs := fs) hc (by decide +kernel)
  have i15 := isK (c := "InvalidTree") (y := "NothingToUndo") (all := false) (b := false) (fs := fs) hc (by decide +kernel)
  have i16 := isK (c := "InvalidTree") (y := "InvalidCommand") (all := false) (b := false) (fs := fs) hc (by decide +kernel)
  have i17 := isK (c := "InvalidTree") (y := "Mixed") (all := false) (b := false) (fs := fs) hc (by decide +kernel)
  have i18 := isK (c := "InvalidTree") (y := "InvalidWords") (all := false) (b := false) (fs := fs) hc (by decide +kernel)
  have i19 := isK (c := "InvalidTree") (y := "WishError") (all := true) (b := true) (fs := fs) hc (by decide +kernel)
  have i20 := isK (c := "InvalidTree") (y := "ValueError") (all := true) (b := true) (fs := fs) hc (by decide +kernel)
  refine def_eq rfl ?_
  simp [m__law_stands_under, -p_isO, i0, i1, i2, i3, i4, i5, i6, i7, i8, i9, i10, i11, i12, i13, i14, i15, i16, i17, i18, i19, i20, mu0K, mu1K, hz0, hz1]
theorem stands_InvalidLocale {fs : List D} : f__law_stands_under [⟨.shr, .exc "InvalidLocale" fs⟩] = .ok ⟨.own, .lst [.int 1]⟩ .non := by
  have hz : ∀ n : Nat, n ≤ 64 → n ≤ sizeLine := fun n hn => by rw [sizeLine_eq]; omega
  have hz0 := hz 0 (by omega)
  have hz1 := hz 1 (by omega)
  have hc : (["InvalidTree", "InvalidLocale", "InvalidWishes", "InvalidWay", "InvalidCatalog", "InvalidKey", "InvalidText", "InvalidPage", "InvalidDoor", "InvalidChoice", "InvalidIndex", "Unlike", "Needless", "NothingThere", "NoBlock", "NothingToUndo", "InvalidCommand", "Mixed", "InvalidWords", "WishError"] : List Str).contains "InvalidLocale" = true := by decide +kernel
  have i0 := isK (c := "InvalidLocale") (y := "InvalidTree") (all := false) (b := false) (fs := fs) hc (by decide +kernel)
  have i1 := isK (c := "InvalidLocale") (y := "InvalidLocale") (all := false) (b := true) (fs := fs) hc (by decide +kernel)
  have i2 := isK (c := "InvalidLocale") (y := "InvalidWishes") (all := false) (b := false) (fs := fs) hc (by decide +kernel)
  have i3 := isK (c := "InvalidLocale") (y := "InvalidWay") (all := false) (b := false) (fs := fs) hc (by decide +kernel)
  have i4 := isK (c := "InvalidLocale") (y := "InvalidCatalog") (all := false) (b := false) (fs := fs) hc (by decide +kernel)
  have i5 := isK (c := "InvalidLocale") (y := "InvalidKey") (all := false) (b := false) (fs := fs) hc (by decide +kernel)
  have i6 := isK (c := "InvalidLocale") (y := "InvalidText") (all := false) (b := false) (fs := fs) hc (by decide +kernel)
  have i7 := isK (c := "InvalidLocale") (y := "InvalidPage") (all := false) (b := false) (fs := fs) hc (by decide +kernel)
  have i8 := isK (c := "InvalidLocale") (y := "InvalidDoor") (all := false) (b := false) (fs := fs) hc (by decide +kernel)
  have i9 := isK (c := "InvalidLocale") (y := "InvalidChoice") (all := false) (b := false) (fs := fs) hc (by decide +kernel)
  have i10 := isK (c := "InvalidLocale") (y := "InvalidIndex") (all := false) (b := false) (fs := fs) hc (by decide +kernel)
  have i11 := isK (c := "InvalidLocale") (y := "Unlike") (all := false) (b := false) (fs := fs) hc (by decide +kernel)
  have i12 := isK (c := "InvalidLocale") (y := "Needless") (all := false) (b := false) (fs := fs) hc (by decide +kernel)
  have i13 := isK (c := "InvalidLocale") (y := "NothingThere") (all := false) (b := false) (fs := fs) hc (by decide +kernel)
  have i14 := isK (c := "InvalidLocale") (y := "NoBlock") (all := false) (b := false) (fs := fs) hc (by decide +kernel)
  have i15 := isK (c := "InvalidLocale") (y := "NothingToUndo") (all := false) (b := false) (fs := fs) hc (by decide +kernel)
  have i16 := isK (c := "InvalidLocale") (y := "InvalidCommand") (all := false) (b := false) (fs := fs) hc (by decide +kernel)
  have i17 := isK (c := "InvalidLocale") (y := "Mixed") (all := false) (b := false) (fs := fs) hc (by decide +kernel)
  have i18 := isK (c := "InvalidLocale") (y := "InvalidWords") (all := false) (b := false) (fs := fs) hc (by decide +kernel)
  have i19 := isK (c := "InvalidLocale") (y := "WishError") (all := true) (b := true) (fs := fs) hc (by decide +kernel)
  have i20 := isK (c := "InvalidLocale") (y := "ValueError") (all := true) (b := true) (fs := fs) hc (by decide +kernel)
  refine def_eq rfl ?_
  simp [m__law_stands_under, -p_isO, i0, i1, i2, i3, i4, i5, i6, i7, i8, i9, i10, i11, i12, i13, i14, i15, i16, i17, i18, i19, i20, mu0K, mu1K, hz0, hz1]
theorem stands_InvalidWishes {fs : List D} : f__law_stands_under [⟨.shr, .exc "InvalidWishes" fs⟩] = .ok ⟨.own, .lst [.int 2]⟩ .non := by
  have hz : ∀ n : Nat, n ≤ 64 → n ≤ sizeLine := fun n hn => by rw [sizeLine_eq]; omega
  have hz0 := hz 0 (by omega)
  have hz1 := hz 1 (by omega)
  have hc : (["InvalidTree", "InvalidLocale", "InvalidWishes", "InvalidWay", "InvalidCatalog", "InvalidKey", "InvalidText", "InvalidPage", "InvalidDoor", "InvalidChoice", "InvalidIndex", "Unlike", "Needless", "NothingThere", "NoBlock", "NothingToUndo", "InvalidCommand", "Mixed", "InvalidWords", "WishError"] : List Str).contains "InvalidWishes" = true := by decide +kernel
  have i0 := isK (c := "InvalidWishes") (y := "InvalidTree") (all := false) (b := false) (fs := fs) hc (by decide +kernel)
  have i1 := isK (c := "InvalidWishes") (y := "InvalidLocale") (all := false) (b := false) (fs := fs) hc (by decide +kernel)
  have i2 := isK (c := "InvalidWishes") (y := "InvalidWishes") (all := false) (b := true) (fs := fs) hc (by decide +kernel)
  have i3 := isK (c := "InvalidWishes") (y := "InvalidWay") (all := false) (b := false) (fs := fs) hc (by decide +kernel)
  have i4 := isK (c := "InvalidWishes") (y := "InvalidCatalog") (all := false) (b := false) (fs := fs) hc (by decide +kernel)
  have i5 := isK (c := "InvalidWishes") (y := "InvalidKey") (all := false) (b := false) (fs := fs) hc (by decide +kernel)
  have i6 := isK (c := "InvalidWishes") (y := "InvalidText") (all := false) (b := false) (fs := fs) hc (by decide +kernel)
  have i7 := isK (c := "InvalidWishes") (y := "InvalidPage") (all := false) (b := false) (fs := fs) hc (by decide +kernel)
  have i8 := isK (c := "InvalidWishes") (y := "InvalidDoor") (all := false) (b := false) (fs := fs) hc (by decide +kernel)
  have i9 := isK (c := "InvalidWishes") (y := "InvalidChoice") (all := false) (b := false) (fs := fs) hc (by decide +kernel)
  have i10 := isK (c := "InvalidWishes") (y := "InvalidIndex") (all := false) (b := false) (fs := fs) hc (by decide +kernel)
  have i11 := isK (c := "InvalidWishes") (y := "Unlike") (all := false) (b := false) (fs := fs) hc (by decide +kernel)
  have i12 := isK (c := "InvalidWishes") (y := "Needless") (all := false) (b := false) (fs := fs) hc (by decide +kernel)
  have i13 := isK (c := "InvalidWishes") (y := "NothingThere") (all := false) (b := false) (fs := fs) hc (by decide +kernel)
  have i14 := isK (c := "InvalidWishes") (y := "NoBlock") (all := false) (b := false) (fs := fs) hc (by decide +kernel)
  have i15 := isK (c := "InvalidWishes") (y := "NothingToUndo") (all := false) (b := false) (fs := fs) hc (by decide +kernel)
  have i16 := isK (c := "InvalidWishes") (y := "InvalidCommand") (all := false) (b := false) (fs := fs) hc (by decide +kernel)
  have i17 := isK (c := "InvalidWishes") (y := "Mixed") (all := false) (b := false) (fs := fs) hc (by decide +kernel)
  have i18 := isK (c := "InvalidWishes") (y := "InvalidWords") (all := false) (b := false) (fs := fs) hc (by decide +kernel)
  have i19 := isK (c := "InvalidWishes") (y := "WishError") (all := true) (b := true) (fs := fs) hc (by decide +kernel)
  have i20 := isK (c := "InvalidWishes") (y := "ValueError") (all := true) (b := true) (fs := fs) hc (by decide +kernel)
  refine def_eq rfl ?_
  simp [m__law_stands_under, -p_isO, i0, i1, i2, i3, i4, i5, i6, i7, i8, i9, i10, i11, i12, i13, i14, i15, i16, i17, i18, i19, i20, mu0K, mu1K, hz0, hz1]
theorem stands_InvalidWay {fs : List D} : f__law_stands_under [⟨.shr, .exc "InvalidWay" fs⟩] = .ok ⟨.own, .lst [.int 3]⟩ .non := by
  have hz : ∀ n : Nat, n ≤ 64 → n ≤ sizeLine := fun n hn => by rw [sizeLine_eq]; omega
  have hz0 := hz 0 (by omega)
  have hz1 := hz 1 (by omega)
  have hc : (["InvalidTree", "InvalidLocale", "InvalidWishes", "InvalidWay", "InvalidCatalog", "InvalidKey", "InvalidText", "InvalidPage", "InvalidDoor", "InvalidChoice", "InvalidIndex", "Unlike", "Needless", "NothingThere", "NoBlock", "NothingToUndo", "InvalidCommand", "Mixed", "InvalidWords", "WishError"] : List Str).contains "InvalidWay" = true := by decide +kernel
  have i0 := isK (c := "InvalidWay") (y := "InvalidTree") (all := false) (b := false) (fs := fs) hc (by decide +kernel)
  have i1 := isK (c := "InvalidWay") (y := "InvalidLocale") (all := false) (b := false) (fs := fs) hc (by decide +kernel)
  have i2 := isK (c := "InvalidWay") (y := "InvalidWishes") (all := false) (b := false) (fs := fs) hc (by decide +kernel)
  have i3 := isK (c := "InvalidWay") (y := "InvalidWay") (all := false) (b := true) (fs := fs) hc (by decide +kernel)
  have i4 := isK (c := "InvalidWay") (y := "InvalidCatalog") (all := false) (b := false) (fs := fs) hc (by decide +kernel)
  have i5 := isK (c := "InvalidWay") (y := "InvalidKey") (all := false) (b := false) (fs := fs) hc (by decide +kernel)
  have i6 := isK (c := "InvalidWay") (y := "InvalidText") (all := false) (b := false) (fs := fs) hc (by decide +kernel)
  have i7 := isK (c := "InvalidWay") (y := "InvalidPage") (all := false) (b := false) (fs := fs) hc (by decide +kernel)
  have i8 := isK (c := "InvalidWay") (y := "InvalidDoor") (all := false) (b := false) (fs := fs) hc (by decide +kernel)
  have i9 := isK (c := "InvalidWay") (y := "InvalidChoice") (all := false) (b := false) (fs := fs) hc (by decide +kernel)
  have i10 := isK (c := "InvalidWay") (y := "InvalidIndex") (all := false) (b := false) (fs := fs) hc (by decide +kernel)
  have i11 := isK (c := "InvalidWay") (y := "Unlike") (all := false) (b := false) (fs := fs) hc (by decide +kernel)
  have i12 := isK (c := "InvalidWay") (y := "Needless") (all := false) (b := false) (fs := fs) hc (by decide +kernel)
  have i13 := isK (c := "InvalidWay") (y := "NothingThere") (all := false) (b := false) (fs := fs) hc (by decide +kernel)
  have i14 := isK (c := "InvalidWay") (y := "NoBlock") (all := false) (b := false) (fs := fs) hc (by decide +kernel)
  have i15 := isK (c := "InvalidWay") (y := "NothingToUndo") (all := false) (b := false) (fs := fs) hc (by decide +kernel)
  have i16 := isK (c := "InvalidWay") (y := "InvalidCommand") (all := false) (b := false) (fs := fs) hc (by decide +kernel)
  have i17 := isK (c := "InvalidWay") (y := "Mixed") (all := false) (b := false) (fs := fs) hc (by decide +kernel)
  have i18 := isK (c := "InvalidWay") (y := "InvalidWords") (all := false) (b := false) (fs := fs) hc (by decide +kernel)
  have i19 := isK (c := "InvalidWay") (y := "WishError") (all := true) (b := true) (fs := fs) hc (by decide +kernel)
  have i20 := isK (c := "InvalidWay") (y := "ValueError") (all := true) (b := true) (fs := fs) hc (by decide +kernel)
  refine def_eq rfl ?_
  simp [m__law_stands_under, -p_isO, i0, i1, i2, i3, i4, i5, i6, i7, i8, i9, i10, i11, i12, i13, i14, i15, i16, i17, i18, i19, i20, mu0K, mu1K, hz0, hz1]
theorem stands_InvalidCatalog {fs : List D} : f__law_stands_under [⟨.shr, .exc "InvalidCatalog" fs⟩] = .ok ⟨.own, .lst [.int 4]⟩ .non := by
  have hz : ∀ n : Nat, n ≤ 64 → n ≤ sizeLine := fun n hn => by rw [sizeLine_eq]; omega
  have hz0 := hz 0 (by omega)
  have hz1 := hz 1 (by omega)
  have hc : (["InvalidTree", "InvalidLocale", "InvalidWishes", "InvalidWay", "InvalidCatalog", "InvalidKey", "InvalidText", "InvalidPage", "InvalidDoor", "InvalidChoice", "InvalidIndex", "Unlike", "Needless", "NothingThere", "NoBlock", "NothingToUndo", "InvalidCommand", "Mixed", "InvalidWords", "WishError"] : List Str).contains "InvalidCatalog" = true := by decide +kernel
  have i0 := isK (c := "InvalidCatalog") (y := "InvalidTree") (all := false) (b := false) (fs := fs) hc (by decide +kernel)
  have i1 := isK (c := "InvalidCatalog") (y := "InvalidLocale") (all := false) (b := false) (fs := fs) hc (by decide +kernel)
  have i2 := isK (c := "InvalidCatalog") (y := "InvalidWishes") (all := false) (b := false) (fs := fs) hc (by decide +kernel)
  have i3 := isK (c := "InvalidCatalog") (y := "InvalidWay") (all := false) (b := false) (fs := fs) hc (by decide +kernel)
  have i4 := isK (c := "InvalidCatalog") (y := "InvalidCatalog") (all := false) (b := true) (fs := fs) hc (by decide +kernel)
  have i5 := isK (c := "InvalidCatalog") (y := "InvalidKey") (all := false) (b := false) (fs := fs) hc (by decide +kernel)
  have i6 := isK (c := "InvalidCatalog") (y := "InvalidText") (all := false) (b := false) (fs := fs) hc (by decide +kernel)
  have i7 := isK (c := "InvalidCatalog") (y := "InvalidPage") (all := false) (b := false) (fs := fs) hc (by decide +kernel)
  have i8 := isK (c := "InvalidCatalog") (y := "InvalidDoor") (all := false) (b := false) (fs := fs) hc (by decide +kernel)
  have i9 := isK (c := "InvalidCatalog") (y := "InvalidChoice") (all := false) (b := false) (fs := fs) hc (by decide +kernel)
  have i10 := isK (c := "InvalidCatalog") (y := "InvalidIndex") (all := false) (b := false) (fs := fs) hc (by decide +kernel)
  have i11 := isK (c := "InvalidCatalog") (y := "Unlike") (all := false) (b := false) (fs := fs) hc (by decide +kernel)
  have i12 := isK (c := "InvalidCatalog") (y := "Needless") (all := false) (b := false) (fs := fs) hc (by decide +kernel)
  have i13 := isK (c := "InvalidCatalog") (y := "NothingThere") (all := false) (b := false) (fs := fs) hc (by decide +kernel)
  have i14 := isK (c := "InvalidCatalog") (y := "NoBlock") (all := false) (b := false) (fs := fs) hc (by decide +kernel)
  have i15 := isK (c := "InvalidCatalog") (y := "NothingToUndo") (all := false) (b := false) (fs := fs) hc (by decide +kernel)
  have i16 := isK (c := "InvalidCatalog") (y := "InvalidCommand") (all := false) (b := false) (fs := fs) hc (by decide +kernel)
  have i17 := isK (c := "InvalidCatalog") (y := "Mixed") (all := false) (b := false) (fs := fs) hc (by decide +kernel)
  have i18 := isK (c := "InvalidCatalog") (y := "InvalidWords") (all := false) (b := false) (fs := fs) hc (by decide +kernel)
  have i19 := isK (c := "InvalidCatalog") (y := "WishError") (all := true) (b := true) (fs := fs) hc (by decide +kernel)
  have i20 := isK (c := "InvalidCatalog") (y := "ValueError") (all := true) (b := true) (fs := fs) hc (by decide +kernel)
  refine def_eq rfl ?_
  simp [m__law_stands_under, -p_isO, i0, i1, i2, i3, i4, i5, i6, i7, i8, i9, i10, i11, i12, i13, i14, i15, i16, i17, i18, i19, i20, mu0K, mu1K, hz0, hz1]
theorem stands_InvalidKey {fs : List D} : f__law_stands_under [⟨.shr, .exc "InvalidKey" fs⟩] = .ok ⟨.own, .lst [.int 5]⟩ .non := by
  have hz : ∀ n : Nat, n ≤ 64 → n ≤ sizeLine := fun n hn => by rw [sizeLine_eq]; omega
  have hz0 := hz 0 (by omega)
  have hz1 := hz 1 (by omega)
  have hc : (["InvalidTree", "InvalidLocale", "InvalidWishes", "InvalidWay", "InvalidCatalog", "InvalidKey", "InvalidText", "InvalidPage", "InvalidDoor", "InvalidChoice", "InvalidIndex", "Unlike", "Needless", "NothingThere", "NoBlock", "NothingToUndo", "InvalidCommand", "Mixed", "InvalidWords", "WishError"] : List Str).contains "InvalidKey" = true := by decide +kernel
  have i0 := isK (c := "InvalidKey") (y := "InvalidTree") (all := false) (b := false) (fs := fs) hc (by decide +kernel)
  have i1 := isK (c := "InvalidKey") (y := "InvalidLocale") (all := false) (b := false) (fs := fs) hc (by decide +kernel)
  have i2 := isK (c := "InvalidKey") (y := "InvalidWishes") (all := false) (b := false) (fs := fs) hc (by decide +kernel)
  have i3 := isK (c := "InvalidKey") (y := "InvalidWay") (all := false) (b := false) (fs := fs) hc (by decide +kernel)
  have i4 := isK (c := "InvalidKey") (y := "InvalidCatalog") (all := false) (b := false) (fs := fs) hc (by decide +kernel)
  have i5 := isK (c := "InvalidKey") (y := "InvalidKey") (all := false) (b := true) (fs := fs) hc (by decide +kernel)
  have i6 := isK (c := "InvalidKey") (y := "InvalidText") (all := false) (b := false) (fs := fs) hc (by decide +kernel)
  have i7 := isK (c := "InvalidKey") (y := "InvalidPage") (all := false) (b := false) (fs := fs) hc (by decide +kernel)
  have i8 := isK (c := "InvalidKey") (y := "InvalidDoor") (all := false) (b := false) (fs := fs) hc (by decide +kernel)
  have i9 := isK (c := "InvalidKey") (y := "InvalidChoice") (all := false) (b := false) (fs := fs) hc (by decide +kernel)
  have i10 := isK (c := "InvalidKey") (y := "InvalidIndex") (all := false) (b := false) (fs := fs) hc (by decide +kernel)
  have i11 := isK (c := "InvalidKey") (y := "Unlike") (all := false) (b := false) (fs := fs) hc (by decide +kernel)
  have i12 := isK (c := "InvalidKey") (y := "Needless") (all := false) (b := false) (fs := fs) hc (by decide +kernel)
  have i13 := isK (c := "InvalidKey") (y := "NothingThere") (all := false) (b := false) (fs := fs) hc (by decide +kernel)
  have i14 := isK (c := "InvalidKey") (y := "NoBlock") (all := false) (b := false) (fs := fs) hc (by decide +kernel)
  have i15 := isK (c := "InvalidKey") (y := "NothingToUndo") (all := false) (b := false) (fs := fs) hc (by decide +kernel)
  have i16 := isK (c := "InvalidKey") (y := "InvalidCommand") (all := false) (b := false) (fs := fs) hc (by decide +kernel)
  have i17 := isK (c := "InvalidKey") (y := "Mixed") (all := false) (b := false) (fs := fs) hc (by decide +kernel)
  have i18 := isK (c := "InvalidKey") (y := "InvalidWords") (all := false) (b := false) (fs := fs) hc (by decide +kernel)
  have i19 := isK (c := "InvalidKey") (y := "WishError") (all := true) (b := true) (fs := fs) hc (by decide +kernel)
  have i20 := isK (c := "InvalidKey") (y := "ValueError") (all := true) (b := true) (fs := fs) hc (by decide +kernel)
  refine def_eq rfl ?_
  simp [m__law_stands_under, -p_isO, i0, i1, i2, i3, i4, i5, i6, i7, i8, i9, i10, i11, i12, i13, i14, i15, i16, i17, i18, i19, i20, mu0K, mu1K, hz0, hz1]
theorem stands_InvalidText {fs : List D} : f__law_stands_under [⟨.shr, .exc "InvalidText" fs⟩] = .ok ⟨.own, .lst [.int 6]⟩ .non := by
  have hz : ∀ n : Nat, n ≤ 64 → n ≤ sizeLine := fun n hn => by rw [sizeLine_eq]; omega
  have hz0 := hz 0 (by omega)
  have hz1 := hz 1 (by omega)
  have hc : (["InvalidTree", "InvalidLocale", "InvalidWishes", "InvalidWay", "InvalidCatalog", "InvalidKey", "InvalidText", "InvalidPage", "InvalidDoor", "InvalidChoice", "InvalidIndex", "Unlike", "Needless", "NothingThere", "NoBlock", "NothingToUndo", "InvalidCommand", "Mixed", "InvalidWords", "WishError"] : List Str).contains "InvalidText" = true := by decide +kernel
  have i0 := isK (c := "InvalidText") (y := "InvalidTree") (all := false) (b := false) (fs := fs) hc (by decide +kernel)
  have i1 := isK (c := "InvalidText") (y := "InvalidLocale") (all := false) (b := false) (fs := fs) hc (by decide +kernel)
  have i2 := isK (c := "InvalidText") (y := "InvalidWishes") (all := false) (b := false) (fs := fs) hc (by decide +kernel)
  have i3 := isK (c := "InvalidText") (y := "InvalidWay") (all := false) (b := false) (fs := fs) hc (by decide +kernel)
  have i4 := isK (c := "InvalidText") (y := "InvalidCatalog") (all := false) (b := false) (fs := fs) hc (by decide +kernel)
  have i5 := isK (c := "InvalidText") (y := "InvalidKey") (all := false) (b := false) (fs := fs) hc (by decide +kernel)
  have i6 := isK (c := "InvalidText") (y := "InvalidText") (all := false) (b := true) (fs := fs) hc (by decide +kernel)
  have i7 := isK (c := "InvalidText") (y := "InvalidPage") (all := false) (b := false) (fs := fs) hc (by decide +kernel)
  have i8 := isK (c := "InvalidText") (y := "InvalidDoor") (all := false) (b := false) (fs := fs) hc (by decide +kernel)
  have i9 := isK (c := "InvalidText") (y := "InvalidChoice") (all := false) (b := false) (fs := fs) hc (by decide +kernel)
  have i10 := isK (c := "InvalidText") (y := "InvalidIndex") (all := false) (b := false) (fs := fs) hc (by decide +kernel)
  have i11 := isK (c := "InvalidText") (y := "Unlike") (all := false) (b := false) (fs := fs) hc (by decide +kernel)
  have i12 := isK (c := "InvalidText") (y := "Needless") (all := false) (b := false) (fs := fs) hc (by decide +kernel)
  have i13 := isK (c := "InvalidText") (y := "NothingThere") (all := false) (b := false) (fs := fs) hc (by decide +kernel)
  have i14 := isK (c := "InvalidText") (y := "NoBlock") (all := false) (b := false) (fs := fs) hc (by decide +kernel)
  have i15 := isK (c := "InvalidText") (y := "NothingToUndo") (all := false) (b := false) (fs := fs) hc (by decide +kernel)
  have i16 := isK (c := "InvalidText") (y := "InvalidCommand") (all := false) (b := false) (fs := fs) hc (by decide +kernel)
  have i17 := isK (c := "InvalidText") (y := "Mixed") (all := false) (b := false) (fs := fs) hc (by decide +kernel)
  have i18 := isK (c := "InvalidText") (y := "InvalidWords") (all := false) (b := false) (fs := fs) hc (by decide +kernel)
  have i19 := isK (c := "InvalidText") (y := "WishError") (all := true) (b := true) (fs := fs) hc (by decide +kernel)
  have i20 := isK (c := "InvalidText") (y := "ValueError") (all := true) (b := true) (fs := fs) hc (by decide +kernel)
  refine def_eq rfl ?_
  simp [m__law_stands_under, -p_isO, i0, i1, i2, i3, i4, i5, i6, i7, i8, i9, i10, i11, i12, i13, i14, i15, i16, i17, i18, i19, i20, mu0K, mu1K, hz0, hz1]
theorem stands_InvalidPage {fs : List D} : f__law_stands_under [⟨.shr, .exc "InvalidPage" fs⟩] = .ok ⟨.own, .lst [.int 7]⟩ .non := by
  have hz : ∀ n : Nat, n ≤ 64 → n ≤ sizeLine := fun n hn => by rw [sizeLine_eq]; omega
  have hz0 := hz 0 (by omega)
  have hz1 := hz 1 (by omega)
  have hc : (["InvalidTree", "InvalidLocale", "InvalidWishes", "InvalidWay", "InvalidCatalog", "InvalidKey", "InvalidText", "InvalidPage", "InvalidDoor", "InvalidChoice", "InvalidIndex", "Unlike", "Needless", "NothingThere", "NoBlock", "NothingToUndo", "InvalidCommand", "Mixed", "InvalidWords", "WishError"] : List Str).contains "InvalidPage" = true := by decide +kernel
  have i0 := isK (c := "InvalidPage") (y := "InvalidTree") (all := false) (b := false) (fs := fs) hc (by decide +kernel)
  have i1 := isK (c := "InvalidPage") (y := "InvalidLocale") (all := false) (b := false) (fs := fs) hc (by decide +kernel)
  have i2 := isK (c := "InvalidPage") (y := "InvalidWishes") (all := false) (b := false) (fs := fs) hc (by decide +kernel)
  have i3 := isK (c := "InvalidPage") (y := "InvalidWay") (all := false) (b := false) (fs := fs) hc (by decide +kernel)
  have i4 := isK (c := "InvalidPage") (y := "InvalidCatalog") (all := false) (b := false) (fs := fs) hc (by decide +kernel)
  have i5 := isK (c := "InvalidPage") (y := "InvalidKey") (all := false) (b := false) (fs := fs) hc (by decide +kernel)
  have i6 := isK (c := "InvalidPage") (y := "InvalidText") (all := false) (b := false) (fs := fs) hc (by decide +kernel)
  have i7 := isK (c := "InvalidPage") (y := "InvalidPage") (all := false) (b := true) (fs := fs) hc (by decide +kernel)
  have i8 := isK (c := "InvalidPage") (y := "InvalidDoor") (all := false) (b := false) (fs := fs) hc (by decide +kernel)
  have i9 := isK (c := "InvalidPage") (y := "InvalidChoice") (all := false) (b := false) (fs := fs) hc (by decide +kernel)
  have i10 := isK (c := "InvalidPage") (y := "InvalidIndex") (all := false) (b := false) (fs := fs) hc (by decide +kernel)
  have i11 := isK (c := "InvalidPage") (y := "Unlike") (all := false) (b := false) (fs := fs) hc (by decide +kernel)
  have i12 := isK (c := "InvalidPage") (y := "Needless") (all := false) (b := false) (fs := fs) hc (by decide +kernel)
  have i13 := isK (c := "InvalidPage") (y := "NothingThere") (all := false) (b := false) (fs := fs) hc (by decide +kernel)
  have i14 := isK (c := "InvalidPage") (y := "NoBlock") (all := false) (b := false) (fs := fs) hc (by decide +kernel)
  have i15 := isK (c := "InvalidPage") (y := "NothingToUndo") (all := false) (b := false) (fs := fs) hc (by decide +kernel)
  have i16 := isK (c := "InvalidPage") (y := "InvalidCommand") (all := false) (b := false) (fs := fs) hc (by decide +kernel)
  have i17 := isK (c := "InvalidPage") (y := "Mixed") (all := false) (b := false) (fs := fs) hc (by decide +kernel)
  have i18 := isK (c := "InvalidPage") (y := "InvalidWords") (all := false) (b := false) (fs := fs) hc (by decide +kernel)
  have i19 := isK (c := "InvalidPage") (y := "WishError") (all := true) (b := true) (fs := fs) hc (by decide +kernel)
  have i20 := isK (c := "InvalidPage") (y := "ValueError") (all := true) (b := true) (fs := fs) hc (by decide +kernel)
  refine def_eq rfl ?_
  simp [m__law_stands_under, -p_isO, i0, i1, i2, i3, i4, i5, i6, i7, i8, i9, i10, i11, i12, i13, i14, i15, i16, i17, i18, i19, i20, mu0K, mu1K, hz0, hz1]
theorem stands_InvalidDoor {fs : List D} : f__law_stands_under [⟨.shr, .exc "InvalidDoor" fs⟩] = .ok ⟨.own, .lst [.int 8]⟩ .non := by
  have hz : ∀ n : Nat, n ≤ 64 → n ≤ sizeLine := fun n hn => by rw [sizeLine_eq]; omega
  have hz0 := hz 0 (by omega)
  have hz1 := hz 1 (by omega)
  have hc : (["InvalidTree", "InvalidLocale", "InvalidWishes", "InvalidWay", "InvalidCatalog", "InvalidKey", "InvalidText", "InvalidPage", "InvalidDoor", "InvalidChoice", "InvalidIndex", "Unlike", "Needless", "NothingThere", "NoBlock", "NothingToUndo", "InvalidCommand", "Mixed", "InvalidWords", "WishError"] : List Str).contains "InvalidDoor" = true := by decide +kernel
  have i0 := isK (c := "InvalidDoor") (y := "InvalidTree") (all := false) (b := false) (fs := fs) hc (by decide +kernel)
  have i1 := isK (c := "InvalidDoor") (y := "InvalidLocale") (all := false) (b := false) (fs := fs) hc (by decide +kernel)
  have i2 := isK (c := "InvalidDoor") (y := "InvalidWishes") (all := false) (b := false) (fs := fs) hc (by decide +kernel)
  have i3 := isK (c := "InvalidDoor") (y := "InvalidWay") (all := false) (b := false) (fs := fs) hc (by decide +kernel)
  have i4 := isK (c := "InvalidDoor") (y := "InvalidCatalog") (all := false) (b := false) (fs := fs) hc (by decide +kernel)
  have i5 := isK (c := "InvalidDoor") (y := "InvalidKey") (all := false) (b := false) (fs := fs) hc (by decide +kernel)
  have i6 := isK (c := "InvalidDoor") (y := "InvalidText") (all := false) (b := false) (fs := fs) hc (by decide +kernel)
  have i7 := isK (c := "InvalidDoor") (y := "InvalidPage") (all := false) (b := false) (fs := fs) hc (by decide +kernel)
  have i8 := isK (c := "InvalidDoor") (y := "InvalidDoor") (all := false) (b := true) (fs := fs) hc (by decide +kernel)
  have i9 := isK (c := "InvalidDoor") (y := "InvalidChoice") (all := false) (b := false) (fs := fs) hc (by decide +kernel)
  have i10 := isK (c := "InvalidDoor") (y := "InvalidIndex") (all := false) (b := false) (fs := fs) hc (by decide +kernel)
  have i11 := isK (c := "InvalidDoor") (y := "Unlike") (all := false) (b := false) (fs := fs) hc (by decide +kernel)
  have i12 := isK (c := "InvalidDoor") (y := "Needless") (all := false) (b := false) (fs := fs) hc (by decide +kernel)
  have i13 := isK (c := "InvalidDoor") (y := "NothingThere") (all := false) (b := false) (fs := fs) hc (by decide +kernel)
  have i14 := isK (c := "InvalidDoor") (y := "NoBlock") (all := false) (b := false) (fs := fs) hc (by decide +kernel)
  have i15 := isK (c := "InvalidDoor") (y := "NothingToUndo") (all := false) (b := false) (fs := fs) hc (by decide +kernel)
  have i16 := isK (c := "InvalidDoor") (y := "InvalidCommand") (all := false) (b := false) (fs := fs) hc (by decide +kernel)
  have i17 := isK (c := "InvalidDoor") (y := "Mixed") (all := false) (b := false) (fs := fs) hc (by decide +kernel)
  have i18 := isK (c := "InvalidDoor") (y := "InvalidWords") (all := false) (b := false) (fs := fs) hc (by decide +kernel)
  have i19 := isK (c := "InvalidDoor") (y := "WishError") (all := true) (b := true) (fs := fs) hc (by decide +kernel)
  have i20 := isK (c := "InvalidDoor") (y := "ValueError") (all := true) (b := true) (fs := fs) hc (by decide +kernel)
  refine def_eq rfl ?_
  simp [m__law_stands_under, -p_isO, i0, i1, i2, i3, i4, i5, i6, i7, i8, i9, i10, i11, i12, i13, i14, i15, i16, i17, i18, i19, i20, mu0K, mu1K, hz0, hz1]
theorem stands_InvalidChoice {fs : List D} : f__law_stands_under [⟨.shr, .exc "InvalidChoice" fs⟩] = .ok ⟨.own, .lst [.int 9]⟩ .non := by
  have hz : ∀ n : Nat, n ≤ 64 → n ≤ sizeLine := fun n hn => by rw [sizeLine_eq]; omega
  have hz0 := hz 0 (by omega)
  have hz1 := hz 1 (by omega)
  have hc : (["InvalidTree", "InvalidLocale", "InvalidWishes", "InvalidWay", "InvalidCatalog", "InvalidKey", "InvalidText", "InvalidPage", "InvalidDoor", "InvalidChoice", "InvalidIndex", "Unlike", "Needless", "NothingThere", "NoBlock", "NothingToUndo", "InvalidCommand", "Mixed", "InvalidWords", "WishError"] : List Str).contains "InvalidChoice" = true := by decide +kernel
  have i0 := isK (c := "InvalidChoice") (y := "InvalidTree") (all := false) (b := false) (fs := fs) hc (by decide +kernel)
  have i1 := isK (c := "InvalidChoice") (y := "InvalidLocale") (all := false) (b := false) (fs := fs) hc (by decide +kernel)
  have i2 := isK (c := "InvalidChoice") (y := "InvalidWishes") (all := false) (b := false) (fs := fs) hc (by decide +kernel)
  have i3 := isK (c := "InvalidChoice") (y := "InvalidWay") (all := false) (b := false) (fs := fs) hc (by decide +kernel)
  have i4 := isK (c := "InvalidChoice") (y := "InvalidCatalog") (all := false) (b := false) (fs := fs) hc (by decide +kernel)
  have i5 := isK (c := "InvalidChoice") (y := "InvalidKey") (all := false) (b := false) (fs := fs) hc (by decide +kernel)
  have i6 := isK (c := "InvalidChoice") (y := "InvalidText") (all := false) (b := false) (fs := fs) hc (by decide +kernel)
  have i7 := isK (c := "InvalidChoice") (y := "InvalidPage") (all := false) (b := false) (fs := fs) hc (by decide +kernel)
  have i8 := isK (c := "InvalidChoice") (y := "InvalidDoor") (all := false) (b := false) (fs := fs) hc (by decide +kernel)
  have i9 := isK (c := "InvalidChoice") (y := "InvalidChoice") (all := false) (b := true) (fs := fs) hc (by decide +kernel)
  have i10 := isK (c := "InvalidChoice") (y := "InvalidIndex") (all := false) (b := false) (fs := fs) hc (by decide +kernel)
  have i11 := isK (c := "InvalidChoice") (y := "Unlike") (all := false) (b := false) (fs := fs) hc (by decide +kernel)
  have i12 := isK (c := "InvalidChoice") (y := "Needless") (all := false) (b := false) (fs := fs) hc (by decide +kernel)
  have i13 := isK (c := "InvalidChoice") (y := "NothingThere") (all := false) (b := false) (fs := fs) hc (by decide +kernel)
  have i14 := isK (c := "InvalidChoice") (y := "NoBlock") (all := false) (b := false) (fs := fs) hc (by decide +kernel)
  have i15 := isK (c := "InvalidChoice") (y := "NothingToUndo") (all := false) (b := false) (fs := fs) hc (by decide +kernel)
  have i16 := isK (c := "InvalidChoice") (y := "InvalidCommand") (all := false) (b := false) (fs := fs) hc (by decide +kernel)
  have i17 := isK (c := "InvalidChoice") (y := "Mixed") (all := false) (b := false) (fs := fs) hc (by decide +kernel)
  have i18 := isK (c := "InvalidChoice") (y := "InvalidWords") (all := false) (b := false) (fs := fs) hc (by decide +kernel)
  have i19 := isK (c := "InvalidChoice") (y := "WishError") (all := true) (b := true) (fs := fs) hc (by decide +kernel)
  have i20 := isK (c := "InvalidChoice") (y := "ValueError") (all := true) (b := true) (fs := fs) hc (by decide +kernel)
  refine def_eq rfl ?_
  simp [m__law_stands_under, -p_isO, i0, i1, i2, i3, i4, i5, i6, i7, i8, i9, i10, i11, i12, i13, i14, i15, i16, i17, i18, i19, i20, mu0K, mu1K, hz0, hz1]
theorem stands_InvalidIndex {fs : List D} : f__law_stands_under [⟨.shr, .exc "InvalidIndex" fs⟩] = .ok ⟨.own, .lst [.int 10]⟩ .non := by
  have hz : ∀ n : Nat, n ≤ 64 → n ≤ sizeLine := fun n hn => by rw [sizeLine_eq]; omega
  have hz0 := hz 0 (by omega)
  have hz1 := hz 1 (by omega)
  have hc : (["InvalidTree", "InvalidLocale", "InvalidWishes", "InvalidWay", "InvalidCatalog", "InvalidKey", "InvalidText", "InvalidPage", "InvalidDoor", "InvalidChoice", "InvalidIndex", "Unlike", "Needless", "NothingThere", "NoBlock", "NothingToUndo", "InvalidCommand", "Mixed", "InvalidWords", "WishError"] : List Str).contains "InvalidIndex" = true := by decide +kernel
  have i0 := isK (c := "InvalidIndex") (y := "InvalidTree") (all := false) (b := false) (fs := fs) hc (by decide +kernel)
  have i1 := isK (c := "InvalidIndex") (y := "InvalidLocale") (all := false) (b := false) (fs := fs) hc (by decide +kernel)
  have i2 := isK (c := "InvalidIndex") (y := "InvalidWishes") (all := false) (b := false) (fs := fs) hc (by decide +kernel)
  have i3 := isK (c := "InvalidIndex") (y := "InvalidWay") (all := false) (b := false) (fs := fs) hc (by decide +kernel)
  have i4 := isK (c := "InvalidIndex") (y := "InvalidCatalog") (all := false) (b := false) (fs := fs) hc (by decide +kernel)
  have i5 := isK (c := "InvalidIndex") (y := "InvalidKey") (all := false) (b := false) (fs := fs) hc (by decide +kernel)
  have i6 := isK (c := "InvalidIndex") (y := "InvalidText") (all := false) (b := false) (fs := fs) hc (by decide +kernel)
  have i7 := isK (c := "InvalidIndex") (y := "InvalidPage") (all := false) (b := false) (fs := fs) hc (by decide +kernel)
  have i8 := isK (c := "InvalidIndex") (y := "InvalidDoor") (all := false) (b := false) (fs := fs) hc (by decide +kernel)
  have i9 := isK (c := "InvalidIndex") (y := "InvalidChoice") (all := false) (b := false) (fs := fs) hc (by decide +kernel)
  have i10 := isK (c := "InvalidIndex") (y := "InvalidIndex") (all := false) (b := true) (fs := fs) hc (by decide +kernel)
  have i11 := isK (c := "InvalidIndex") (y := "Unlike") (all := false) (b := false) (fs := fs) hc (by decide +kernel)
  have i12 := isK (c := "InvalidIndex") (y := "Needless") (all := false) (b := false) (fs := fs) hc (by decide +kernel)
  have i13 := isK (c := "InvalidIndex") (y := "NothingThere") (all := false) (b := false) (fs := fs) hc (by decide +kernel)
  have i14 := isK (c := "InvalidIndex") (y := "NoBlock") (all := false) (b := false) (fs := fs) hc (by decide +kernel)
  have i15 := isK (c := "InvalidIndex") (y := "NothingToUndo") (all := false) (b := false) (fs := fs) hc (by decide +kernel)
  have i16 := isK (c := "InvalidIndex") (y := "InvalidCommand") (all := false) (b := false) (fs := fs) hc (by decide +kernel)
  have i17 := isK (c := "InvalidIndex") (y := "Mixed") (all := false) (b := false) (fs := fs) hc (by decide +kernel)
  have i18 := isK (c := "InvalidIndex") (y := "InvalidWords") (all := false) (b := false) (fs := fs) hc (by decide +kernel)
  have i19 := isK (c := "InvalidIndex") (y := "WishError") (all := true) (b := true) (fs := fs) hc (by decide +kernel)
  have i20 := isK (c := "InvalidIndex") (y := "ValueError") (all := true) (b := true) (fs := fs) hc (by decide +kernel)
  refine def_eq rfl ?_
  simp [m__law_stands_under, -p_isO, i0, i1, i2, i3, i4, i5, i6, i7, i8, i9, i10, i11, i12, i13, i14, i15, i16, i17, i18, i19, i20, mu0K, mu1K, hz0, hz1]
theorem stands_Unlike {fs : List D} : f__law_stands_under [⟨.shr, .exc "Unlike" fs⟩] = .ok ⟨.own, .lst [.int 11]⟩ .non := by
  have hz : ∀ n : Nat, n ≤ 64 → n ≤ sizeLine := fun n hn => by rw [sizeLine_eq]; omega
  have hz0 := hz 0 (by omega)
  have hz1 := hz 1 (by omega)
  have hc : (["InvalidTree", "InvalidLocale", "InvalidWishes", "InvalidWay", "InvalidCatalog", "InvalidKey", "InvalidText", "InvalidPage", "InvalidDoor", "InvalidChoice", "InvalidIndex", "Unlike", "Needless", "NothingThere", "NoBlock", "NothingToUndo", "InvalidCommand", "Mixed", "InvalidWords", "WishError"] : List Str).contains "Unlike" = true := by decide +kernel
  have i0 := isK (c := "Unlike") (y := "InvalidTree") (all := false) (b := false) (fs := fs) hc (by decide +kernel)
  have i1 := isK (c := "Unlike") (y := "InvalidLocale") (all := false) (b := false) (fs := fs) hc (by decide +kernel)
  have i2 := isK (c := "Unlike") (y := "InvalidWishes") (all := false) (b := false) (fs := fs) hc (by decide +kernel)
  have i3 := isK (c := "Unlike") (y := "InvalidWay") (all := false) (b := false) (fs := fs) hc (by decide +kernel)
  have i4 := isK (c := "Unlike") (y := "InvalidCatalog") (all := false) (b := false) (fs := fs) hc (by decide +kernel)
  have i5 := isK (c := "Unlike") (y := "InvalidKey") (all := false) (b := false) (fs := fs) hc (by decide +kernel)
  have i6 := isK (c := "Unlike") (y := "InvalidText") (all := false) (b := false) (fs := fs) hc (by decide +kernel)
  have i7 := isK (c := "Unlike") (y := "InvalidPage") (all := false) (b := false) (fs := fs) hc (by decide +kernel)
  have i8 := isK (c := "Unlike") (y := "InvalidDoor") (all := false) (b := false) (fs := fs) hc (by decide +kernel)
  have i9 := isK (c := "Unlike") (y := "InvalidChoice") (all := false) (b := false) (fs := fs) hc (by decide +kernel)
  have i10 := isK (c := "Unlike") (y := "InvalidIndex") (all := false) (b := false) (fs := fs) hc (by decide +kernel)
  have i11 := isK (c := "Unlike") (y := "Unlike") (all := false) (b := true) (fs := fs) hc (by decide +kernel)
  have i12 := isK (c := "Unlike") (y := "Needless") (all := false) (b := false) (fs := fs) hc (by decide +kernel)
  have i13 := isK (c := "Unlike") (y := "NothingThere") (all := false) (b := false) (fs := fs) hc (by decide +kernel)
  have i14 := isK (c := "Unlike") (y := "NoBlock") (all := false) (b := false) (fs := fs) hc (by decide +kernel)
  have i15 := isK (c := "Unlike") (y := "NothingToUndo") (all := false) (b := false) (fs := fs) hc (by decide +kernel)
  have i16 := isK (c := "Unlike") (y := "InvalidCommand") (all := false) (b := false) (fs := fs) hc (by decide +kernel)
  have i17 := isK (c := "Unlike") (y := "Mixed") (all := false) (b := false) (fs := fs) hc (by decide +kernel)
  have i18 := isK (c := "Unlike") (y := "InvalidWords") (all := false) (b := false) (fs := fs) hc (by decide +kernel)
  have i19 := isK (c := "Unlike") (y := "WishError") (all := true) (b := true) (fs := fs) hc (by decide +kernel)
  have i20 := isK (c := "Unlike") (y := "ValueError") (all := true) (b := true) (fs := fs) hc (by decide +kernel)
  refine def_eq rfl ?_
  simp [m__law_stands_under, -p_isO, i0, i1, i2, i3, i4, i5, i6, i7, i8, i9, i10, i11, i12, i13, i14, i15, i16, i17, i18, i19, i20, mu0K, mu1K, hz0, hz1]
theorem stands_Needless {fs : List D} : f__law_stands_under [⟨.shr, .exc "Needless" fs⟩] = .ok ⟨.own, .lst [.int 12]⟩ .non := by
  have hz : ∀ n : Nat, n ≤ 64 → n ≤ sizeLine := fun n hn => by rw [sizeLine_eq]; omega
  have hz0 := hz 0 (by omega)
  have hz1 := hz 1 (by omega)
  have hc : (["InvalidTree", "InvalidLocale", "InvalidWishes", "InvalidWay", "InvalidCatalog", "InvalidKey", "InvalidText", "InvalidPage", "InvalidDoor", "InvalidChoice", "InvalidIndex", "Unlike", "Needless", "NothingThere", "NoBlock", "NothingToUndo", "InvalidCommand", "Mixed", "InvalidWords", "WishError"] : List Str).contains "Needless" = true := by decide +kernel
  have i0 := isK (c := "Needless") (y := "InvalidTree") (all := false) (b := false) (fs := fs) hc (by decide +kernel)
  have i1 := isK (c := "Needless") (y := "InvalidLocale") (all := false) (b := false) (fs := fs) hc (by decide +kernel)
  have i2 := isK (c := "Needless") (y := "InvalidWishes") (all := false) (b := false) (fs := fs) hc (by decide +kernel)
  have i3 := isK (c := "Needless") (y := "InvalidWay") (all := false) (b := false) (fs := fs) hc (by decide +kernel)
  have i4 := isK (c := "Needless") (y := "InvalidCatalog") (all := false) (b := false) (fs := fs) hc (by decide +kernel)
  have i5 := isK (c := "Needless") (y := "InvalidKey") (all := false) (b := false) (fs := fs) hc (by decide +kernel)
  have i6 := isK (c := "Needless") (y := "InvalidText") (all := false) (b := false) (fs := fs) hc (by decide +kernel)
  have i7 := isK (c := "Needless") (y := "InvalidPage") (all := false) (b := false) (fs := fs) hc (by decide +kernel)
  have i8 := isK (c := "Needless") (y := "InvalidDoor") (all := false) (b := false) (fs := fs) hc (by decide +kernel)
  have i9 := isK (c := "Needless") (y := "InvalidChoice") (all := false) (b := false) (fs := fs) hc (by decide +kernel)
  have i10 := isK (c := "Needless") (y := "InvalidIndex") (all := false) (b := false) (fs := fs) hc (by decide +kernel)
  have i11 := isK (c := "Needless") (y := "Unlike") (all := false) (b := false) (fs := fs) hc (by decide +kernel)
  have i12 := isK (c := "Needless") (y := "Needless") (all := false) (b := true) (fs := fs) hc (by decide +kernel)
  have i13 := isK (c := "Needless") (y := "NothingThere") (all := false) (b := false) (fs := fs) hc (by decide +kernel)
  have i14 := isK (c := "Needless") (y := "NoBlock") (all := false) (b := false) (fs := fs) hc (by decide +kernel)
  have i15 := isK (c := "Needless") (y := "NothingToUndo") (all := false) (b := false) (fs := fs) hc (by decide +kernel)
  have i16 := isK (c := "Needless") (y := "InvalidCommand") (all := false) (b := false) (fs := fs) hc (by decide +kernel)
  have i17 := isK (c := "Needless") (y := "Mixed") (all := false) (b := false) (fs := fs) hc (by decide +kernel)
  have i18 := isK (c := "Needless") (y := "InvalidWords") (all := false) (b := false) (fs := fs) hc (by decide +kernel)
  have i19 := isK (c := "Needless") (y := "WishError") (all := true) (b := true) (fs := fs) hc (by decide +kernel)
  have i20 := isK (c := "Needless") (y := "ValueError") (all := true) (b := true) (fs := fs) hc (by decide +kernel)
  refine def_eq rfl ?_
  simp [m__law_stands_under, -p_isO, i0, i1, i2, i3, i4, i5, i6, i7, i8, i9, i10, i11, i12, i13, i14, i15, i16, i17, i18, i19, i20, mu0K, mu1K, hz0, hz1]
theorem stands_NothingThere {fs : List D} : f__law_stands_under [⟨.shr, .exc "NothingThere" fs⟩] = .ok ⟨.own, .lst [.int 13]⟩ .non := by
  have hz : ∀ n : Nat, n ≤ 64 → n ≤ sizeLine := fun n hn => by rw [sizeLine_eq]; omega
  have hz0 := hz 0 (by omega)
  have hz1 := hz 1 (by omega)
  have hc : (["InvalidTree", "InvalidLocale", "InvalidWishes", "InvalidWay", "InvalidCatalog", "InvalidKey", "InvalidText", "InvalidPage", "InvalidDoor", "InvalidChoice", "InvalidIndex", "Unlike", "Needless", "NothingThere", "NoBlock", "NothingToUndo", "InvalidCommand", "Mixed", "InvalidWords", "WishError"] : List Str).contains "NothingThere" = true := by decide +kernel
  have i0 := isK (c := "NothingThere") (y := "InvalidTree") (all := false) (b := false) (fs := fs) hc (by decide +kernel)
  have i1 := isK (c := "NothingThere") (y := "InvalidLocale") (all := false) (b := false) (fs := fs) hc (by decide +kernel)
  have i2 := isK (c := "NothingThere") (y := "InvalidWishes") (all := false) (b := false) (fs := fs) hc (by decide +kernel)
  have i3 := isK (c := "NothingThere") (y := "InvalidWay") (all := false) (b := false) (fs := fs) hc (by decide +kernel)
  have i4 := isK (c := "NothingThere") (y := "InvalidCatalog") (all := false) (b := false) (fs := fs) hc (by decide +kernel)
  have i5 := isK (c := "NothingThere") (y := "InvalidKey") (all := false) (b := false) (fs := fs) hc (by decide +kernel)
  have i6 := isK (c := "NothingThere") (y := "InvalidText") (all := false) (b := false) (fs := fs) hc (by decide +kernel)
  have i7 := isK (c := "NothingThere") (y := "InvalidPage") (all := false) (b := false) (fs := fs) hc (by decide +kernel)
  have i8 := isK (c := "NothingThere") (y := "InvalidDoor") (all := false) (b := false) (fs := fs) hc (by decide +kernel)
  have i9 := isK (c := "NothingThere") (y := "InvalidChoice") (all := false) (b := false) (fs := fs) hc (by decide +kernel)
  have i10 := isK (c := "NothingThere") (y := "InvalidIndex") (all := false) (b := false) (fs := fs) hc (by decide +kernel)
  have i11 := isK (c := "NothingThere") (y := "Unlike") (all := false) (b := false) (fs := fs) hc (by decide +kernel)
  have i12 := isK (c := "NothingThere") (y := "Needless") (all := false) (b := false) (fs := fs) hc (by decide +kernel)
  have i13 := isK (c := "NothingThere") (y := "NothingThere") (all := false) (b := true) (fs := fs) hc (by decide +kernel)
  have i14 := isK (c := "NothingThere") (y := "NoBlock") (all := false) (b := false) (fs := fs) hc (by decide +kernel)
  have i15 := isK (c := "NothingThere") (y := "NothingToUndo") (all := false) (b := false) (fs := fs) hc (by decide +kernel)
  have i16 := isK (c := "NothingThere") (y := "InvalidCommand") (all := false) (b := false) (fs := fs) hc (by decide +kernel)
  have i17 := isK (c := "NothingThere") (y := "Mixed") (all := false) (b := false) (fs := fs) hc (by decide +kernel)
  have i18 := isK (c := "NothingThere") (y := "InvalidWords") (all := false) (b := false) (fs := fs) hc (by decide +kernel)
  have i19 := isK (c := "NothingThere") (y := "WishError") (all := true) (b := true) (fs := fs) hc (by decide +kernel)
  have i20 := isK (c := "NothingThere") (y := "ValueError") (all := true) (b := true) (fs := fs) hc (by decide +kernel)
  refine def_eq rfl ?_
  simp [m__law_stands_under, -p_isO, i0, i1, i2, i3, i4, i5, i6, i7, i8, i9, i10, i11, i12, i13, i14, i15, i16, i17, i18, i19, i20, mu0K, mu1K, hz0, hz1]
theorem stands_NoBlock {fs : List D} : f__law_stands_under [⟨.shr, .exc "NoBlock" fs⟩] = .ok ⟨.own, .lst [.int 14]⟩ .non := by
  have hz : ∀ n : Nat, n ≤ 64 → n ≤ sizeLine := fun n hn => by rw [sizeLine_eq]; omega
  have hz0 := hz 0 (by omega)
  have hz1 := hz 1 (by omega)
  have hc : (["InvalidTree", "InvalidLocale", "InvalidWishes", "InvalidWay", "InvalidCatalog", "InvalidKey", "InvalidText", "InvalidPage", "InvalidDoor", "InvalidChoice", "InvalidIndex", "Unlike", "Needless", "NothingThere", "NoBlock", "NothingToUndo", "InvalidCommand", "Mixed", "InvalidWords", "WishError"] : List Str).contains "NoBlock" = true := by decide +kernel
  have i0 := isK (c := "NoBlock") (y := "InvalidTree") (all := false) (b := false) (fs := fs) hc (by decide +kernel)
  have i1 := isK (c := "NoBlock") (y := "InvalidLocale") (all := false) (b := false) (fs := fs) hc (by decide +kernel)
  have i2 := isK (c := "NoBlock") (y := "InvalidWishes") (all := false) (b := false) (fs := fs) hc (by decide +kernel)
  have i3 := isK (c := "NoBlock") (y := "InvalidWay") (all := false) (b := false) (fs := fs) hc (by decide +kernel)
  have i4 := isK (c := "NoBlock") (y := "InvalidCatalog") (all := false) (b := false) (fs := fs) hc (by decide +kernel)
  have i5 := isK (c := "NoBlock") (y := "InvalidKey") (all := false) (b := false) (fs := fs) hc (by decide +kernel)
  have i6 := isK (c := "NoBlock") (y := "InvalidText") (all := false) (b := false) (fs := fs) hc (by decide +kernel)
  have i7 := isK (c := "NoBlock") (y := "InvalidPage") (all := false) (b := false) (fs := fs) hc (by decide +kernel)
  have i8 := isK (c := "NoBlock") (y := "InvalidDoor") (all := false) (b := false) (fs := fs) hc (by decide +kernel)
  have i9 := isK (c := "NoBlock") (y := "InvalidChoice") (all := false) (b := false) (fs := fs) hc (by decide +kernel)
  have i10 := isK (c := "NoBlock") (y := "InvalidIndex") (all := false) (b := false) (fs := fs) hc (by decide +kernel)
  have i11 := isK (c := "NoBlock") (y := "Unlike") (all := false) (b := false) (fs := fs) hc (by decide +kernel)
  have i12 := isK (c := "NoBlock") (y := "Needless") (all := false) (b := false) (fs := fs) hc (by decide +kernel)
  have i13 := isK (c := "NoBlock") (y := "NothingThere") (all := false) (b := false) (fs := fs) hc (by decide +kernel)
  have i14 := isK (c := "NoBlock") (y := "NoBlock") (all := false) (b := true) (fs := fs) hc (by decide +kernel)
  have i15 := isK (c := "NoBlock") (y := "NothingToUndo") (all := false) (b := false) (fs := fs) hc (by decide +kernel)
  have i16 := isK (c := "NoBlock") (y := "InvalidCommand") (all := false) (b := false) (fs := fs) hc (by decide +kernel)
  have i17 := isK (c := "NoBlock") (y := "Mixed") (all := false) (b := false) (fs := fs) hc (by decide +kernel)
  have i18 := isK (c := "NoBlock") (y := "InvalidWords") (all := false) (b := false) (fs := fs) hc (by decide +kernel)
  have i19 := isK (c := "NoBlock") (y := "WishError") (all := true) (b := true) (fs := fs) hc (by decide +kernel)
  have i20 := isK (c := "NoBlock") (y := "ValueError") (all := true) (b := true) (fs := fs) hc (by decide +kernel)
  refine def_eq rfl ?_
  simp [m__law_stands_under, -p_isO, i0, i1, i2, i3, i4, i5, i6, i7, i8, i9, i10, i11, i12, i13, i14, i15, i16, i17, i18, i19, i20, mu0K, mu1K, hz0, hz1]
theorem stands_NothingToUndo {fs : List D} : f__law_stands_under [⟨.shr, .exc "NothingToUndo" fs⟩] = .ok ⟨.own, .lst [.int 15]⟩ .non := by
  have hz : ∀ n : Nat, n ≤ 64 → n ≤ sizeLine := fun n hn => by rw [sizeLine_eq]; omega
  have hz0 := hz 0 (by omega)
  have hz1 := hz 1 (by omega)
  have hc : (["InvalidTree", "InvalidLocale", "InvalidWishes", "InvalidWay", "InvalidCatalog", "InvalidKey", "InvalidText", "InvalidPage", "InvalidDoor", "InvalidChoice", "InvalidIndex", "Unlike", "Needless", "NothingThere", "NoBlock", "NothingToUndo", "InvalidCommand", "Mixed", "InvalidWords", "WishError"] : List Str).contains "NothingToUndo" = true := by decide +kernel
  have i0 := isK (c := "NothingToUndo") (y := "InvalidTree") (all := false) (b := false) (fs := fs) hc (by decide +kernel)
  have i1 := isK (c := "NothingToUndo") (y := "InvalidLocale") (all := false) (b := false) (fs := fs) hc (by decide +kernel)
  have i2 := isK (c := "NothingToUndo") (y := "InvalidWishes") (all := false) (b := false) (fs := fs) hc (by decide +kernel)
  have i3 := isK (c := "NothingToUndo") (y := "InvalidWay") (all := false) (b := false) (fs := fs) hc (by decide +kernel)
  have i4 := isK (c := "NothingToUndo") (y := "InvalidCatalog") (all := false) (b := false) (fs := fs) hc (by decide +kernel)
  have i5 := isK (c := "NothingToUndo") (y := "InvalidKey") (all := false) (b := false) (fs := fs) hc (by decide +kernel)
  have i6 := isK (c := "NothingToUndo") (y := "InvalidText") (all := false) (b := false) (fs := fs) hc (by decide +kernel)
  have i7 := isK (c := "NothingToUndo") (y := "InvalidPage") (all := false) (b := false) (fs := fs) hc (by decide +kernel)
  have i8 := isK (c := "NothingToUndo") (y := "InvalidDoor") (all := false) (b := false) (fs := fs) hc (by decide +kernel)
  have i9 := isK (c := "NothingToUndo") (y := "InvalidChoice") (all := false) (b := false) (fs := fs) hc (by decide +kernel)
  have i10 := isK (c := "NothingToUndo") (y := "InvalidIndex") (all := false) (b := false) (fs := fs) hc (by decide +kernel)
  have i11 := isK (c := "NothingToUndo") (y := "Unlike") (all := false) (b := false) (fs := fs) hc (by decide +kernel)
  have i12 := isK (c := "NothingToUndo") (y := "Needless") (all := false) (b := false) (fs := fs) hc (by decide +kernel)
  have i13 := isK (c := "NothingToUndo") (y := "NothingThere") (all := false) (b := false) (fs := fs) hc (by decide +kernel)
  have i14 := isK (c := "NothingToUndo") (y := "NoBlock") (all := false) (b := false) (fs := fs) hc (by decide +kernel)
  have i15 := isK (c := "NothingToUndo") (y := "NothingToUndo") (all := false) (b := true) (fs := fs) hc (by decide +kernel)
  have i16 := isK (c := "NothingToUndo") (y := "InvalidCommand") (all := false) (b := false) (fs := fs) hc (by decide +kernel)
  have i17 := isK (c := "NothingToUndo") (y := "Mixed") (all := false) (b := false) (fs := fs) hc (by decide +kernel)
  have i18 := isK (c := "NothingToUndo") (y := "InvalidWords") (all := false) (b := false) (fs := fs) hc (by decide +kernel)
  have i19 := isK (c := "NothingToUndo") (y := "WishError") (all := true) (b := true) (fs := fs) hc (by decide +kernel)
  have i20 := isK (c := "NothingToUndo") (y := "ValueError") (all := true) (b := true) (fs := fs) hc (by decide +kernel)
  refine def_eq rfl ?_
  simp [m__law_stands_under, -p_isO, i0, i1, i2, i3, i4, i5, i6, i7, i8, i9, i10, i11, i12, i13, i14, i15, i16, i17, i18, i19, i20, mu0K, mu1K, hz0, hz1]
theorem stands_InvalidCommand {fs : List D} : f__law_stands_under [⟨.shr, .exc "InvalidCommand" fs⟩] = .ok ⟨.own, .lst [.int 16]⟩ .non := by
  have hz : ∀ n : Nat, n ≤ 64 → n ≤ sizeLine := fun n hn => by rw [sizeLine_eq]; omega
  have hz0 := hz 0 (by omega)
  have hz1 := hz 1 (by omega)
  have hc : (["InvalidTree", "InvalidLocale", "InvalidWishes", "InvalidWay", "InvalidCatalog", "InvalidKey", "InvalidText", "InvalidPage", "InvalidDoor", "InvalidChoice", "InvalidIndex", "Unlike", "Needless", "NothingThere", "NoBlock", "NothingToUndo", "InvalidCommand", "Mixed", "InvalidWords", "WishError"] : List Str).contains "InvalidCommand" = true := by decide +kernel
  have i0 := isK (c := "InvalidCommand") (y := "InvalidTree") (all := false) (b := false) (fs := fs) hc (by decide +kernel)
  have i1 := isK (c := "InvalidCommand") (y := "InvalidLocale") (all := false) (b := false) (fs := fs) hc (by decide +kernel)
  have i2 := isK (c := "InvalidCommand") (y := "InvalidWishes") (all := false) (b := false) (fs := fs) hc (by decide +kernel)
  have i3 := isK (c := "InvalidCommand") (y := "InvalidWay") (all := false) (b := false) (fs := fs) hc (by decide +kernel)
  have i4 := isK (c := "InvalidCommand") (y := "InvalidCatalog") (all := false) (b := false) (fs := fs) hc (by decide +kernel)
  have i5 := isK (c := "InvalidCommand") (y := "InvalidKey") (all := false) (b := false) (fs := fs) hc (by decide +kernel)
  have i6 := isK (c := "InvalidCommand") (y := "InvalidText") (all := false) (b := false) (fs := fs) hc (by decide +kernel)
  have i7 := isK (c := "InvalidCommand") (y := "InvalidPage") (all := false) (b := false) (fs := fs) hc (by decide +kernel)
  have i8 := isK (c := "InvalidCommand") (y := "InvalidDoor") (all := false) (b := false) (fs := fs) hc (by decide +kernel)
  have i9 := isK (c := "InvalidCommand") (y := "InvalidChoice") (all := false) (b := false) (fs := fs) hc (by decide +kernel)
  have i10 := isK (c := "InvalidCommand") (y := "InvalidIndex") (all := false) (b := false) (fs := fs) hc (by decide +kernel)
  have i11 := isK (c := "InvalidCommand") (y := "Unlike") (all := false) (b := false) (fs := fs) hc (by decide +kernel)
  have i12 := isK (c := "InvalidCommand") (y := "Needless") (all := false) (b := false) (fs := fs) hc (by decide +kernel)
  have i13 := isK (c := "InvalidCommand") (y := "NothingThere") (all := false) (b := false) (fs := fs) hc (by decide +kernel)
  have i14 := isK (c := "InvalidCommand") (y := "NoBlock") (all := false) (b := false) (fs := fs) hc (by decide +kernel)
  have i15 := isK (c := "InvalidCommand") (y := "NothingToUndo") (all := false) (b := false) (fs := fs) hc (by decide +kernel)
  have i16 := isK (c := "InvalidCommand") (y := "InvalidCommand") (all := false) (b := true) (fs := fs) hc (by decide +kernel)
  have i17 := isK (c := "InvalidCommand") (y := "Mixed") (all := false) (b := false) (fs := fs) hc (by decide +kernel)
  have i18 := isK (c := "InvalidCommand") (y := "InvalidWords") (all := false) (b := false) (fs := fs) hc (by decide +kernel)
  have i19 := isK (c := "InvalidCommand") (y := "WishError") (all := true) (b := true) (fs := fs) hc (by decide +kernel)
  have i20 := isK (c := "InvalidCommand") (y := "ValueError") (all := true) (b := true) (fs := fs) hc (by decide +kernel)
  refine def_eq rfl ?_
  simp [m__law_stands_under, -p_isO, i0, i1, i2, i3, i4, i5, i6, i7, i8, i9, i10, i11, i12, i13, i14, i15, i16, i17, i18, i19, i20, mu0K, mu1K, hz0, hz1]
theorem stands_Mixed {fs : List D} : f__law_stands_under [⟨.shr, .exc "Mixed" fs⟩] = .ok ⟨.own, .lst [.int 17]⟩ .non := by
  have hz : ∀ n : Nat, n ≤ 64 → n ≤ sizeLine := fun n hn => by rw [sizeLine_eq]; omega
  have hz0 := hz 0 (by omega)
  have hz1 := hz 1 (by omega)
  have hc : (["InvalidTree", "InvalidLocale", "InvalidWishes", "InvalidWay", "InvalidCatalog", "InvalidKey", "InvalidText", "InvalidPage", "InvalidDoor", "InvalidChoice", "InvalidIndex", "Unlike", "Needless", "NothingThere", "NoBlock", "NothingToUndo", "InvalidCommand", "Mixed", "InvalidWords", "WishError"] : List Str).contains "Mixed" = true := by decide +kernel
  have i0 := isK (c := "Mixed") (y := "InvalidTree") (all := false) (b := false) (fs := fs) hc (by decide +kernel)
  have i1 := isK (c := "Mixed") (y := "InvalidLocale") (all := false) (b := false) (fs := fs) hc (by decide +kernel)
  have i2 := isK (c := "Mixed") (y := "InvalidWishes") (all := false) (b := false) (fs := fs) hc (by decide +kernel)
  have i3 := isK (c := "Mixed") (y := "InvalidWay") (all := false) (b := false) (fs := fs) hc (by decide +kernel)
  have i4 := isK (c := "Mixed") (y := "InvalidCatalog") (all := false) (b := false) (fs := fs) hc (by decide +kernel)
  have i5 := isK (c := "Mixed") (y := "InvalidKey") (all := false) (b := false) (fs := fs) hc (by decide +kernel)
  have i6 := isK (c := "Mixed") (y := "InvalidText") (all := false) (b := false) (fs := fs) hc (by decide +kernel)
  have i7 := isK (c := "Mixed") (y := "InvalidPage") (all := false) (b := false) (fs := fs) hc (by decide +kernel)
  have i8 := isK (c := "Mixed") (y := "InvalidDoor") (all := false) (b := false) (fs := fs) hc (by decide +kernel)
  have i9 := isK (c := "Mixed") (y := "InvalidChoice") (all := false) (b := false) (fs := fs) hc (by decide +kernel)
  have i10 := isK (c := "Mixed") (y := "InvalidIndex") (all := false) (b := false) (fs := fs) hc (by decide +kernel)
  have i11 := isK (c := "Mixed") (y := "Unlike") (all := false) (b := false) (fs := fs) hc (by decide +kernel)
  have i12 := isK (c := "Mixed") (y := "Needless") (all := false) (b := false) (fs := fs) hc (by decide +kernel)
  have i13 := isK (c := "Mixed") (y := "NothingThere") (all := false) (b := false) (fs := fs) hc (by decide +kernel)
  have i14 := isK (c := "Mixed") (y := "NoBlock") (all := false) (b := false) (fs := fs) hc (by decide +kernel)
  have i15 := isK (c := "Mixed") (y := "NothingToUndo") (all := false) (b := false) (fs := fs) hc (by decide +kernel)
  have i16 := isK (c := "Mixed") (y := "InvalidCommand") (all := false) (b := false) (fs := fs) hc (by decide +kernel)
  have i17 := isK (c := "Mixed") (y := "Mixed") (all := false) (b := true) (fs := fs) hc (by decide +kernel)
  have i18 := isK (c := "Mixed") (y := "InvalidWords") (all := false) (b := false) (fs := fs) hc (by decide +kernel)
  have i19 := isK (c := "Mixed") (y := "WishError") (all := true) (b := true) (fs := fs) hc (by decide +kernel)
  have i20 := isK (c := "Mixed") (y := "ValueError") (all := true) (b := true) (fs := fs) hc (by decide +kernel)
  refine def_eq rfl ?_
  simp [m__law_stands_under, -p_isO, i0, i1, i2, i3, i4, i5, i6, i7, i8, i9, i10, i11, i12, i13, i14, i15, i16, i17, i18, i19, i20, mu0K, mu1K, hz0, hz1]
theorem stands_InvalidWords {fs : List D} : f__law_stands_under [⟨.shr, .exc "InvalidWords" fs⟩] = .ok ⟨.own, .lst [.int 18]⟩ .non := by
  have hz : ∀ n : Nat, n ≤ 64 → n ≤ sizeLine := fun n hn => by rw [sizeLine_eq]; omega
  have hz0 := hz 0 (by omega)
  have hz1 := hz 1 (by omega)
  have hc : (["InvalidTree", "InvalidLocale", "InvalidWishes", "InvalidWay", "InvalidCatalog", "InvalidKey", "InvalidText", "InvalidPage", "InvalidDoor", "InvalidChoice", "InvalidIndex", "Unlike", "Needless", "NothingThere", "NoBlock", "NothingToUndo", "InvalidCommand", "Mixed", "InvalidWords", "WishError"] : List Str).contains "InvalidWords" = true := by decide +kernel
  have i0 := isK (c := "InvalidWords") (y := "InvalidTree") (all := false) (b := false) (fs := fs) hc (by decide +kernel)
  have i1 := isK (c := "InvalidWords") (y := "InvalidLocale") (all := false) (b := false) (fs := fs) hc (by decide +kernel)
  have i2 := isK (c := "InvalidWords") (y := "InvalidWishes") (all := false) (b := false) (fs := fs) hc (by decide +kernel)
  have i3 := isK (c := "InvalidWords") (y := "InvalidWay") (all := false) (b := false) (fs := fs) hc (by decide +kernel)
  have i4 := isK (c := "InvalidWords") (y := "InvalidCatalog") (all := false) (b := false) (fs := fs) hc (by decide +kernel)
  have i5 := isK (c := "InvalidWords") (y := "InvalidKey") (all := false) (b := false) (fs := fs) hc (by decide +kernel)
  have i6 := isK (c := "InvalidWords") (y := "InvalidText") (all := false) (b := false) (fs := fs) hc (by decide +kernel)
  have i7 := isK (c := "InvalidWords") (y := "InvalidPage") (all := false) (b := false) (fs := fs) hc (by decide +kernel)
  have i8 := isK (c := "InvalidWords") (y := "InvalidDoor") (all := false) (b := false) (fs := fs) hc (by decide +kernel)
  have i9 := isK (c := "InvalidWords") (y := "InvalidChoice") (all := false) (b := false) (fs := fs) hc (by decide +kernel)
  have i10 := isK (c := "InvalidWords") (y := "InvalidIndex") (all := false) (b := false) (fs := fs) hc (by decide +kernel)
  have i11 := isK (c := "InvalidWords") (y := "Unlike") (all := false) (b := false) (fs := fs) hc (by decide +kernel)
  have i12 := isK (c := "InvalidWords") (y := "Needless") (all := false) (b := false) (fs := fs) hc (by decide +kernel)
  have i13 := isK (c := "InvalidWords") (y := "NothingThere") (all := false) (b := false) (fs := fs) hc (by decide +kernel)
  have i14 := isK (c := "InvalidWords") (y := "NoBlock") (all := false) (b := false) (fs := fs) hc (by decide +kernel)
  have i15 := isK (c := "InvalidWords") (y := "NothingToUndo") (all := false) (b := false) (fs := fs) hc (by decide +kernel)
  have i16 := isK (c := "InvalidWords") (y := "InvalidCommand") (all := false) (b := false) (fs := fs) hc (by decide +kernel)
  have i17 := isK (c := "InvalidWords") (y := "Mixed") (all := false) (b := false) (fs := fs) hc (by decide +kernel)
  have i18 := isK (c := "InvalidWords") (y := "InvalidWords") (all := false) (b := true) (fs := fs) hc (by decide +kernel)
  have i19 := isK (c := "InvalidWords") (y := "WishError") (all := true) (b := true) (fs := fs) hc (by decide +kernel)
  have i20 := isK (c := "InvalidWords") (y := "ValueError") (all := true) (b := true) (fs := fs) hc (by decide +kernel)
  refine def_eq rfl ?_
  simp [m__law_stands_under, -p_isO, i0, i1, i2, i3, i4, i5, i6, i7, i8, i9, i10, i11, i12, i13, i14, i15, i16, i17, i18, i19, i20, mu0K, mu1K, hz0, hz1]
theorem stands_WishError {fs : List D} : f__law_stands_under [⟨.shr, .exc "WishError" fs⟩] = .ok ⟨.own, .lst []⟩ .non := by
  have hz : ∀ n : Nat, n ≤ 64 → n ≤ sizeLine := fun n hn => by rw [sizeLine_eq]; omega
  have hz0 := hz 0 (by omega)
  have hz1 := hz 1 (by omega)
  have hc : (["InvalidTree", "InvalidLocale", "InvalidWishes", "InvalidWay", "InvalidCatalog", "InvalidKey", "InvalidText", "InvalidPage", "InvalidDoor", "InvalidChoice", "InvalidIndex", "Unlike", "Needless", "NothingThere", "NoBlock", "NothingToUndo", "InvalidCommand", "Mixed", "InvalidWords", "WishError"] : List Str).contains "WishError" = true := by decide +kernel
  have i0 := isK (c := "WishError") (y := "InvalidTree") (all := false) (b := false) (fs := fs) hc (by decide +kernel)
  have i1 := isK (c := "WishError") (y := "InvalidLocale") (all := false) (b := false) (fs := fs) hc (by decide +kernel)
  have i2 := isK (c := "WishError") (y := "InvalidWishes") (all := false) (b := false) (fs := fs) hc (by decide +kernel)
  have i3 := isK (c := "WishError") (y := "InvalidWay") (all := false) (b := false) (fs := fs) hc (by decide +kernel)
  have i4 := isK (c := "WishError") (y := "InvalidCatalog") (all := false) (b := false) (fs := fs) hc (by decide +kernel)
  have i5 := isK (c := "WishError") (y := "InvalidKey") (all := false) (b := false) (fs := fs) hc (by decide +kernel)
  have i6 := isK (c := "WishError") (y := "InvalidText") (all := false) (b := false) (fs := fs) hc (by decide +kernel)
  have i7 := isK (c := "WishError") (y := "InvalidPage") (all := false) (b := false) (fs := fs) hc (by decide +kernel)
  have i8 := isK (c := "WishError") (y := "InvalidDoor") (all := false) (b := false) (fs := fs) hc (by decide +kernel)
  have i9 := isK (c := "WishError") (y := "InvalidChoice") (all := false) (b := false) (fs := fs) hc (by decide +kernel)
  have i10 := isK (c := "WishError") (y := "InvalidIndex") (all := false) (b := false) (fs := fs) hc (by decide +kernel)
  have i11 := isK (c := "WishError") (y := "Unlike") (all := false) (b := false) (fs := fs) hc (by decide +kernel)
  have i12 := isK (c := "WishError") (y := "Needless") (all := false) (b := false) (fs := fs) hc (by decide +kernel)
  have i13 := isK (c := "WishError") (y := "NothingThere") (all := false) (b := false) (fs := fs) hc (by decide +kernel)
  have i14 := isK (c := "WishError") (y := "NoBlock") (all := false) (b := false) (fs := fs) hc (by decide +kernel)
  have i15 := isK (c := "WishError") (y := "NothingToUndo") (all := false) (b := false) (fs := fs) hc (by decide +kernel)
  have i16 := isK (c := "WishError") (y := "InvalidCommand") (all := false) (b := false) (fs := fs) hc (by decide +kernel)
  have i17 := isK (c := "WishError") (y := "Mixed") (all := false) (b := false) (fs := fs) hc (by decide +kernel)
  have i18 := isK (c := "WishError") (y := "InvalidWords") (all := false) (b := false) (fs := fs) hc (by decide +kernel)
  have i19 := isK (c := "WishError") (y := "WishError") (all := true) (b := true) (fs := fs) hc (by decide +kernel)
  have i20 := isK (c := "WishError") (y := "ValueError") (all := true) (b := true) (fs := fs) hc (by decide +kernel)
  refine def_eq rfl ?_
  simp [m__law_stands_under, -p_isO, i0, i1, i2, i3, i4, i5, i6, i7, i8, i9, i10, i11, i12, i13, i14, i15, i16, i17, i18, i19, i20, mu0K, mu1K, hz0, hz1]

theorem t_fin {xs : List D} {n : Int} {e0 e1 e2 e3 e4 e6 : Option Ent} :
    DL.Fin (m00t [e0, e1, e2, e3, e4, some ⟨.own, .lst (errsD (.tup xs) n)⟩, e6]) fun fl e => fl = .nx ∧ ∃ f6, e = [e0, e1, e2, e3, e4, some ⟨.own, .lst (errsD (.tup xs) n)⟩, f6] := by
  have r2 := rng1_eq (j := 19) (by decide)
  have z1 : 1 ≤ sizeLine := by rw [sizeLine_eq]; omega
  have nl : ∀ k : Nat, k < 19 → pNe [.lst [.int (k : Nat)], .lst [.int (k : Nat)]] = some (.d (.bl false)) := fun k hk => ne_selfD (by
    have : k ∈ List.range 19 := List.mem_range.mpr hk
    revert k
    decide +kernel)
  unfold m00t
  simp [r2]
  refine fin_for (fun _ env => ∃ f6, env = [e0, e1, e2, e3, e4, some ⟨.own, .lst (errsD (.tup xs) n)⟩, f6]) ⟨_, rfl⟩ (fun j x env hj hI => ?_) fun env hI => ?_
  · obtain ⟨f6, rfl⟩ := hI
    obtain ⟨k', rfl, hk0, hk1⟩ := mem_rngD (List.mem_of_getElem? hj)
    obtain ⟨k, rfl⟩ : ∃ k : Nat, k' = (k : Int) := ⟨k'.toNat, by omega⟩
    have hk : k < 19 := by omega
    have key : ∃ c fs, (errsD (.tup xs) n)[k]? = some (.exc c fs) ∧ f__law_stands_under [⟨.shr, .exc c fs⟩] = .ok ⟨.own, .lst [.int (k : Nat)]⟩ .non := by
      have : k = 0 ∨ k = 1 ∨ k = 2 ∨ k = 3 ∨ k = 4 ∨ k = 5 ∨ k = 6 ∨ k = 7 ∨ k = 8 ∨ k = 9 ∨ k = 10 ∨ k = 11 ∨ k = 12 ∨ k = 13 ∨ k = 14 ∨ k = 15 ∨ k = 16 ∨ k = 17 ∨ k = 18 := by omega
      rcases this with rfl | rfl | rfl | rfl | rfl | rfl | rfl | rfl | rfl | rfl | rfl | rfl | rfl | rfl | rfl | rfl | rfl | rfl | rfl
      · exact ⟨_, _, rfl, stands_InvalidTree⟩
      · exact ⟨_, _, rfl, stands_InvalidLocale⟩
      · exact ⟨_, _, rfl, stands_InvalidWishes⟩
      · exact ⟨_, _, rfl, stands_InvalidWay⟩
      · exact ⟨_, _, rfl, stands_InvalidCatalog⟩
      · exact ⟨_, _, rfl, stands_InvalidKey⟩
      · exact ⟨_, _, rfl, stands_InvalidText⟩
      · exact ⟨_, _, rfl, stands_InvalidPage⟩
      · exact ⟨_, _, rfl, stands_InvalidDoor⟩
      · exact ⟨_, _, rfl, stands_InvalidChoice⟩
      · exact ⟨_, _, rfl, stands_InvalidIndex⟩
      · exact ⟨_, _, rfl, stands_Unlike⟩
      · exact ⟨_, _, rfl, stands_Needless⟩
      · exact ⟨_, _, rfl, stands_NothingThere⟩
      · exact ⟨_, _, rfl, stands_NoBlock⟩
      · exact ⟨_, _, rfl, stands_NothingToUndo⟩
      · exact ⟨_, _, rfl, stands_InvalidCommand⟩
      · exact ⟨_, _, rfl, stands_Mixed⟩
      · exact ⟨_, _, rfl, stands_InvalidWords⟩
    obtain ⟨c, fs, g1, g2⟩ := key
    have ix : pIx [.lst (errsD (.tup xs) n), .int (k : Nat)] = some (.d (.exc c fs)) := by
      show (atI (errsD (.tup xs) n) (k : Nat)).map PR.d = _
      rw [DL.atI_nat, g1]
      rfl
    have nk := nl k hk
    generalize errsD (.tup xs) n = L at ix ⊢
    refine ⟨_, rfl, ?_⟩
    simp [ix, g2, nk, z1]
  · obtain ⟨f6, rfl⟩ := hI
    simp

theorem law_true (ns : List Int) (h : ns.length ≤ 63) : ∃ o, f_law [⟨.shr, .fz (dInts ns)⟩] = .ok ⟨.shr, .bl true⟩ o := by
  refine ⟨.non, def_eq rfl ?_⟩
  obtain ⟨ms, hms, hml⟩ := cut_ints ns none (some 4)
  have hdl : (dInts ms).length = ms.length := by simp [dInts]
  have hz : 1 + ms.length ≤ sizeLine := by rw [sizeLine_eq]; omega
  have hz1 : 1 ≤ sizeLine := by rw [sizeLine_eq]; omega
  have sw := stands_WishError (fs := [])
  rw [m00_eq]
  simp [hms, hdl, hz, hz1]
  refine fin_for (fun _ env => ∃ e1 e2 e3 e4 e5 e6, env = [some ⟨.shr, .fz (dInts ns)⟩, e1, e2, e3, e4, e5, e6]) ⟨_, _, _, _, _, _, rfl⟩ (fun j x env hj hI => ?_) fun env hI => ?_
  · obtain ⟨e1, e2, e3, e4, e5, e6, rfl⟩ := hI
    obtain ⟨n, rfl⟩ := item_int hj
    refine ⟨_, rfl, ?_⟩
    obtain ⟨a, b, hf, hb⟩ := fill_spec n
    simp [hf]
    refine Fin.mono (a_fin hb) ?_
    rintro _ _ ⟨as, a1, c1, f6, rfl, has, hal, rfl, h0, h1⟩
    obtain ⟨r, a2, c2, x2, hr, hc2⟩ := pull_wide (a := a1) (c := c1) (n := 41) (s := 1000000000000000000000000000000) hb ⟨h0, h1⟩ (by omega) ⟨by omega, by omega⟩
    have tl := int_len hr.1 (by omega)
    have ps : pStrOf [.int r] = some (.d (.str (toString r))) := if_pos (Nat.lt_trans (log_le (k := 101) (by omega) (by omega) (by decide)) (by decide))
    generalize (toString r : Str) = w at ps tl
    have ad : pAdd [.str "the word ", .str w] = some (.d (.str (("the word " : Str) ++ w))) := if_pos (by
      have : ("the word " : Str).length = 9 := rfl
      rw [this, sizeLine_eq]; omega)
    generalize (("the word " : Str) ++ w) = w2 at ad
    have ee := each_eq (s := w2) (xs := dNats as) (n := r)
    simp [x2, ps, ad, ee]
    refine Fin.mono (t_fin (xs := dNats as) (n := r)) ?_
    rintro _ _ ⟨rfl, f6, rfl⟩
    have i17 : pIx [.lst (errsD (.tup (dNats as)) r), .int 17] = some (.d (.exc "Mixed" [.str "wishes", .tup (dNats as)])) := rfl
    have i18 : pIx [.lst (errsD (.tup (dNats as)) r), .int 18] = some (.d (.exc "InvalidWords" [.str "place", .int r])) := rfl
    have q1 : pFld "Mixed" "wishes" [.exc "Mixed" [.str "wishes", .tup (dNats as)]] = some (.d (.tup (dNats as))) := rfl
    have q2 : pFld "InvalidWords" "place" [.exc "InvalidWords" [.str "place", .int r]] = some (.d (.int r)) := rfl
    have q3 : pExcF "Mixed" "wishes" [.tup (dNats as)] = some (.d (.exc "Mixed" [.str "wishes", .tup (dNats as)])) := rfl
    have q4 : pExcF "InvalidWords" "place" [.int r] = some (.d (.exc "InvalidWords" [.str "place", .int r])) := rfl
    have s1 := same_nats (ns := as) has (by omega)
    have s2 : f__law_same [⟨.shr, .int r⟩, ⟨.shr, .int r⟩] = .ok ⟨.shr, .bl true⟩ .non := same_eq (okD_int _) (okR_int30 hr.1 (by omega)) (okS_int _)
    have n1 : pNe [.tup (dNats as), .tup (dNats as)] = some (.d (.bl false)) := ne_selfD (okD_nats as)
    generalize errsD (.tup (dNats as)) r = L at i17 i18
    simp [i17, i18, q1, q2, q3, q4, s1, s2, n1]
  · obtain ⟨e1, e2, e3, e4, e5, e6, rfl⟩ := hI
    have pe : pEqE [.lst [], .lst []] = some (.d (.bl true)) := rfl
    simp [sw, pe]
theorem law_sp {K : PySem.W.Frag} {mg : Str → Option Value} {H : Hp} {a : Addr} (ns : List Int) (hl : ns.length ≤ 63) (hS : SqF K H a (ns.map V.int)) : spD K mg false 1 f_law [.ref a] H (fun v _ => v = .bl true) fun _ _ _ => False := law_end hS (law_true ns hl)
end My
theorem PySem.Challenge.cw_wishedtongues_k00_error_classes_holds : PySem.Challenge.rw_wishedtongues_k00_error_classes.Holds := by
  w_on; o_law; k_head; (case hw => w_witness2)
  k_fill
  refine DL.g_walk (l := PySem.Challenge.rw_wishedtongues_k00_error_classes) (n := 63) (k := 2) (x := "script") (sp := fun K mg => DL.spD K mg false 1 My.f_law) rfl (by decide) rfl ⟨rfl, by decide, by decide⟩ (fun w h Y => PySem.W.kIn_of Y) ?F (fun K mg H a ns hl hS => My.law_sp ns hl hS)
  case F =>
    intro w mg fa h KX G hmg
    refine' My.all_mk KX G hmg ?a0 ?l0 ?c0 ?k0 ?a1 ?l1 ?c1 ?k1 ?a2 ?l2 ?c2 ?k2 ?a3 ?l3 ?c3 ?k3 ?a4 ?l4 ?c4 ?k4 ?a5 ?l5 ?c5 ?k5 ?z_ValueError ?z_int ?z_isinstance ?z_max ?z_range ?z_repr ?z_str ?z_tuple  ?xa_WishError ?xi_WishError ?xt_WishError ?xa_InvalidTree ?xi_InvalidTree ?xt_InvalidTree ?xa_InvalidLocale ?xi_InvalidLocale ?xt_InvalidLocale ?xa_InvalidWishes ?xi_InvalidWishes ?xt_InvalidWishes ?xa_InvalidWay ?xi_InvalidWay ?xt_InvalidWay ?xa_InvalidCatalog ?xi_InvalidCatalog ?xt_InvalidCatalog ?xa_InvalidKey ?xi_InvalidKey ?xt_InvalidKey ?xa_InvalidText ?xi_InvalidText ?xt_InvalidText ?xa_InvalidPage ?xi_InvalidPage ?xt_InvalidPage ?xa_InvalidDoor ?xi_InvalidDoor ?xt_InvalidDoor ?xa_InvalidChoice ?xi_InvalidChoice ?xt_InvalidChoice ?xa_InvalidIndex ?xi_InvalidIndex ?xt_InvalidIndex ?xa_Unlike ?xi_Unlike ?xt_Unlike ?xa_Needless ?xi_Needless ?xt_Needless ?xa_NothingThere ?xi_NothingThere ?xt_NothingThere ?xa_NoBlock ?xi_NoBlock ?xt_NoBlock ?xa_NothingToUndo ?xi_NothingToUndo ?xt_NothingToUndo ?xa_InvalidCommand ?xi_InvalidCommand ?xt_InvalidCommand ?xa_Mixed ?xi_Mixed ?xt_Mixed ?xa_InvalidWords ?xi_InvalidWords ?xt_InvalidWords ?xr_InvalidTree ?xe_InvalidTree ?xs_InvalidTree ?xr_InvalidLocale ?xe_InvalidLocale ?xs_InvalidLocale ?xr_InvalidWishes ?xe_InvalidWishes ?xs_InvalidWishes ?xr_InvalidWay ?xe_InvalidWay ?xs_InvalidWay ?xr_InvalidCatalog ?xe_InvalidCatalog ?xs_InvalidCatalog ?xr_InvalidKey ?xe_InvalidKey ?xs_InvalidKey ?xr_InvalidText ?xe_InvalidText ?xs_InvalidText ?xr_InvalidPage ?xe_InvalidPage ?xs_InvalidPage ?xr_InvalidDoor ?xe_InvalidDoor ?xs_InvalidDoor ?xr_InvalidChoice ?xe_InvalidChoice ?xs_InvalidChoice ?xr_InvalidIndex ?xe_InvalidIndex ?xs_InvalidIndex ?xr_Unlike ?xe_Unlike ?xs_Unlike ?xr_Needless ?xe_Needless ?xs_Needless ?xr_NothingThere ?xe_NothingThere ?xs_NothingThere ?xr_NoBlock ?xe_NoBlock ?xs_NoBlock ?xr_NothingToUndo ?xe_NothingToUndo ?xs_NothingToUndo ?xr_InvalidCommand ?xe_InvalidCommand ?xs_InvalidCommand ?xo_Mixed ?xm_Mixed ?xs1_Mixed ?xs2_Mixed ?xs3_Mixed ?xs4_Mixed ?xs5_Mixed ?xs6_Mixed ?xs7_Mixed ?xs7a_Mixed ?xs7b_Mixed ?xs8_Mixed ?xs9_Mixed ?xt1_Mixed ?xt2_Mixed ?xt3_Mixed ?xt4_Mixed ?xt5_Mixed ?xt6_Mixed ?xt7_Mixed ?xt8_Mixed ?xt9_Mixed ?xe_Mixed ?xs_Mixed ?xo_InvalidWords ?xm_InvalidWords ?xs1_InvalidWords ?xs2_InvalidWords ?xs3_InvalidWords ?xs4_InvalidWords ?xs5_InvalidWords ?xs6_InvalidWords ?xs7_InvalidWords ?xs7a_InvalidWords ?xs7b_InvalidWords ?xs8_InvalidWords ?xs9_InvalidWords ?xt1_InvalidWords ?xt2_InvalidWords ?xt3_InvalidWords ?xt4_InvalidWords ?xt5_InvalidWords ?xt6_InvalidWords ?xt7_InvalidWords ?xt8_InvalidWords ?xt9_InvalidWords ?xe_InvalidWords ?xs_InvalidWords ?xr_WishError ?xe_WishError ?xs_WishError ?xk_InvalidTree_WishError ?xk_InvalidLocale_WishError ?xk_InvalidWishes_WishError ?xk_InvalidWay_WishError ?xk_InvalidCatalog_WishError ?xk_InvalidKey_WishError ?xk_InvalidText_WishError ?xk_InvalidPage_WishError ?xk_InvalidDoor_WishError ?xk_InvalidChoice_WishError ?xk_InvalidIndex_WishError ?xk_Unlike_WishError ?xk_Needless_WishError ?xk_NothingThere_WishError ?xk_NoBlock_WishError ?xk_NothingToUndo_WishError ?xk_InvalidCommand_WishError ?xk_Mixed_WishError ?xk_InvalidWords_WishError ?xk_WishError_WishError ?xk_InvalidTree_InvalidTree ?xk_InvalidLocale_InvalidTree ?xk_InvalidWishes_InvalidTree ?xk_InvalidWay_InvalidTree ?xk_InvalidCatalog_InvalidTree ?xk_InvalidKey_InvalidTree ?xk_InvalidText_InvalidTree ?xk_InvalidPage_InvalidTree ?xk_InvalidDoor_InvalidTree ?xk_InvalidChoice_InvalidTree ?xk_InvalidIndex_InvalidTree ?xk_Unlike_InvalidTree ?xk_Needless_InvalidTree ?xk_NothingThere_InvalidTree ?xk_NoBlock_InvalidTree ?xk_NothingToUndo_InvalidTree ?xk_InvalidCommand_InvalidTree ?xk_Mixed_InvalidTree ?xk_InvalidWords_InvalidTree ?xk_WishError_InvalidTree ?xk_InvalidTree_InvalidLocale ?xk_InvalidLocale_InvalidLocale ?xk_InvalidWishes_InvalidLocale ?xk_InvalidWay_InvalidLocale ?xk_InvalidCatalog_InvalidLocale ?xk_InvalidKey_InvalidLocale ?xk_InvalidText_InvalidLocale ?xk_InvalidPage_InvalidLocale ?xk_InvalidDoor_InvalidLocale ?xk_InvalidChoice_InvalidLocale ?xk_InvalidIndex_InvalidLocale ?xk_Unlike_InvalidLocale ?xk_Needless_InvalidLocale ?xk_NothingThere_InvalidLocale ?xk_NoBlock_InvalidLocale ?xk_NothingToUndo_InvalidLocale ?xk_InvalidCommand_InvalidLocale ?xk_Mixed_InvalidLocale ?xk_InvalidWords_InvalidLocale ?xk_WishError_InvalidLocale ?xk_InvalidTree_InvalidWishes ?xk_InvalidLocale_InvalidWishes ?xk_InvalidWishes_InvalidWishes ?xk_InvalidWay_InvalidWishes ?xk_InvalidCatalog_InvalidWishes ?xk_InvalidKey_InvalidWishes ?xk_InvalidText_InvalidWishes ?xk_InvalidPage_InvalidWishes ?xk_InvalidDoor_InvalidWishes ?xk_InvalidChoice_InvalidWishes ?xk_InvalidIndex_InvalidWishes ?xk_Unlike_InvalidWishes ?xk_Needless_InvalidWishes ?xk_NothingThere_InvalidWishes ?xk_NoBlock_InvalidWishes ?xk_NothingToUndo_InvalidWishes ?xk_InvalidCommand_InvalidWishes ?xk_Mixed_InvalidWishes ?xk_InvalidWords_InvalidWishes ?xk_WishError_InvalidWishes ?xk_InvalidTree_InvalidWay ?xk_InvalidLocale_InvalidWay ?xk_InvalidWishes_InvalidWay ?xk_InvalidWay_InvalidWay ?xk_InvalidCatalog_InvalidWay ?xk_InvalidKey_InvalidWay ?xk_InvalidText_InvalidWay ?xk_InvalidPage_InvalidWay ?xk_InvalidDoor_InvalidWay ?xk_InvalidChoice_InvalidWay ?xk_InvalidIndex_InvalidWay ?xk_Unlike_InvalidWay ?xk_Needless_InvalidWay ?xk_NothingThere_InvalidWay ?xk_NoBlock_InvalidWay ?xk_NothingToUndo_InvalidWay ?xk_InvalidCommand_InvalidWay ?xk_Mixed_InvalidWay ?xk_InvalidWords_InvalidWay ?xk_WishError_InvalidWay ?xk_InvalidTree_InvalidCatalog ?xk_InvalidLocale_InvalidCatalog ?xk_InvalidWishes_InvalidCatalog ?xk_InvalidWay_InvalidCatalog ?xk_InvalidCatalog_InvalidCatalog ?xk_InvalidKey_InvalidCatalog ?xk_InvalidText_InvalidCatalog ?xk_InvalidPage_InvalidCatalog ?xk_InvalidDoor_InvalidCatalog ?xk_InvalidChoice_InvalidCatalog ?xk_InvalidIndex_InvalidCatalog ?xk_Unlike_InvalidCatalog ?xk_Needless_InvalidCatalog ?xk_NothingThere_InvalidCatalog ?xk_NoBlock_InvalidCatalog ?xk_NothingToUndo_InvalidCatalog ?xk_InvalidCommand_InvalidCatalog ?xk_Mixed_InvalidCatalog ?xk_InvalidWords_InvalidCatalog ?xk_WishError_InvalidCatalog ?xk_InvalidTree_InvalidKey ?xk_InvalidLocale_InvalidKey ?xk_InvalidWishes_InvalidKey ?xk_InvalidWay_InvalidKey ?xk_InvalidCatalog_InvalidKey ?xk_InvalidKey_InvalidKey ?xk_InvalidText_InvalidKey ?xk_InvalidPage_InvalidKey ?xk_InvalidDoor_InvalidKey ?xk_InvalidChoice_InvalidKey ?xk_InvalidIndex_InvalidKey ?xk_Unlike_InvalidKey ?xk_Needless_InvalidKey ?xk_NothingThere_InvalidKey ?xk_NoBlock_InvalidKey ?xk_NothingToUndo_InvalidKey ?xk_InvalidCommand_InvalidKey ?xk_Mixed_InvalidKey ?xk_InvalidWords_InvalidKey ?xk_WishError_InvalidKey ?xk_InvalidTree_InvalidText ?xk_InvalidLocale_InvalidText ?xk_InvalidWishes_InvalidText ?xk_InvalidWay_InvalidText ?xk_InvalidCatalog_InvalidText ?xk_InvalidKey_InvalidText ?xk_InvalidText_InvalidText ?xk_InvalidPage_InvalidText ?xk_InvalidDoor_InvalidText ?xk_InvalidChoice_InvalidText ?xk_InvalidIndex_InvalidText ?xk_Unlike_InvalidText ?xk_Needless_InvalidText ?xk_NothingThere_InvalidText ?xk_NoBlock_InvalidText ?xk_NothingToUndo_InvalidText ?xk_InvalidCommand_InvalidText ?xk_Mixed_InvalidText ?xk_InvalidWords_InvalidText ?xk_WishError_InvalidText ?xk_InvalidTree_InvalidPage ?xk_InvalidLocale_InvalidPage ?xk_InvalidWishes_InvalidPage ?xk_InvalidWay_InvalidPage ?xk_InvalidCatalog_InvalidPage ?xk_InvalidKey_InvalidPage ?xk_InvalidText_InvalidPage ?xk_InvalidPage_InvalidPage ?xk_InvalidDoor_InvalidPage ?xk_InvalidChoice_InvalidPage ?xk_InvalidIndex_InvalidPage ?xk_Unlike_InvalidPage ?xk_Needless_InvalidPage ?xk_NothingThere_InvalidPage ?xk_NoBlock_InvalidPage ?xk_NothingToUndo_InvalidPage ?xk_InvalidCommand_InvalidPage ?xk_Mixed_InvalidPage ?xk_InvalidWords_InvalidPage ?xk_WishError_InvalidPage ?xk_InvalidTree_InvalidDoor ?xk_InvalidLocale_InvalidDoor ?xk_InvalidWishes_InvalidDoor ?xk_InvalidWay_InvalidDoor ?xk_InvalidCatalog_InvalidDoor ?xk_InvalidKey_InvalidDoor ?xk_InvalidText_InvalidDoor ?xk_InvalidPage_InvalidDoor ?xk_InvalidDoor_InvalidDoor ?xk_InvalidChoice_InvalidDoor ?xk_InvalidIndex_InvalidDoor ?xk_Unlike_InvalidDoor ?xk_Needless_InvalidDoor ?xk_NothingThere_InvalidDoor ?xk_NoBlock_InvalidDoor ?xk_NothingToUndo_InvalidDoor ?xk_InvalidCommand_InvalidDoor ?xk_Mixed_InvalidDoor ?xk_InvalidWords_InvalidDoor ?xk_WishError_InvalidDoor ?xk_InvalidTree_InvalidChoice ?xk_InvalidLocale_InvalidChoice ?xk_InvalidWishes_InvalidChoice ?xk_InvalidWay_InvalidChoice ?xk_InvalidCatalog_InvalidChoice ?xk_InvalidKey_InvalidChoice ?xk_InvalidText_InvalidChoice ?xk_InvalidPage_InvalidChoice ?xk_InvalidDoor_InvalidChoice ?xk_InvalidChoice_InvalidChoice ?xk_InvalidIndex_InvalidChoice ?xk_Unlike_InvalidChoice ?xk_Needless_InvalidChoice ?xk_NothingThere_InvalidChoice ?xk_NoBlock_InvalidChoice ?xk_NothingToUndo_InvalidChoice ?xk_InvalidCommand_InvalidChoice ?xk_Mixed_InvalidChoice ?xk_InvalidWords_InvalidChoice ?xk_WishError_InvalidChoice ?xk_InvalidTree_InvalidIndex ?xk_InvalidLocale_InvalidIndex ?xk_InvalidWishes_InvalidIndex ?xk_InvalidWay_InvalidIndex ?xk_InvalidCatalog_InvalidIndex ?xk_InvalidKey_InvalidIndex ?xk_InvalidText_InvalidIndex ?xk_InvalidPage_InvalidIndex ?xk_InvalidDoor_InvalidIndex ?xk_InvalidChoice_InvalidIndex ?xk_InvalidIndex_InvalidIndex ?xk_Unlike_InvalidIndex ?xk_Needless_InvalidIndex ?xk_NothingThere_InvalidIndex ?xk_NoBlock_InvalidIndex ?xk_NothingToUndo_InvalidIndex ?xk_InvalidCommand_InvalidIndex ?xk_Mixed_InvalidIndex ?xk_InvalidWords_InvalidIndex ?xk_WishError_InvalidIndex ?xk_InvalidTree_Unlike ?xk_InvalidLocale_Unlike ?xk_InvalidWishes_Unlike ?xk_InvalidWay_Unlike ?xk_InvalidCatalog_Unlike ?xk_InvalidKey_Unlike ?xk_InvalidText_Unlike ?xk_InvalidPage_Unlike ?xk_InvalidDoor_Unlike ?xk_InvalidChoice_Unlike ?xk_InvalidIndex_Unlike ?xk_Unlike_Unlike ?xk_Needless_Unlike ?xk_NothingThere_Unlike ?xk_NoBlock_Unlike ?xk_NothingToUndo_Unlike ?xk_InvalidCommand_Unlike ?xk_Mixed_Unlike ?xk_InvalidWords_Unlike ?xk_WishError_Unlike ?xk_InvalidTree_Needless ?xk_InvalidLocale_Needless ?xk_InvalidWishes_Needless ?xk_InvalidWay_Needless ?xk_InvalidCatalog_Needless ?xk_InvalidKey_Needless ?xk_InvalidText_Needless ?xk_InvalidPage_Needless ?xk_InvalidDoor_Needless ?xk_InvalidChoice_Needless ?xk_InvalidIndex_Needless ?xk_Unlike_Needless ?xk_Needless_Needless ?xk_NothingThere_Needless ?xk_NoBlock_Needless ?xk_NothingToUndo_Needless ?xk_InvalidCommand_Needless ?xk_Mixed_Needless ?xk_InvalidWords_Needless ?xk_WishError_Needless ?xk_InvalidTree_NothingThere ?xk_InvalidLocale_NothingThere ?xk_InvalidWishes_NothingThere ?xk_InvalidWay_NothingThere ?xk_InvalidCatalog_NothingThere ?xk_InvalidKey_NothingThere ?xk_InvalidText_NothingThere ?xk_InvalidPage_NothingThere ?xk_InvalidDoor_NothingThere ?xk_InvalidChoice_NothingThere ?xk_InvalidIndex_NothingThere ?xk_Unlike_NothingThere ?xk_Needless_NothingThere ?xk_NothingThere_NothingThere ?xk_NoBlock_NothingThere ?xk_NothingToUndo_NothingThere ?xk_InvalidCommand_NothingThere ?xk_Mixed_NothingThere ?xk_InvalidWords_NothingThere ?xk_WishError_NothingThere ?xk_InvalidTree_NoBlock ?xk_InvalidLocale_NoBlock ?xk_InvalidWishes_NoBlock ?xk_InvalidWay_NoBlock ?xk_InvalidCatalog_NoBlock ?xk_InvalidKey_NoBlock ?xk_InvalidText_NoBlock ?xk_InvalidPage_NoBlock ?xk_InvalidDoor_NoBlock ?xk_InvalidChoice_NoBlock ?xk_InvalidIndex_NoBlock ?xk_Unlike_NoBlock ?xk_Needless_NoBlock ?xk_NothingThere_NoBlock ?xk_NoBlock_NoBlock ?xk_NothingToUndo_NoBlock ?xk_InvalidCommand_NoBlock ?xk_Mixed_NoBlock ?xk_InvalidWords_NoBlock ?xk_WishError_NoBlock ?xk_InvalidTree_NothingToUndo ?xk_InvalidLocale_NothingToUndo ?xk_InvalidWishes_NothingToUndo ?xk_InvalidWay_NothingToUndo ?xk_InvalidCatalog_NothingToUndo ?xk_InvalidKey_NothingToUndo ?xk_InvalidText_NothingToUndo ?xk_InvalidPage_NothingToUndo ?xk_InvalidDoor_NothingToUndo ?xk_InvalidChoice_NothingToUndo ?xk_InvalidIndex_NothingToUndo ?xk_Unlike_NothingToUndo ?xk_Needless_NothingToUndo ?xk_NothingThere_NothingToUndo ?xk_NoBlock_NothingToUndo ?xk_NothingToUndo_NothingToUndo ?xk_InvalidCommand_NothingToUndo ?xk_Mixed_NothingToUndo ?xk_InvalidWords_NothingToUndo ?xk_WishError_NothingToUndo ?xk_InvalidTree_InvalidCommand ?xk_InvalidLocale_InvalidCommand ?xk_InvalidWishes_InvalidCommand ?xk_InvalidWay_InvalidCommand ?xk_InvalidCatalog_InvalidCommand ?xk_InvalidKey_InvalidCommand ?xk_InvalidText_InvalidCommand ?xk_InvalidPage_InvalidCommand ?xk_InvalidDoor_InvalidCommand ?xk_InvalidChoice_InvalidCommand ?xk_InvalidIndex_InvalidCommand ?xk_Unlike_InvalidCommand ?xk_Needless_InvalidCommand ?xk_NothingThere_InvalidCommand ?xk_NoBlock_InvalidCommand ?xk_NothingToUndo_InvalidCommand ?xk_InvalidCommand_InvalidCommand ?xk_Mixed_InvalidCommand ?xk_InvalidWords_InvalidCommand ?xk_WishError_InvalidCommand ?xk_InvalidTree_Mixed ?xk_InvalidLocale_Mixed ?xk_InvalidWishes_Mixed ?xk_InvalidWay_Mixed ?xk_InvalidCatalog_Mixed ?xk_InvalidKey_Mixed ?xk_InvalidText_Mixed ?xk_InvalidPage_Mixed ?xk_InvalidDoor_Mixed ?xk_InvalidChoice_Mixed ?xk_InvalidIndex_Mixed ?xk_Unlike_Mixed ?xk_Needless_Mixed ?xk_NothingThere_Mixed ?xk_NoBlock_Mixed ?xk_NothingToUndo_Mixed ?xk_InvalidCommand_Mixed ?xk_Mixed_Mixed ?xk_InvalidWords_Mixed ?xk_WishError_Mixed ?xk_InvalidTree_InvalidWords ?xk_InvalidLocale_InvalidWords ?xk_InvalidWishes_InvalidWords ?xk_InvalidWay_InvalidWords ?xk_InvalidCatalog_InvalidWords ?xk_InvalidKey_InvalidWords ?xk_InvalidText_InvalidWords ?xk_InvalidPage_InvalidWords ?xk_InvalidDoor_InvalidWords ?xk_InvalidChoice_InvalidWords ?xk_InvalidIndex_InvalidWords ?xk_Unlike_InvalidWords ?xk_Needless_InvalidWords ?xk_NothingThere_InvalidWords ?xk_NoBlock_InvalidWords ?xk_NothingToUndo_InvalidWords ?xk_InvalidCommand_InvalidWords ?xk_Mixed_InvalidWords ?xk_InvalidWords_InvalidWords ?xk_WishError_InvalidWords ?xk_InvalidTree_ValueError ?xk_InvalidLocale_ValueError ?xk_InvalidWishes_ValueError ?xk_InvalidWay_ValueError ?xk_InvalidCatalog_ValueError ?xk_InvalidKey_ValueError ?xk_InvalidText_ValueError ?xk_InvalidPage_ValueError ?xk_InvalidDoor_ValueError ?xk_InvalidChoice_ValueError ?xk_InvalidIndex_ValueError ?xk_Unlike_ValueError ?xk_Needless_ValueError ?xk_NothingThere_ValueError ?xk_NoBlock_ValueError ?xk_NothingToUndo_ValueError ?xk_InvalidCommand_ValueError ?xk_Mixed_ValueError ?xk_InvalidWords_ValueError ?xk_WishError_ValueError
    (case a0 => k_is); (case l0 => k_is); (case c0 => k_is); (case k0 => k_is)
    (case a1 => k_is); (case l1 => k_is); (case c1 => k_is); (case k1 => k_is)
    (case a2 => k_is); (case l2 => k_is); (case c2 => k_is); (case k2 => k_is)
    (case a3 => k_is); (case l3 => k_is); (case c3 => k_is); (case k3 => k_is)
    (case a4 => k_is); (case l4 => k_is); (case c4 => k_is); (case k4 => k_is)
    (case a5 => k_is); (case l5 => k_is); (case c5 => k_is); (case k5 => k_is)
    (case z_ValueError => k_is); (case z_int => k_is); (case z_isinstance => k_is); (case z_max => k_is); (case z_range => k_is); (case z_repr => k_is); (case z_str => k_is); (case z_tuple => k_is); (case xa_WishError => k_is); (case xi_WishError => k_is); (case xt_WishError => k_is); (case xa_InvalidTree => k_is); (case xi_InvalidTree => k_is); (case xt_InvalidTree => k_is); (case xa_InvalidLocale => k_is); (case xi_InvalidLocale => k_is); (case xt_InvalidLocale => k_is); (case xa_InvalidWishes => k_is); (case xi_InvalidWishes => k_is); (case xt_InvalidWishes => k_is); (case xa_InvalidWay => k_is); (case xi_InvalidWay => k_is); (case xt_InvalidWay => k_is); (case xa_InvalidCatalog => k_is); (case xi_InvalidCatalog => k_is); (case xt_InvalidCatalog => k_is); (case xa_InvalidKey => k_is); (case xi_InvalidKey => k_is); (case xt_InvalidKey => k_is); (case xa_InvalidText => k_is); (case xi_InvalidText => k_is); (case xt_InvalidText => k_is); (case xa_InvalidPage => k_is); (case xi_InvalidPage => k_is); (case xt_InvalidPage => k_is); (case xa_InvalidDoor => k_is); (case xi_InvalidDoor => k_is); (case xt_InvalidDoor => k_is); (case xa_InvalidChoice => k_is); (case xi_InvalidChoice => k_is); (case xt_InvalidChoice => k_is); (case xa_InvalidIndex => k_is); (case xi_InvalidIndex => k_is); (case xt_InvalidIndex => k_is); (case xa_Unlike => k_is); (case xi_Unlike => k_is); (case xt_Unlike => k_is); (case xa_Needless => k_is); (case xi_Needless => k_is); (case xt_Needless => k_is); (case xa_NothingThere => k_is); (case xi_NothingThere => k_is); (case xt_NothingThere => k_is); (case xa_NoBlock => k_is); (case xi_NoBlock => k_is); (case xt_NoBlock => k_is); (case xa_NothingToUndo => k_is); (case xi_NothingToUndo => k_is); (case xt_NothingToUndo => k_is); (case xa_InvalidCommand => k_is); (case xi_InvalidCommand => k_is); (case xt_InvalidCommand => k_is); (case xa_Mixed => k_is); (case xi_Mixed => k_is); (case xt_Mixed => k_is); (case xa_InvalidWords => k_is); (case xi_InvalidWords => k_is); (case xt_InvalidWords => k_is); (case xr_InvalidTree => exact ⟨by k_exc, by k_is, by k_is, by k_is⟩); (case xe_InvalidTree => exact ⟨by k_is, by k_is, by k_is, by k_is, by k_is, by k_is, by k_is, by k_is⟩); (case xs_InvalidTree => k_is); (case xr_InvalidLocale => exact ⟨by k_exc, by k_is, by k_is, by k_is⟩); (case xe_InvalidLocale => exact ⟨by k_is, by k_is, by k_is, by k_is, by k_is, by k_is, by k_is, by k_is⟩); (case xs_InvalidLocale => k_is); (case xr_InvalidWishes => exact ⟨by k_exc, by k_is, by k_is, by k_is⟩); (case xe_InvalidWishes => exact ⟨by k_is, by k_is, by k_is, by k_is, by k_is, by k_is, by k_is, by k_is⟩); (case xs_InvalidWishes => k_is); (case xr_InvalidWay => exact ⟨by k_exc, by k_is, by k_is, by k_is⟩); (case xe_InvalidWay => exact ⟨by k_is, by k_is, by k_is, by k_is, by k_is, by k_is, by k_is, by k_is⟩); (case xs_InvalidWay => k_is); (case xr_InvalidCatalog => exact ⟨by k_exc, by k_is, by k_is, by k_is⟩); (case xe_InvalidCatalog => exact ⟨by k_is, by k_is, by k_is, by k_is, by k_is, by k_is, by k_is, by k_is⟩); (case xs_InvalidCatalog => k_is); (case xr_InvalidKey => exact ⟨by k_exc, by k_is, by k_is, by k_is⟩); (case xe_InvalidKey => exact ⟨by k_is, by k_is, by k_is, by k_is, by k_is, by k_is, by k_is, by k_is⟩); (case xs_InvalidKey => k_is); (case xr_InvalidText => exact ⟨by k_exc, by k_is, by k_is, by k_is⟩); (case xe_InvalidText => exact ⟨by k_is, by k_is, by k_is, by k_is, by k_is, by k_is, by k_is, by k_is⟩); (case xs_InvalidText => k_is); (case xr_InvalidPage => exact ⟨by k_exc, by k_is, by k_is, by k_is⟩); (case xe_InvalidPage => exact ⟨by k_is, by k_is, by k_is, by k_is, by k_is, by k_is, by k_is, by k_is⟩); (case xs_InvalidPage => k_is); (case xr_InvalidDoor => exact ⟨by k_exc, by k_is, by k_is, by k_is⟩); (case xe_InvalidDoor => exact ⟨by k_is, by k_is, by k_is, by k_is, by k_is, by k_is, by k_is, by k_is⟩); (case xs_InvalidDoor => k_is); (case xr_InvalidChoice => exact ⟨by k_exc, by k_is, by k_is, by k_is⟩); (case xe_InvalidChoice => exact ⟨by k_is, by k_is, by k_is, by k_is, by k_is, by k_is, by k_is, by k_is⟩); (case xs_InvalidChoice => k_is); (case xr_InvalidIndex => exact ⟨by k_exc, by k_is, by k_is, by k_is⟩); (case xe_InvalidIndex => exact ⟨by k_is, by k_is, by k_is, by k_is, by k_is, by k_is, by k_is, by k_is⟩); (case xs_InvalidIndex => k_is); (case xr_Unlike => exact ⟨by k_exc, by k_is, by k_is, by k_is⟩); (case xe_Unlike => exact ⟨by k_is, by k_is, by k_is, by k_is, by k_is, by k_is, by k_is, by k_is⟩); (case xs_Unlike => k_is); (case xr_Needless => exact ⟨by k_exc, by k_is, by k_is, by k_is⟩); (case xe_Needless => exact ⟨by k_is, by k_is, by k_is, by k_is, by k_is, by k_is, by k_is, by k_is⟩); (case xs_Needless => k_is); (case xr_NothingThere => exact ⟨by k_exc, by k_is, by k_is, by k_is⟩); (case xe_NothingThere => exact ⟨by k_is, by k_is, by k_is, by k_is, by k_is, by k_is, by k_is, by k_is⟩); (case xs_NothingThere => k_is); (case xr_NoBlock => exact ⟨by k_exc, by k_is, by k_is, by k_is⟩); (case xe_NoBlock => exact ⟨by k_is, by k_is, by k_is, by k_is, by k_is, by k_is, by k_is, by k_is⟩); (case xs_NoBlock => k_is); (case xr_NothingToUndo => exact ⟨by k_exc, by k_is, by k_is, by k_is⟩); (case xe_NothingToUndo => exact ⟨by k_is, by k_is, by k_is, by k_is, by k_is, by k_is, by k_is, by k_is⟩); (case xs_NothingToUndo => k_is); (case xr_InvalidCommand => exact ⟨by k_exc, by k_is, by k_is, by k_is⟩); (case xe_InvalidCommand => exact ⟨by k_is, by k_is, by k_is, by k_is, by k_is, by k_is, by k_is, by k_is⟩); (case xs_InvalidCommand => k_is); (case xo_Mixed => k_is); (case xm_Mixed => first | rfl | decide); (case xs1_Mixed => k_is); (case xs2_Mixed => k_is); (case xs3_Mixed => k_is); (case xs4_Mixed => k_is); (case xs5_Mixed => k_is); (case xs6_Mixed => k_is); (case xs7_Mixed => exact rfl); (case xs7a_Mixed => k_is); (case xs7b_Mixed => k_is); (case xs8_Mixed => k_is); (case xs9_Mixed => k_is); (case xt1_Mixed => first | rfl | decide); (case xt2_Mixed => k_is); (case xt3_Mixed => k_is); (case xt4_Mixed => k_is); (case xt5_Mixed => k_is); (case xt6_Mixed => k_is); (case xt7_Mixed => exact rfl); (case xt8_Mixed => first | rfl | decide); (case xt9_Mixed => k_is); (case xe_Mixed => exact ⟨by k_is, by k_is, by k_is, by k_is, by k_is, by k_is, by k_is, by k_is⟩); (case xs_Mixed => k_is); (case xo_InvalidWords => k_is); (case xm_InvalidWords => first | rfl | decide); (case xs1_InvalidWords => k_is); (case xs2_InvalidWords => k_is); (case xs3_InvalidWords => k_is); (case xs4_InvalidWords => k_is); (case xs5_InvalidWords => k_is); (case xs6_InvalidWords => k_is); (case xs7_InvalidWords => exact rfl); (case xs7a_InvalidWords => k_is); (case xs7b_InvalidWords => k_is); (case xs8_InvalidWords => k_is); (case xs9_InvalidWords => k_is); (case xt1_InvalidWords => first | rfl | decide); (case xt2_InvalidWords => k_is); (case xt3_InvalidWords => k_is); (case xt4_InvalidWords => k_is); (case xt5_InvalidWords => k_is); (case xt6_InvalidWords => k_is); (case xt7_InvalidWords => exact rfl); (case xt8_InvalidWords => first | rfl | decide); (case xt9_InvalidWords => k_is); (case xe_InvalidWords => exact ⟨by k_is, by k_is, by k_is, by k_is, by k_is, by k_is, by k_is, by k_is⟩); (case xs_InvalidWords => k_is); (case xr_WishError => exact ⟨by k_exc, by k_is, by k_is, by k_is⟩); (case xe_WishError => exact ⟨by k_is, by k_is, by k_is, by k_is, by k_is, by k_is, by k_is, by k_is⟩); (case xs_WishError => k_is); (case xk_InvalidTree_WishError => k_is); (case xk_InvalidLocale_WishError => k_is); (case xk_InvalidWishes_WishError => k_is); (case xk_InvalidWay_WishError => k_is); (case xk_InvalidCatalog_WishError => k_is); (case xk_InvalidKey_WishError => k_is); (case xk_InvalidText_WishError => k_is); (case xk_InvalidPage_WishError => k_is); (case xk_InvalidDoor_WishError => k_is); (case xk_InvalidChoice_WishError => k_is); (case xk_InvalidIndex_WishError => k_is); (case xk_Unlike_WishError => k_is); (case xk_Needless_WishError => k_is); (case xk_NothingThere_WishError => k_is); (case xk_NoBlock_WishError => k_is); (case xk_NothingToUndo_WishError => k_is); (case xk_InvalidCommand_WishError => k_is); (case xk_Mixed_WishError => k_is); (case xk_InvalidWords_WishError => k_is); (case xk_WishError_WishError => k_is); (case xk_InvalidTree_InvalidTree => k_is); (case xk_InvalidLocale_InvalidTree => k_is); (case xk_InvalidWishes_InvalidTree => k_is); (case xk_InvalidWay_InvalidTree => k_is); (case xk_InvalidCatalog_InvalidTree => k_is); (case xk_InvalidKey_InvalidTree => k_is); (case xk_InvalidText_InvalidTree => k_is); (case xk_InvalidPage_InvalidTree => k_is); (case xk_InvalidDoor_InvalidTree => k_is); (case xk_InvalidChoice_InvalidTree => k_is); (case xk_InvalidIndex_InvalidTree => k_is); (case xk_Unlike_InvalidTree => k_is); (case xk_Needless_InvalidTree => k_is); (case xk_NothingThere_InvalidTree => k_is); (case xk_NoBlock_InvalidTree => k_is); (case xk_NothingToUndo_InvalidTree => k_is); (case xk_InvalidCommand_InvalidTree => k_is); (case xk_Mixed_InvalidTree => k_is); (case xk_InvalidWords_InvalidTree => k_is); (case xk_WishError_InvalidTree => k_is); (case xk_InvalidTree_InvalidLocale => k_is); (case xk_InvalidLocale_InvalidLocale => k_is); (case xk_InvalidWishes_InvalidLocale => k_is); (case xk_InvalidWay_InvalidLocale => k_is); (case xk_InvalidCatalog_InvalidLocale => k_is); (case xk_InvalidKey_InvalidLocale => k_is); (case xk_InvalidText_InvalidLocale => k_is); (case xk_InvalidPage_InvalidLocale => k_is); (case xk_InvalidDoor_InvalidLocale => k_is); (case xk_InvalidChoice_InvalidLocale => k_is); (case xk_InvalidIndex_InvalidLocale => k_is); (case xk_Unlike_InvalidLocale => k_is); (case xk_Needless_InvalidLocale => k_is); (case xk_NothingThere_InvalidLocale => k_is); (case xk_NoBlock_InvalidLocale => k_is); (case xk_NothingToUndo_InvalidLocale => k_is); (case xk_InvalidCommand_InvalidLocale => k_is); (case xk_Mixed_InvalidLocale => k_is); (case xk_InvalidWords_InvalidLocale => k_is); (case xk_WishError_InvalidLocale => k_is); (case xk_InvalidTree_InvalidWishes => k_is); (case xk_InvalidLocale_InvalidWishes => k_is); (case xk_InvalidWishes_InvalidWishes => k_is); (case xk_InvalidWay_InvalidWishes => k_is); (case xk_InvalidCatalog_InvalidWishes => k_is); (case xk_InvalidKey_InvalidWishes => k_is); (case xk_InvalidText_InvalidWishes => k_is); (case xk_InvalidPage_InvalidWishes => k_is); (case xk_InvalidDoor_InvalidWishes => k_is); (case xk_InvalidChoice_InvalidWishes => k_is); (case xk_InvalidIndex_InvalidWishes => k_is); (case xk_Unlike_InvalidWishes => k_is); (case xk_Needless_InvalidWishes => k_is); (case xk_NothingThere_InvalidWishes => k_is); (case xk_NoBlock_InvalidWishes => k_is); (case xk_NothingToUndo_InvalidWishes => k_is); (case xk_InvalidCommand_InvalidWishes => k_is); (case xk_Mixed_InvalidWishes => k_is); (case xk_InvalidWords_InvalidWishes => k_is); (case xk_WishError_InvalidWishes => k_is); (case xk_InvalidTree_InvalidWay => k_is); (case xk_InvalidLocale_InvalidWay => k_is); (case xk_InvalidWishes_InvalidWay => k_is); (case xk_InvalidWay_InvalidWay => k_is); (case xk_InvalidCatalog_InvalidWay => k_is); (case xk_InvalidKey_InvalidWay => k_is); (case xk_InvalidText_InvalidWay => k_is); (case xk_InvalidPage_InvalidWay => k_is); (case xk_InvalidDoor_InvalidWay => k_is); (case xk_InvalidChoice_InvalidWay => k_is); (case xk_InvalidIndex_InvalidWay => k_is); (case xk_Unlike_InvalidWay => k_is); (case xk_Needless_InvalidWay => k_is); (case xk_NothingThere_InvalidWay => k_is); (case xk_NoBlock_InvalidWay => k_is); (case xk_NothingToUndo_InvalidWay => k_is); (case xk_InvalidCommand_InvalidWay => k_is); (case xk_Mixed_InvalidWay => k_is); (case xk_InvalidWords_InvalidWay => k_is); (case xk_WishError_InvalidWay => k_is); (case xk_InvalidTree_InvalidCatalog => k_is); (case xk_InvalidLocale_InvalidCatalog => k_is); (case xk_InvalidWishes_InvalidCatalog => k_is); (case xk_InvalidWay_InvalidCatalog => k_is); (case xk_InvalidCatalog_InvalidCatalog => k_is); (case xk_InvalidKey_InvalidCatalog => k_is); (case xk_InvalidText_InvalidCatalog => k_is); (case xk_InvalidPage_InvalidCatalog => k_is); (case xk_InvalidDoor_InvalidCatalog => k_is); (case xk_InvalidChoice_InvalidCatalog => k_is); (case xk_InvalidIndex_InvalidCatalog => k_is); (case xk_Unlike_InvalidCatalog => k_is); (case xk_Needless_InvalidCatalog => k_is); (case xk_NothingThere_InvalidCatalog => k_is); (case xk_NoBlock_InvalidCatalog => k_is); (case xk_NothingToUndo_InvalidCatalog => k_is); (case xk_InvalidCommand_InvalidCatalog => k_is); (case xk_Mixed_InvalidCatalog => k_is); (case xk_InvalidWords_InvalidCatalog => k_is); (case xk_WishError_InvalidCatalog => k_is); (case xk_InvalidTree_InvalidKey => k_is); (case xk_InvalidLocale_InvalidKey => k_is); (case xk_InvalidWishes_InvalidKey => k_is); (case xk_InvalidWay_InvalidKey => k_is); (case xk_InvalidCatalog_InvalidKey => k_is); (case xk_InvalidKey_InvalidKey => k_is); (case xk_InvalidText_InvalidKey => k_is); (case xk_InvalidPage_InvalidKey => k_is); (case xk_InvalidDoor_InvalidKey => k_is); (case xk_InvalidChoice_InvalidKey => k_is); (case xk_InvalidIndex_InvalidKey => k_is); (case xk_Unlike_InvalidKey => k_is); (case xk_Needless_InvalidKey => k_is); (case xk_NothingThere_InvalidKey => k_is); (case xk_NoBlock_InvalidKey => k_is); (case xk_NothingToUndo_InvalidKey => k_is); (case xk_InvalidCommand_InvalidKey => k_is); (case xk_Mixed_InvalidKey => k_is); (case xk_InvalidWords_InvalidKey => k_is); (case xk_WishError_InvalidKey => k_is); (case xk_InvalidTree_InvalidText => k_is); (case xk_InvalidLocale_InvalidText => k_is); (case xk_InvalidWishes_InvalidText => k_is); (case xk_InvalidWay_InvalidText => k_is); (case xk_InvalidCatalog_InvalidText => k_is); (case xk_InvalidKey_InvalidText => k_is); (case xk_InvalidText_InvalidText => k_is); (case xk_InvalidPage_InvalidText => k_is); (case xk_InvalidDoor_InvalidText => k_is); (case xk_InvalidChoice_InvalidText => k_is); (case xk_InvalidIndex_InvalidText => k_is); (case xk_Unlike_InvalidText => k_is); (case xk_Needless_InvalidText => k_is); (case xk_NothingThere_InvalidText => k_is); (case xk_NoBlock_InvalidText => k_is); (case xk_NothingToUndo_InvalidText => k_is); (case xk_InvalidCommand_InvalidText => k_is); (case xk_Mixed_InvalidText => k_is); (case xk_InvalidWords_InvalidText => k_is); (case xk_WishError_InvalidText => k_is); (case xk_InvalidTree_InvalidPage => k_is); (case xk_InvalidLocale_InvalidPage => k_is); (case xk_InvalidWishes_InvalidPage => k_is); (case xk_InvalidWay_InvalidPage => k_is); (case xk_InvalidCatalog_InvalidPage => k_is); (case xk_InvalidKey_InvalidPage => k_is); (case xk_InvalidText_InvalidPage => k_is); (case xk_InvalidPage_InvalidPage => k_is); (case xk_InvalidDoor_InvalidPage => k_is); (case xk_InvalidChoice_InvalidPage => k_is); (case xk_InvalidIndex_InvalidPage => k_is); (case xk_Unlike_InvalidPage => k_is); (case xk_Needless_InvalidPage => k_is); (case xk_NothingThere_InvalidPage => k_is); (case xk_NoBlock_InvalidPage => k_is); (case xk_NothingToUndo_InvalidPage => k_is); (case xk_InvalidCommand_InvalidPage => k_is); (case xk_Mixed_InvalidPage => k_is); (case xk_InvalidWords_InvalidPage => k_is); (case xk_WishError_InvalidPage => k_is); (case xk_InvalidTree_InvalidDoor => k_is); (case xk_InvalidLocale_InvalidDoor => k_is); (case xk_InvalidWishes_InvalidDoor => k_is); (case xk_InvalidWay_InvalidDoor => k_is); (case xk_InvalidCatalog_InvalidDoor => k_is); (case xk_InvalidKey_InvalidDoor => k_is); (case xk_InvalidText_InvalidDoor => k_is); (case xk_InvalidPage_InvalidDoor => k_is); (case xk_InvalidDoor_InvalidDoor => k_is); (case xk_InvalidChoice_InvalidDoor => k_is); (case xk_InvalidIndex_InvalidDoor => k_is); (case xk_Unlike_InvalidDoor => k_is); (case xk_Needless_InvalidDoor => k_is); (case xk_NothingThere_InvalidDoor => k_is); (case xk_NoBlock_InvalidDoor => k_is); (case xk_NothingToUndo_InvalidDoor => k_is); (case xk_InvalidCommand_InvalidDoor => k_is); (case xk_Mixed_InvalidDoor => k_is); (case xk_InvalidWords_InvalidDoor => k_is); (case xk_WishError_InvalidDoor => k_is); (case xk_InvalidTree_InvalidChoice => k_is); (case xk_InvalidLocale_InvalidChoice => k_is); (case xk_InvalidWishes_InvalidChoice => k_is); (case xk_InvalidWay_InvalidChoice => k_is); (case xk_InvalidCatalog_InvalidChoice => k_is); (case xk_InvalidKey_InvalidChoice => k_is); (case xk_InvalidText_InvalidChoice => k_is); (case xk_InvalidPage_InvalidChoice => k_is); (case xk_InvalidDoor_InvalidChoice => k_is); (case xk_InvalidChoice_InvalidChoice => k_is); (case xk_InvalidIndex_InvalidChoice => k_is); (case xk_Unlike_InvalidChoice => k_is); (case xk_Needless_InvalidChoice => k_is); (case xk_NothingThere_InvalidChoice => k_is); (case xk_NoBlock_InvalidChoice => k_is); (case xk_NothingToUndo_InvalidChoice => k_is); (case xk_InvalidCommand_InvalidChoice => k_is); (case xk_Mixed_InvalidChoice => k_is); (case xk_InvalidWords_InvalidChoice => k_is); (case xk_WishError_InvalidChoice => k_is); (case xk_InvalidTree_InvalidIndex => k_is); (case xk_InvalidLocale_InvalidIndex => k_is); (case xk_InvalidWishes_InvalidIndex => k_is); (case xk_InvalidWay_InvalidIndex => k_is); (case xk_InvalidCatalog_InvalidIndex => k_is); (case xk_InvalidKey_InvalidIndex => k_is); (case xk_InvalidText_InvalidIndex => k_is); (case xk_InvalidPage_InvalidIndex => k_is); (case xk_InvalidDoor_InvalidIndex => k_is); (case xk_InvalidChoice_InvalidIndex => k_is); (case xk_InvalidIndex_InvalidIndex => k_is); (case xk_Unlike_InvalidIndex => k_is); (case xk_Needless_InvalidIndex => k_is); (case xk_NothingThere_InvalidIndex => k_is); (case xk_NoBlock_InvalidIndex => k_is); (case xk_NothingToUndo_InvalidIndex => k_is); (case xk_InvalidCommand_InvalidIndex => k_is); (case xk_Mixed_InvalidIndex => k_is); (case xk_InvalidWords_InvalidIndex => k_is); (case xk_WishError_InvalidIndex => k_is); (case xk_InvalidTree_Unlike => k_is); (case xk_InvalidLocale_Unlike => k_is); (case xk_InvalidWishes_Unlike => k_is); (case xk_InvalidWay_Unlike => k_is); (case xk_InvalidCatalog_Unlike => k_is); (case xk_InvalidKey_Unlike => k_is); (case xk_InvalidText_Unlike => k_is); (case xk_InvalidPage_Unlike => k_is); (case xk_InvalidDoor_Unlike => k_is); (case xk_InvalidChoice_Unlike => k_is); (case xk_InvalidIndex_Unlike => k_is); (case xk_Unlike_Unlike => k_is); (case xk_Needless_Unlike => k_is); (case xk_NothingThere_Unlike => k_is); (case xk_NoBlock_Unlike => k_is); (case xk_NothingToUndo_Unlike => k_is); (case xk_InvalidCommand_Unlike => k_is); (case xk_Mixed_Unlike => k_is); (case xk_InvalidWords_Unlike => k_is); (case xk_WishError_Unlike => k_is); (case xk_InvalidTree_Needless => k_is); (case xk_InvalidLocale_Needless => k_is); (case xk_InvalidWishes_Needless => k_is); (case xk_InvalidWay_Needless => k_is); (case xk_InvalidCatalog_Needless => k_is); (case xk_InvalidKey_Needless => k_is); (case xk_InvalidText_Needless => k_is); (case xk_InvalidPage_Needless => k_is); (case xk_InvalidDoor_Needless => k_is); (case xk_InvalidChoice_Needless => k_is); (case xk_InvalidIndex_Needless => k_is); (case xk_Unlike_Needless => k_is); (case xk_Needless_Needless => k_is); (case xk_NothingThere_Needless => k_is); (case xk_NoBlock_Needless => k_is); (case xk_NothingToUndo_Needless => k_is); (case xk_InvalidCommand_Needless => k_is); (case xk_Mixed_Needless => k_is); (case xk_InvalidWords_Needless => k_is); (case xk_WishError_Needless => k_is); (case xk_InvalidTree_NothingThere => k_is); (case xk_InvalidLocale_NothingThere => k_is); (case xk_InvalidWishes_NothingThere => k_is); (case xk_InvalidWay_NothingThere => k_is); (case xk_InvalidCatalog_NothingThere => k_is); (case xk_InvalidKey_NothingThere => k_is); (case xk_InvalidText_NothingThere => k_is); (case xk_InvalidPage_NothingThere => k_is); (case xk_InvalidDoor_NothingThere => k_is); (case xk_InvalidChoice_NothingThere => k_is); (case xk_InvalidIndex_NothingThere => k_is); (case xk_Unlike_NothingThere => k_is); (case xk_Needless_NothingThere => k_is); (case xk_NothingThere_NothingThere => k_is); (case xk_NoBlock_NothingThere => k_is); (case xk_NothingToUndo_NothingThere => k_is); (case xk_InvalidCommand_NothingThere => k_is); (case xk_Mixed_NothingThere => k_is); (case xk_InvalidWords_NothingThere => k_is); (case xk_WishError_NothingThere => k_is); (case xk_InvalidTree_NoBlock => k_is); (case xk_InvalidLocale_NoBlock => k_is); (case xk_InvalidWishes_NoBlock => k_is); (case xk_InvalidWay_NoBlock => k_is); (case xk_InvalidCatalog_NoBlock => k_is); (case xk_InvalidKey_NoBlock => k_is); (case xk_InvalidText_NoBlock => k_is); (case xk_InvalidPage_NoBlock => k_is); (case xk_InvalidDoor_NoBlock => k_is); (case xk_InvalidChoice_NoBlock => k_is); (case xk_InvalidIndex_NoBlock => k_is); (case xk_Unlike_NoBlock => k_is); (case xk_Needless_NoBlock => k_is); (case xk_NothingThere_NoBlock => k_is); (case xk_NoBlock_NoBlock => k_is); (case xk_NothingToUndo_NoBlock => k_is); (case xk_InvalidCommand_NoBlock => k_is); (case xk_Mixed_NoBlock => k_is); (case xk_InvalidWords_NoBlock => k_is); (case xk_WishError_NoBlock => k_is); (case xk_InvalidTree_NothingToUndo => k_is); (case xk_InvalidLocale_NothingToUndo => k_is); (case xk_InvalidWishes_NothingToUndo => k_is); (case xk_InvalidWay_NothingToUndo => k_is); (case xk_InvalidCatalog_NothingToUndo => k_is); (case xk_InvalidKey_NothingToUndo => k_is); (case xk_InvalidText_NothingToUndo => k_is); (case xk_InvalidPage_NothingToUndo => k_is); (case xk_InvalidDoor_NothingToUndo => k_is); (case xk_InvalidChoice_NothingToUndo => k_is); (case xk_InvalidIndex_NothingToUndo => k_is); (case xk_Unlike_NothingToUndo => k_is); (case xk_Needless_NothingToUndo => k_is); (case xk_NothingThere_NothingToUndo => k_is); (case xk_NoBlock_NothingToUndo => k_is); (case xk_NothingToUndo_NothingToUndo => k_is); (case xk_InvalidCommand_NothingToUndo => k_is); (case xk_Mixed_NothingToUndo => k_is); (case xk_InvalidWords_NothingToUndo => k_is); (case xk_WishError_NothingToUndo => k_is); (case xk_InvalidTree_InvalidCommand => k_is); (case xk_InvalidLocale_InvalidCommand => k_is); (case xk_InvalidWishes_InvalidCommand => k_is); (case xk_InvalidWay_InvalidCommand => k_is); (case xk_InvalidCatalog_InvalidCommand => k_is); (case xk_InvalidKey_InvalidCommand => k_is); (case xk_InvalidText_InvalidCommand => k_is); (case xk_InvalidPage_InvalidCommand => k_is); (case xk_InvalidDoor_InvalidCommand => k_is); (case xk_InvalidChoice_InvalidCommand => k_is); (case xk_InvalidIndex_InvalidCommand => k_is); (case xk_Unlike_InvalidCommand => k_is); (case xk_Needless_InvalidCommand => k_is); (case xk_NothingThere_InvalidCommand => k_is); (case xk_NoBlock_InvalidCommand => k_is); (case xk_NothingToUndo_InvalidCommand => k_is); (case xk_InvalidCommand_InvalidCommand => k_is); (case xk_Mixed_InvalidCommand => k_is); (case xk_InvalidWords_InvalidCommand => k_is); (case xk_WishError_InvalidCommand => k_is); (case xk_InvalidTree_Mixed => k_is); (case xk_InvalidLocale_Mixed => k_is); (case xk_InvalidWishes_Mixed => k_is); (case xk_InvalidWay_Mixed => k_is); (case xk_InvalidCatalog_Mixed => k_is); (case xk_InvalidKey_Mixed => k_is); (case xk_InvalidText_Mixed => k_is); (case xk_InvalidPage_Mixed => k_is); (case xk_InvalidDoor_Mixed => k_is); (case xk_InvalidChoice_Mixed => k_is); (case xk_InvalidIndex_Mixed => k_is); (case xk_Unlike_Mixed => k_is); (case xk_Needless_Mixed => k_is); (case xk_NothingThere_Mixed => k_is); (case xk_NoBlock_Mixed => k_is); (case xk_NothingToUndo_Mixed => k_is); (case xk_InvalidCommand_Mixed => k_is); (case xk_Mixed_Mixed => k_is); (case xk_InvalidWords_Mixed => k_is); (case xk_WishError_Mixed => k_is); (case xk_InvalidTree_InvalidWords => k_is); (case xk_InvalidLocale_InvalidWords => k_is); (case xk_InvalidWishes_InvalidWords => k_is); (case xk_InvalidWay_InvalidWords => k_is); (case xk_InvalidCatalog_InvalidWords => k_is); (case xk_InvalidKey_InvalidWords => k_is); (case xk_InvalidText_InvalidWords => k_is); (case xk_InvalidPage_InvalidWords => k_is); (case xk_InvalidDoor_InvalidWords => k_is); (case xk_InvalidChoice_InvalidWords => k_is); (case xk_InvalidIndex_InvalidWords => k_is); (case xk_Unlike_InvalidWords => k_is); (case xk_Needless_InvalidWords => k_is); (case xk_NothingThere_InvalidWords => k_is); (case xk_NoBlock_InvalidWords => k_is); (case xk_NothingToUndo_InvalidWords => k_is); (case xk_InvalidCommand_InvalidWords => k_is); (case xk_Mixed_InvalidWords => k_is); (case xk_InvalidWords_InvalidWords => k_is); (case xk_WishError_InvalidWords => k_is); (case xk_InvalidTree_ValueError => k_is); (case xk_InvalidLocale_ValueError => k_is); (case xk_InvalidWishes_ValueError => k_is); (case xk_InvalidWay_ValueError => k_is); (case xk_InvalidCatalog_ValueError => k_is); (case xk_InvalidKey_ValueError => k_is); (case xk_InvalidText_ValueError => k_is); (case xk_InvalidPage_ValueError => k_is); (case xk_InvalidDoor_ValueError => k_is); (case xk_InvalidChoice_ValueError => k_is); (case xk_InvalidIndex_ValueError => k_is); (case xk_Unlike_ValueError => k_is); (case xk_Needless_ValueError => k_is); (case xk_NothingThere_ValueError => k_is); (case xk_NoBlock_ValueError => k_is); (case xk_NothingToUndo_ValueError => k_is); (case xk_InvalidCommand_ValueError => k_is); (case xk_Mixed_ValueError => k_is); (case xk_InvalidWords_ValueError => k_is); (case xk_WishError_ValueError => k_is)
