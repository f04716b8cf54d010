import PyProof.Rows.All
import Wide.All
import OpenK.AllK
import Wide.FinOn
import HandS.ForMost
import HandS.ForExc
import HandS.Wide
import HandS.More
import HandS.Style
import HandS.Deep
import HandS.Conv
import HandS.TupAny
import HandS.TupMul
import HandS.Zip
import HandS.TryMany
import HandS.Defaults
import PyProof.AutoSeq1
import PyProof.TypeEq
import HandS.IsInst
import HandS.RaiseMore
import PyProof.ReprRoads
import KE.KRevSl
import KE.GoesEnum
import KE.DataFind
import KE.KDictZip
import KE.GoesMore
import PyProof.TupleOfSeq
import PyProof.TupleOfGen
import HandS.Star
import HandS.WideBits
import HandS.Text
import HandS.Replace
import PyProof.FactsAll.str_4
import HandS.Iter
import KE.DataMinMax
import HandS.Exc
import HandS.ExcIs
import KE.KExcIs
import HandS.ExcValue
import KE.KExcSuper
import HandS.ExcInit
import HandS.Words
import HandS.ExcField
import HandS.MethStar
import PySem.Challenge.RW_wishedtongues_k52_one_door
set_option Elab.async false
set_option linter.all false
set_option maxRecDepth 100000
set_option maxHeartbeats 4000000
/-! DL0: plain data over the heap of the layer: what stands for what, what stays, what a frame owns. -/
namespace DL
open PySem PySem.Spec PyProof.Rows L2

/-- plain data; exc: an error object, by the name of its class and the field that it keeps -/
inductive D where
  | non | bl (b : Bool) | int (i : Int) | str (x : Str) | lst (xs : List D) | tup (xs : List D)
  /-- the script: a list that is locked -/
  | fz (xs : List D)
  | exc (c : Str) (fs : List D)
  /-- a pair that a walk gives -/
  | pr (x y : D)
  /-- a range by ones -/
  | rng (lo hi : Int)

abbrev Fz := Addr → Prop
/-- where the script stands: locked, or a part of the module -/
def SqF (K : PySem.W.Frag) (H : Hp) (a : Addr) (vs : List V) : Prop := (∃ o, H a = some (.frz o (.lst vs))) ∨
  ∃ (o : Obj) (its : Array Value) (n : Nat), K.lookup a = some o ∧ o.cls = .type "list" ∧ o.dict = none ∧ o.data = .seq its n ∧ its.size ≤ sizeLine ∧ Vals vs its.toList
theorem SqF.sq {K : PySem.W.Frag} {H : Hp} {a : Addr} {vs : List V} (s : SqF K H a vs) : SqL K H a vs := s.imp (fun ⟨o, h⟩ => .inr ⟨o, h⟩) id

/-- a tuple that is known to its object, which has no dict -/
def TpL (H : Hp) (a : Addr) (vs : List V) : Prop := ∃ o : Obj, o.dict = none ∧ H a = some (.frz o (.tup vs))
theorem TpL.sq {K : PySem.W.Frag} {H : Hp} {a : Addr} {vs : List V} (s : TpL H a vs) : SqT K H a vs := let ⟨o, _, h⟩ := s; .inl (.inr ⟨o, h⟩)
/-- an object that stands, with the dict that it keeps -/
def DictAt (H : Hp) (d : Option Addr) : Prop := ∀ dx, d = some dx → ∃ (od : Obj) (u : HO), H dx = some (.frz od u)
/-- the fields: a name, its worth, a name, .. -/
def FldV : List D → List V → List (Str × V) → Prop
  | [], vs, r => vs = [] ∧ r = []
  | .non :: ds, vs, r => ∃ u vs', vs = u :: vs' ∧ FldV ds vs' r
  | .str f :: _ :: ds, vs, r => ∃ u v vs' r', vs = u :: v :: vs' ∧ r = (f, v) :: r' ∧ FldV ds vs' r'
  | _, _, _ => False
/-- an error, or (its first field is None) an instance of another class -/
def DataOk : List D → Obj → Prop
  | .non :: _, o => o.data = .plain ∧ o.slots = #[]
  | _, o => ∃ vs, o.data = Data.fields vs
theorem DataOk.nil {o : Obj} (h : ∃ vs, o.data = Data.fields vs) : DataOk [] o := h
/-- .. of what is known of its fields -/
def FldOk (H : Hp) (d : Option Addr) : List D → List V → Prop
  | [], _ => DictAt H d
  | x :: fs, vs => ∃ (dx : Addr) (od : Obj) (r : List (Str × V)), d = some dx ∧ H dx = some (.frz od (.xd r)) ∧ FldV (x :: fs) vs r
theorem DictAt.none {H : Hp} : DictAt H Option.none := fun _ h => by cases h
theorem FldOk.dict {H : Hp} {d : Option Addr} : ∀ {fs : List D} {vs : List V}, FldOk H d fs vs → DictAt H d
  | [], _, h => h
  | x :: fs, vs, ⟨dx, od, r, e, h, _⟩ => fun dy ey => by rw [e] at ey; cases ey; exact ⟨_, _, h⟩
theorem FldOk.ext {H H' : Hp} {d : Option Addr} (k : ∀ a o u, H a = some (.frz o u) → H' a = some (.frz o u)) : ∀ {fs : List D} {vs : List V}, FldOk H d fs vs → FldOk H' d fs vs
  | [], _, h => fun dx e => let ⟨od, u, z⟩ := h dx e; ⟨od, u, k _ _ _ z⟩
  | x :: fs, vs, ⟨dx, od, r, e, h, z⟩ => ⟨dx, od, r, e, k _ _ _ h, z⟩
mutual
def Rep (K : PySem.W.Frag) (F : Fz) (H : Hp) : D → V → Prop
  | .non, v => v = .non
  | .bl b, v => v = .bl b
  | .int i, v => v = .int i
  | .str x, v => v = .str x
  | .lst ds, v => ∃ a vs, v = .ref a ∧ F a ∧ H a = some (.lst vs) ∧ RepL K F H ds vs
  | .tup ds, v => ∃ a vs, v = .ref a ∧ TpL H a vs ∧ RepL K F H ds vs
  | .fz ds, v => ∃ a vs, v = .ref a ∧ SqF K H a vs ∧ RepL K F H ds vs
  | .exc c fs, v => ∃ (fv : List V) (a : Addr) (o : Obj) (u : HO) (C : Addr) (d : Option Addr), RepL K F H fs fv ∧ FldOk H d fs fv ∧ v = .ref a ∧ H a = some (.frz o u) ∧ PySem.W.nsIn K mainGlobals c = some (some (.ref C)) ∧ Zc (.ref C) d o ∧ DataOk fs o
  | .pr x y, v => ∃ a vx vy, v = .ref a ∧ H a = some (.tup [vx, vy]) ∧ Rep K F H x vx ∧ Rep K F H y vy
  | .rng lo hi, v => ∃ a o, v = .ref a ∧ H a = some (.frz o (.rng lo hi))
def RepL (K : PySem.W.Frag) (F : Fz) (H : Hp) : List D → List V → Prop
  | [], vs => vs = []
  | d :: ds, vs => ∃ v r, vs = v :: r ∧ Rep K F H d v ∧ RepL K F H ds r
end

/-- what is kept from (F, H) to (F', H'); O: what others own -/
structure Ext (O F : Fz) (H : Hp) (F' : Fz) (H' : Hp) : Prop where
  sub : ∀ a, F a → F' a
  fz : ∀ a o, F a → H a = some o → H' a = some o
  tp : ∀ a xs, H a = some (.tup xs) → H' a = some (.tup xs)
  fr : ∀ a o u, H a = some (.frz o u) → H' a = some (.frz o u)
  out : ∀ a, O a → H' a = H a
  outF : ∀ a, O a → F' a → F a
theorem Ext.refl {O F : Fz} {H : Hp} : Ext O F H F H := ⟨fun _ h => h, fun _ _ _ h => h, fun _ _ h => h, fun _ _ _ h => h, fun _ _ => rfl, fun _ _ h => h⟩
theorem Ext.trans {O F F1 F2 : Fz} {H H1 H2 : Hp} (a : Ext O F H F1 H1) (b : Ext O F1 H1 F2 H2) : Ext O F H F2 H2 :=
  ⟨fun x h => b.sub x (a.sub x h), fun x o h e => b.fz x o (a.sub x h) (a.fz x o h e), fun x xs e => b.tp x xs (a.tp x xs e), fun x o u e => b.fr x o u (a.fr x o u e),
   fun x h => (b.out x h).trans (a.out x h), fun x h f => a.outF x h (b.outF x h f)⟩
theorem Ext.mono {O O' F F' : Fz} {H H' : Hp} (a : Ext O F H F' H') (h : ∀ x, O' x → O x) : Ext O' F H F' H' :=
  ⟨a.sub, a.fz, a.tp, a.fr, fun x q => a.out x (h x q), fun x q => a.outF x (h x q)⟩
/-- all that was tracked is as it was -/
theorem Ext.same {O F : Fz} {H H' : Hp} (s : Same H H') (od : ∀ a, O a → H a ≠ none) : Ext O F H F H' :=
  ⟨fun _ h => h, fun a o _ e => s a o e, fun a xs e => s a _ e, fun a o u e => s a _ e, fun a h => by
    cases q : H a with
    | none => exact absurd q (od a h)
    | some o => exact s a o q, fun _ _ h => h⟩

theorem sqF_ext {K : PySem.W.Frag} {O F F' : Fz} {H H' : Hp} (e : Ext O F H F' H') {a : Addr} {vs : List V} (s : SqF K H a vs) : SqF K H' a vs := s.imp (fun ⟨o, h⟩ => ⟨o, e.fr _ _ _ h⟩) id
theorem tpL_ext {O F F' : Fz} {H H' : Hp} (e : Ext O F H F' H') {a : Addr} {vs : List V} (s : TpL H a vs) : TpL H' a vs := let ⟨o, h1, h2⟩ := s; ⟨o, h1, e.fr _ _ _ h2⟩
mutual
theorem Rep.ext {K : PySem.W.Frag} {O F F' : Fz} {H H' : Hp} (e : Ext O F H F' H') : ∀ (d : D) (v : V), Rep K F H d v → Rep K F' H' d v
  | .non, _, h => h
  | .bl _, _, h => h
  | .int _, _, h => h
  | .str _, _, h => h
  | .lst ds, v, h => by
    obtain ⟨a, vs, e1, f, s, r⟩ := h
    exact ⟨a, vs, e1, e.sub a f, e.fz a _ f s, RepL.ext e ds vs r⟩
  | .fz ds, v, h => by
    obtain ⟨a, vs, e1, s, r⟩ := h
    exact ⟨a, vs, e1, sqF_ext e s, RepL.ext e ds vs r⟩
  | .tup ds, v, h => by
    obtain ⟨a, vs, e1, s, r⟩ := h
    exact ⟨a, vs, e1, tpL_ext e s, RepL.ext e ds vs r⟩
  | .exc _ fs, v, h => by
    obtain ⟨fv, a, o, u, C, d, r0, f0, e1, s, r⟩ := h
    exact ⟨fv, a, o, u, C, d, RepL.ext e fs fv r0, f0.ext e.fr, e1, e.fr _ _ _ s, r⟩
  | .pr x y, v, h => by
    obtain ⟨a, vx, vy, e1, s, r1, r2⟩ := h
    exact ⟨a, vx, vy, e1, e.tp _ _ s, Rep.ext e x vx r1, Rep.ext e y vy r2⟩
  | .rng lo hi, v, h => by
    obtain ⟨a, o, e1, s⟩ := h
    exact ⟨a, o, e1, e.fr _ _ _ s⟩
theorem RepL.ext {K : PySem.W.Frag} {O F F' : Fz} {H H' : Hp} (e : Ext O F H F' H') : ∀ (ds : List D) (vs : List V), RepL K F H ds vs → RepL K F' H' ds vs
  | [], _, h => h
  | d :: ds, vs, h => by
    obtain ⟨v, r, e1, h1, h2⟩ := h
    exact ⟨v, r, e1, Rep.ext e d v h1, RepL.ext e ds r h2⟩
end
theorem RepL.length {K : PySem.W.Frag} {F : Fz} {H : Hp} : ∀ {ds : List D} {vs : List V}, RepL K F H ds vs → vs.length = ds.length
  | [], _, h => by rw [show _ = ([] : List V) from h]; rfl
  | d :: ds, vs, h => by
    obtain ⟨v, r, rfl, _, h2⟩ := h
    simp [RepL.length h2]
theorem RepL.nil {K : PySem.W.Frag} {F : Fz} {H : Hp} : RepL K F H [] [] := by show ([] : List V) = []; rfl
theorem RepL.cons {K : PySem.W.Frag} {F : Fz} {H : Hp} {d : D} {ds : List D} {v : V} {vs : List V} (h : Rep K F H d v) (t : RepL K F H ds vs) : RepL K F H (d :: ds) (v :: vs) := ⟨v, vs, rfl, h, t⟩
theorem RepL.append {K : PySem.W.Frag} {F : Fz} {H : Hp} : ∀ {ds es : List D} {vs ws : List V}, RepL K F H ds vs → RepL K F H es ws → RepL K F H (ds ++ es) (vs ++ ws)
  | [], _, _, _, h, k => by rw [show _ = ([] : List V) from h]; exact k
  | d :: ds, es, vs, ws, h, k => by
    obtain ⟨v, r, rfl, h1, h2⟩ := h
    exact ⟨v, r ++ ws, rfl, h1, RepL.append h2 k⟩
theorem RepL.get {K : PySem.W.Frag} {F : Fz} {H : Hp} : ∀ {ds : List D} {vs : List V} {i : Nat} {d : D}, RepL K F H ds vs → ds[i]? = some d → ∃ v, vs[i]? = some v ∧ Rep K F H d v
  | [], _, i, d, _, e => by simp at e
  | d :: ds, vs, 0, d', h, e => by
    obtain ⟨v, r, rfl, h1, h2⟩ := h
    simp at e; subst e
    exact ⟨v, rfl, h1⟩
  | d :: ds, vs, i + 1, d', h, e => by
    obtain ⟨v, r, rfl, h1, h2⟩ := h
    simp at e
    obtain ⟨v', q1, q2⟩ := RepL.get h2 e
    exact ⟨v', by simpa using q1, q2⟩
theorem RepL.get' {K : PySem.W.Frag} {F : Fz} {H : Hp} {ds : List D} {vs : List V} {i : Nat} {v : V} (h : RepL K F H ds vs) (e : vs[i]? = some v) : ∃ d, ds[i]? = some d ∧ Rep K F H d v := by
  have l := h.length
  have hi : i < ds.length := by
    rw [← l]; exact (List.getElem?_eq_some_iff.mp e).1
  obtain ⟨v', q1, q2⟩ := h.get (List.getElem?_eq_getElem hi)
  rw [e] at q1; cases q1
  exact ⟨_, List.getElem?_eq_getElem hi, q2⟩
theorem RepL.set {K : PySem.W.Frag} {F : Fz} {H : Hp} {d : D} {v : V} (q : Rep K F H d v) : ∀ {ds : List D} {vs : List V} (i : Nat), RepL K F H ds vs → RepL K F H (ds.set i d) (vs.set i v)
  | [], _, i, h => by rw [show _ = ([] : List V) from h]; exact RepL.nil
  | d' :: ds, vs, 0, h => by
    obtain ⟨v', r, rfl, h1, h2⟩ := h
    exact ⟨v, r, rfl, q, h2⟩
  | d' :: ds, vs, i + 1, h => by
    obtain ⟨v', r, rfl, h1, h2⟩ := h
    exact ⟨v', r.set i v, rfl, h1, RepL.set q i h2⟩
theorem RepL.take {K : PySem.W.Frag} {F : Fz} {H : Hp} : ∀ {ds : List D} {vs : List V} (n : Nat), RepL K F H ds vs → RepL K F H (ds.take n) (vs.take n)
  | _, _, 0, _ => by simp only [List.take_zero]; exact RepL.nil
  | [], _, n + 1, h => by rw [show _ = ([] : List V) from h]; exact RepL.nil
  | d :: ds, vs, n + 1, h => by
    obtain ⟨v, r, rfl, h1, h2⟩ := h
    exact ⟨v, r.take n, rfl, h1, RepL.take n h2⟩
theorem RepL.drop {K : PySem.W.Frag} {F : Fz} {H : Hp} : ∀ {ds : List D} {vs : List V} (n : Nat), RepL K F H ds vs → RepL K F H (ds.drop n) (vs.drop n)
  | _, _, 0, h => h
  | [], _, n + 1, h => by rw [show _ = ([] : List V) from h]; exact RepL.nil
  | d :: ds, vs, n + 1, h => by
    obtain ⟨v, r, rfl, h1, h2⟩ := h
    exact RepL.drop n h2
theorem RepL.dropLast {K : PySem.W.Frag} {F : Fz} {H : Hp} {ds : List D} {vs : List V} (h : RepL K F H ds vs) : RepL K F H ds.dropLast vs.dropLast := by
  rw [List.dropLast_eq_take, List.dropLast_eq_take, h.length]
  exact h.take _
theorem RepL.reverse {K : PySem.W.Frag} {F : Fz} {H : Hp} : ∀ {ds : List D} {vs : List V}, RepL K F H ds vs → RepL K F H ds.reverse vs.reverse
  | [], _, h => by rw [show _ = ([] : List V) from h]; exact RepL.nil
  | d :: ds, vs, h => by
    obtain ⟨v, r, rfl, h1, h2⟩ := h
    rw [List.reverse_cons, List.reverse_cons]
    exact (RepL.reverse h2).append (RepL.cons h1 RepL.nil)
theorem RepL.rep {K : PySem.W.Frag} {F : Fz} {H : Hp} {ds : List D} {vs : List V} (h : RepL K F H ds vs) : ∀ k : Nat, RepL K F H (List.replicate k ds).flatten (List.replicate k vs).flatten
  | 0 => RepL.nil
  | k + 1 => by
    rw [List.replicate_succ, List.replicate_succ, List.flatten_cons, List.flatten_cons]
    exact h.append (RepL.rep h k)

/-- a value that may be a list that is not yet still: what an operation reads -/
def RepT (K : PySem.W.Frag) (F : Fz) (H : Hp) : D → V → Prop
  | .lst ds, v => ∃ a vs, v = .ref a ∧ H a = some (.lst vs) ∧ RepL K F H ds vs
  | d, v => Rep K F H d v
theorem Rep.top {K : PySem.W.Frag} {F : Fz} {H : Hp} : ∀ {d : D} {v : V}, Rep K F H d v → RepT K F H d v
  | .lst _, _, h => let ⟨a, vs, e, _, s, r⟩ := h; ⟨a, vs, e, s, r⟩
  | .fz _, _, h => h
  | .non, _, h => h
  | .bl _, _, h => h
  | .int _, _, h => h
  | .str _, _, h => h
  | .tup _, _, h => h
  | .exc _ _, _, h => h
  | .pr _ _, _, h => h
  | .rng _ _, _, h => h

/-! ### a frame's names -/
inductive Md where
  | shr | own | bor
  deriving DecidableEq
structure Ent where
  md : Md
  d : D
abbrev DEnv := List (Option Ent)
/-- the address that the i-th name owns -/
def OwnAt (env : DEnv) (σ : L2.St) (i : Nat) (a : Addr) : Prop := ∃ (m : Md) (d : D), env[i]? = some (some (Ent.mk m d)) ∧ m ≠ Md.shr ∧ σ[i]? = some (some (.ref a))

structure StOk (K : PySem.W.Frag) (O F : Fz) (H : Hp) (σ : L2.St) (env : DEnv) : Prop where
  len : σ.length = env.length
  shr : ∀ (i : Nat) (d : D), env[i]? = some (some (Ent.mk Md.shr (d))) → ∃ v, σ[i]? = some (some v) ∧ Rep K F H d v
  own : ∀ (i : Nat) (m : Md) (d : D), env[i]? = some (some (Ent.mk m (d))) → m ≠ Md.shr → ∃ a vs ds, d = .lst ds ∧ σ[i]? = some (some (.ref a)) ∧ H a = some (.lst vs) ∧ RepL K F H ds vs ∧ ¬ F a ∧ ¬ O a
  inj : ∀ (i j : Nat) (a : Addr), OwnAt env σ i a → OwnAt env σ j a → i = j
  fdom : ∀ a, F a → H a ≠ none
  odom : ∀ a, O a → H a ≠ none

/-- a result: still, or a new list that nobody else holds -/
def REnt (K : PySem.W.Frag) (O F : Fz) (H : Hp) (σ : L2.St) (env : DEnv) (e : Ent) (v : V) : Prop :=
  match e.md with
  | .shr => Rep K F H e.d v
  | _ => ∃ a vs ds, e.d = .lst ds ∧ v = .ref a ∧ H a = some (.lst vs) ∧ RepL K F H ds vs ∧ ¬ F a ∧ ¬ O a ∧ ∀ i, ¬ OwnAt env σ i a

section
variable {K : PySem.W.Frag} {O F F' : Fz} {H H' : Hp} {σ : L2.St} {env : DEnv}
/-- all that was tracked stands, new things beside: the names as they were -/
theorem StOk.same (s : StOk K O F H σ env) (e : Same H H') : StOk K O F H' σ env where
  len := s.len
  shr := fun i d q => let ⟨v, h1, h2⟩ := s.shr i d q; ⟨v, h1, Rep.ext (Ext.same (O := O) e s.odom) d v h2⟩
  own := fun i m d q n => let ⟨a, vs, ds, h1, h2, h3, h4, h5, h6⟩ := s.own i m d q n
    ⟨a, vs, ds, h1, h2, e _ _ h3, RepL.ext (Ext.same (O := O) e s.odom) ds vs h4, h5, h6⟩
  inj := s.inj
  fdom := fun a f => by
    cases q : H a with
    | none => exact absurd q (s.fdom a f)
    | some o => rw [e a o q]; exact nofun
  odom := fun a f => by
    cases q : H a with
    | none => exact absurd q (s.odom a f)
    | some o => rw [e a o q]; exact nofun
/-- a new list that nobody holds becomes still -/
theorem freeze {e : Ent} {v : V} (s : StOk K O F H σ env) (r : REnt K O F H σ env e v) :
    ∃ F', Ext O F H F' H ∧ StOk K O F' H σ env ∧ Rep K F' H e.d v := by
  obtain ⟨m, d⟩ := e
  have own : (∃ a vs ds, d = D.lst ds ∧ v = .ref a ∧ H a = some (.lst vs) ∧ RepL K F H ds vs ∧ ¬ F a ∧ ¬ O a ∧ ∀ i, ¬ OwnAt env σ i a) →
      ∃ F', Ext O F H F' H ∧ StOk K O F' H σ env ∧ Rep K F' H d v := fun ⟨a, vs, ds, e1, e2, h, rl, nF, nO, nW⟩ => by
    subst e1 e2
    have E : Ext O F H (fun b => F b ∨ b = a) H := ⟨fun _ h => .inl h, fun _ _ _ h => h, fun _ _ h => h, fun _ _ _ h => h, fun _ _ => rfl, fun b ob q => by
      rcases q with q | q
      · exact q
      · subst q; exact absurd ob nO⟩
    refine ⟨fun b => F b ∨ b = a, E, ⟨s.len, fun i d q => let ⟨v, h1, h2⟩ := s.shr i d q; ⟨v, h1, Rep.ext E d v h2⟩, fun i m d q n => ?_, s.inj, fun b q => ?_, s.odom⟩, ?_⟩
    · obtain ⟨b, ws, es, h1, h2, h3, h4, h5, h6⟩ := s.own i m d q n
      refine ⟨b, ws, es, h1, h2, h3, RepL.ext E es ws h4, fun z => ?_, h6⟩
      rcases z with z | z
      · exact h5 z
      · subst z
        exact nW i ⟨m, d, q, n, h2⟩
    · rcases q with q | q
      · exact s.fdom b q
      · subst q; rw [h]; exact nofun
    · exact ⟨a, vs, rfl, .inr rfl, h, RepL.ext E ds vs rl⟩
  cases m with
  | shr => exact ⟨F, Ext.refl, s, r⟩
  | own => exact own r
  | bor => exact own r
/-- a name's new value -/
theorem StOk.set {e : Ent} {v : V} {i : Nat} (s : StOk K O F H σ env) (r : REnt K O F H σ env e v) (hi : i < σ.length) : StOk K O F H (σ.set i (some v)) (env.set i (some e)) := by
  have hie : i < env.length := by rw [← s.len]; exact hi
  have oa : ∀ j a, j ≠ i → OwnAt (env.set i (some e)) (σ.set i (some v)) j a → OwnAt env σ j a := fun j a hj ⟨m, d, h1, h2, h3⟩ => by
    rw [List.getElem?_set_ne (Ne.symm hj)] at h1 h3
    exact ⟨m, d, h1, h2, h3⟩
  have self : ∀ a, OwnAt (env.set i (some e)) (σ.set i (some v)) i a → v = .ref a ∧ e.md ≠ Md.shr := fun a ⟨m, d, h1, h2, h3⟩ => by
    rw [List.getElem?_set_self hie] at h1
    rw [List.getElem?_set_self hi] at h3
    cases h1
    cases h3
    exact ⟨rfl, h2⟩
  have rown : e.md ≠ Md.shr → ∃ a vs ds, e.d = .lst ds ∧ v = .ref a ∧ H a = some (.lst vs) ∧ RepL K F H ds vs ∧ ¬ F a ∧ ¬ O a ∧ ∀ i, ¬ OwnAt env σ i a := fun n => by
    obtain ⟨m, d⟩ := e
    cases m with
    | shr => exact absurd rfl n
    | own => exact r
    | bor => exact r
  refine ⟨by rw [List.length_set, List.length_set]; exact s.len, fun j d q => ?_, fun j m d q n => ?_, fun j k a h1 h2 => ?_, s.fdom, s.odom⟩
  · by_cases hj : j = i
    · subst hj
      rw [List.getElem?_set_self hie] at q
      cases q
      exact ⟨v, List.getElem?_set_self hi, r⟩
    · rw [List.getElem?_set_ne (Ne.symm hj)] at q ⊢
      exact s.shr j d q
  · by_cases hj : j = i
    · subst hj
      rw [List.getElem?_set_self hie] at q
      cases q
      obtain ⟨a, vs, ds, e1, e2, h3, h4, h5, h6, _⟩ := rown n
      exact ⟨a, vs, ds, e1, by rw [List.getElem?_set_self hi, e2], h3, h4, h5, h6⟩
    · rw [List.getElem?_set_ne (Ne.symm hj)] at q ⊢
      exact s.own j m d q n
  · by_cases hj : j = i
    · by_cases hk : k = i
      · rw [hj, hk]
      · subst hj
        obtain ⟨rfl, n⟩ := self a h1
        obtain ⟨b, _, _, _, e2, _, _, _, _, nw⟩ := rown n
        cases e2
        exact absurd (oa k a hk h2) (nw k)
    · by_cases hk : k = i
      · subst hk
        obtain ⟨rfl, n⟩ := self a h2
        obtain ⟨b, _, _, _, e2, _, _, _, _, nw⟩ := rown n
        cases e2
        exact absurd (oa j a hj h1) (nw j)
      · exact s.inj j k a (oa j a hj h1) (oa k a hk h2)
/-- a name forgotten -/
theorem StOk.drop {i : Nat} (s : StOk K O F H σ env) : StOk K O F H σ (env.set i none) := by
  have g : ∀ {j : Nat} {x : Ent}, (env.set i none)[j]? = some (some x) → env[j]? = some (some x) := fun {j x} q => by
    by_cases hj : j = i
    · subst hj
      by_cases hl : j < env.length
      · rw [List.getElem?_set_self hl] at q; cases q
      · rw [List.getElem?_eq_none (by rw [List.length_set]; omega)] at q; cases q
    · rw [List.getElem?_set_ne (Ne.symm hj)] at q; exact q
  exact ⟨by rw [List.length_set]; exact s.len, fun j d q => s.shr j d (g q), fun j m d q n => s.own j m d (g q) n, fun j k a ⟨m, d, h1, h2, h3⟩ ⟨m', d', h1', h2', h3'⟩ => s.inj j k a ⟨m, d, g h1, h2, h3⟩ ⟨m', d', g h1', h2', h3'⟩, s.fdom, s.odom⟩
/-- the list that a name owns is changed -/
theorem StOk.write {i : Nat} {m : Md} {d : D} {a : Addr} {vs ws : List V} {es : List D} (s : StOk K O F H σ env) (hi : env[i]? = some (some (Ent.mk m (d)))) (hm : m ≠ Md.shr) (ha : σ[i]? = some (some (.ref a))) (h : H a = some (.lst vs))
    (nF : ¬ F a) (nO : ¬ O a) (r : RepL K F H es ws) : StOk K O F (upd H a (.lst ws)) σ (env.set i (some (Ent.mk m (D.lst es)))) ∧ Ext O F H F (upd H a (.lst ws)) := by
  have E : Ext O F H F (upd H a (.lst ws)) := ⟨fun _ h => h, fun b o f q => by
      rw [upd_ne (fun z => by subst z; exact nF f)]; exact q, fun b xs q => by
      rw [upd_ne (fun z => by subst z; rw [h] at q; cases q)]; exact q, fun b o u q => by
      rw [upd_ne (fun z => by subst z; rw [h] at q; cases q)]; exact q, fun b ob => upd_ne (fun z => by subst z; exact nO ob), fun _ _ q => q⟩
  have hie : i < env.length := (List.getElem?_eq_some_iff.mp hi).1
  have oa : ∀ j b, OwnAt (env.set i (some (Ent.mk m (D.lst es)))) σ j b → OwnAt env σ j b := fun j b ⟨m', d', h1, h2, h3⟩ => by
    by_cases hj : j = i
    · subst hj
      rw [List.getElem?_set_self hie] at h1
      cases h1
      exact ⟨m, d, hi, hm, h3⟩
    · rw [List.getElem?_set_ne (Ne.symm hj)] at h1
      exact ⟨m', d', h1, h2, h3⟩
  refine ⟨⟨by rw [List.length_set]; exact s.len, fun j d' q => ?_, fun j m' d' q n => ?_, fun j k b h1 h2 => s.inj j k b (oa j b h1) (oa k b h2), fun b f => ?_, fun b f => ?_⟩, E⟩
  · by_cases hj : j = i
    · subst hj
      rw [List.getElem?_set_self hie] at q
      cases q
      exact absurd rfl hm
    · rw [List.getElem?_set_ne (Ne.symm hj)] at q
      obtain ⟨v, h1, h2⟩ := s.shr j d' q
      exact ⟨v, h1, Rep.ext E d' v h2⟩
  · by_cases hj : j = i
    · subst hj
      rw [List.getElem?_set_self hie] at q
      cases q
      exact ⟨a, ws, es, rfl, ha, upd_same, RepL.ext E es ws r, nF, nO⟩
    · rw [List.getElem?_set_ne (Ne.symm hj)] at q
      obtain ⟨b, xs, ds, h1, h2, h3, h4, h5, h6⟩ := s.own j m' d' q n
      have hb : b ≠ a := fun z => by
        subst z
        exact hj (s.inj j i b ⟨m', d', q, n, h2⟩ ⟨m, d, hi, hm, ha⟩)
      exact ⟨b, xs, ds, h1, h2, by rw [upd_ne hb]; exact h3, RepL.ext E ds xs h4, h5, h6⟩
  · by_cases hb : b = a
    · subst hb; rw [upd_same]; exact nofun
    · rw [upd_ne hb]; exact s.fdom b f
  · by_cases hb : b = a
    · subst hb; rw [upd_same]; exact nofun
    · rw [upd_ne hb]; exact s.odom b f
/-- a name that owned its list lets it be still -/
theorem StOk.still {i : Nat} {m : Md} {d : D} (s : StOk K O F H σ env) (hi : env[i]? = some (some (Ent.mk m (d)))) (hm : m ≠ Md.shr) :
    ∃ v F', σ[i]? = some (some v) ∧ Ext O F H F' H ∧ StOk K O F' H σ (env.set i (some (Ent.mk Md.shr (d)))) ∧ Rep K F' H d v := by
  obtain ⟨a, vs, ds, rfl, e2, h, rl, nF, nO⟩ := s.own i m d hi hm
  have s' : StOk K O F H σ (env.set i none) := s.drop
  have hie : i < env.length := (List.getElem?_eq_some_iff.mp hi).1
  have nw : ∀ j, ¬ OwnAt (env.set i none) σ j a := fun j ⟨m', d', h1, h2, h3⟩ => by
    by_cases hj : j = i
    · subst hj
      rw [List.getElem?_set_self hie] at h1; cases h1
    · rw [List.getElem?_set_ne (Ne.symm hj)] at h1
      exact hj (s.inj j i a ⟨m', d', h1, h2, h3⟩ ⟨m, _, hi, hm, e2⟩)
  obtain ⟨F', E, s2, r2⟩ := freeze (e := ⟨.own, .lst ds⟩) (v := .ref a) s' ⟨a, vs, ds, rfl, rfl, h, rl, nF, nO, nw⟩
  have hl : i < σ.length := by rw [s.len]; exact hie
  have s3 := StOk.set (e := ⟨.shr, .lst ds⟩) (v := .ref a) (i := i) s2 r2 hl
  have e3 : σ.set i (some (.ref a)) = σ := by
    apply List.ext_getElem?
    intro j
    by_cases hj : j = i
    · subst hj; rw [List.getElem?_set_self hl, e2]
    · rw [List.getElem?_set_ne (Ne.symm hj)]
  rw [e3, List.set_set] at s3
  exact ⟨.ref a, F', e2, E, s3, r2⟩
end
end DL
/-! DLK: tuples that are known to their objects. -/
namespace DL
open PySem PySem.Spec PyProof.Rows L2
section
variable {X : Cx} {pins : List (Addr × Obj)} {σ : L2.St} {H : Hp} {s : Shared}
/-- a new tuple at any free place -/
abbrev NewT (xs : List V) (H : Hp) (Q : VK) : Prop := ∀ (p : Addr) (o : Obj), o.dict = none → H p = none → Q (.ref p) (upd H p (.frz o (.tup xs)))
theorem lay_tup {us : List Value} {xs : List V} {Q : VK} (I : Inv X pins σ H s) (r : Vals xs us) (z : xs.length ≤ sizeLine) (q : NewT xs H Q) :
    EP X pins σ Q (.ref s.heap.objs.size) { s with heap := s.heap.push { cls := .type "tuple", data := .seq us.toArray } } :=
  ⟨.ref s.heap.objs.size, upd H s.heap.objs.size (.frz { cls := .type "tuple", data := .seq us.toArray } (.tup xs)),
    I.laid (t' := s.toks) (o := .frz { cls := .type "tuple", data := .seq us.toArray } (.tup xs)) (fun b u e => Heap.get?_push_of_some _ e) (Nat.le_refl _)
      ⟨Heap.get?_push_size _ rfl, z, us, r, IsTup.new _ _⟩, rfl, q _ _ rfl (I.hok.fresh (Nat.le_refl _))⟩
def tTupL (t : TA) : TE := fun σ H Q => t σ H fun xs H1 => xs.length ≤ sizeLine ∧ NewT xs H1 Q
theorem pe_tupL {es : List Expr} {t : TA} {x1} {pos : Pos} (h : PA X es t) : PE X (.Tuple es x1 pos) (tTupL t) := by
  refine ⟨fun pins s σ H Q I hq => ?_⟩
  exact wpAny_Tuple_spliced (thn (h.run pos pins s σ H _ I hq) fun us s1 ⟨xs, H1, I1, r, z, q⟩ => ⟨by rw [← r.length]; exact z, lay_tup I1 r z q⟩)
def rTupOfL (K : PySem.W.Frag) : List V → Hp → VK → Prop := fun xs H Q => ∃ p ys, xs = [.ref p] ∧ ((SqL K H p ys ∧ NewT ys H Q) ∨ (SqT K H p ys ∧ Q (.ref p) H))
theorem call_tuple_ofL : CallR X (.type "tuple") (rTupOfL X.K) := by
  intro pins s σ H xs us Q I r h
  obtain ⟨p, ys, rfl, h⟩ := h
  obtain ⟨u, rfl, rx⟩ := vals1 r
  cases rx
  rcases h with ⟨hq, q⟩ | ⟨hq, q⟩
  · obtain ⟨its, r', pl, hz⟩ := I.list hq
    have hlen := r'.length
    refine call_tuple_list pl.isList (fun h' kp => ?_) (by simp only [List.size_toArray] <;> omega)
    have I1 : Inv X pins σ H { s with heap := h' } := I.kept (t' := s.toks) kp
    exact lay_tup I1 r' hz q
  · obtain ⟨its, r', pl, hz⟩ := I.tuple hq
    exact call_tuple_same pl ⟨.ref p, H, I, rfl, q⟩
def rCatL (K : PySem.W.Frag) : R2 := fun x y H Q => ∃ a b xs ys, x = .ref a ∧ y = .ref b ∧ SqT K H a xs ∧ SqT K H b ys ∧ xs.length + ys.length ≤ sizeLine ∧
  (xs = [] → Q (.ref b) H) ∧ (xs ≠ [] → ys = [] → Q (.ref a) H) ∧ (xs ≠ [] → ys ≠ [] → NewT (xs ++ ys) H Q)
theorem op_catL : OpR X (binaryOp .Add) (rCatL X.K) := by
  intro pins s σ H x y v u Q I rx ry h
  obtain ⟨a, b, xs, ys, rfl, rfl, ha, hb, hz, q0, q1, q2⟩ := h
  cases rx
  cases ry
  obtain ⟨its, r1, p1, _⟩ := I.tuple ha
  obtain ⟨its2, r2, p2, _⟩ := I.tuple hb
  by_cases hx : xs = []
  · subst hx
    cases r1
    exact cat_tup0 p1 p2 ⟨.ref b, H, I, rfl, q0 rfl⟩
  · refine HT.cat_tup p1 p2 (fun z => hx (r1.nil_iff.mp z)) (fun z => ⟨.ref a, H, I, rfl, q1 hx (r2.nil_iff.mp z)⟩) (fun z => ?_) (by rw [← r1.length, ← r2.length]; exact hz)
    exact lay_tup I (r1.append r2) (by rw [List.length_append]; exact hz) (q2 hx fun w => z (r2.nil_iff.mpr w))
def rSlTL (K : PySem.W.Frag) : V → Option Int → Option Int → Hp → VK → Prop := fun x lo hi H Q => ∃ a xs, x = .ref a ∧ SqT K H a xs ∧
  (HT.sIx xs.length 0 lo = 0 ∧ HT.sIx xs.length xs.length hi = xs.length → Q (.ref a) H) ∧ (¬ (HT.sIx xs.length 0 lo = 0 ∧ HT.sIx xs.length xs.length hi = xs.length) → NewT (cutV xs lo hi) H Q)
theorem sl_tupL : SlR X (rSlTL X.K) := by
  intro pins s σ H x v vl vu lo hi sl Q I rx hs pl pu h
  obtain ⟨a, xs, rfl, hx, q1, q2⟩ := h
  cases rx
  obtain ⟨its, r, ht, hz⟩ := I.tuple hx
  have hlen : its.toArray.size = xs.length := by rw [List.size_toArray]; exact r.length.symm
  refine ⟨"tuple", _, PyProof.Rows.slot_tuple_getitem.lookup, ht.typeIs, ?_⟩
  by_cases hw : HT.sIx xs.length 0 lo = 0 ∧ HT.sIx xs.length xs.length hi = xs.length
  · exact getItem_tuple_whole ht hs pl pu (by rw [hlen]; exact hw) ⟨.ref a, H, I, rfl, q1 hw⟩
  · refine HT.getItem_tuple_cut ht hs pl pu (by rw [hlen]; exact hw) ?_ (by rw [hlen]; exact hz)
    rw [hlen]
    exact lay_tup I ((r.drop (HT.sIx xs.length 0 lo)).take (HT.sIx xs.length xs.length hi - HT.sIx xs.length 0 lo)) (Nat.le_trans (cutV_length xs lo hi) hz) (q2 hw)
end

/-! ### t * k -/
section
theorem tuple_mulOne (l : Addr) (items : Array Value) (n : Nat) (sl : Array (Option Value)) (dd : Option Addr) (u : Tok) :
    Meets (Builtin.«tuple.__mul__» ⟨[.ref l, .int 1 u], []⟩) (fun _ R s => s.heap.get? l = some { cls := .type "tuple", dict := dd, data := .seq items n, slots := sl } ∧ R (.ok (.ret (Value.ref l))) s) :=
  .of_wp fun prog w A R s h => by
    obtain ⟨hp, g, d, tk, os⟩ := s
    obtain ⟨hl, h⟩ := h
    have f1 := AutoSeq1.idx_int
    have c0 : (decide ((1 : Int) < -(2 ^ 63)) || decide ((1 : Int) ≥ 2 ^ 63)) = false := by decide
    have c1 : (items.isEmpty || (1 : Int) == 1) = true := by rw [Bool.or_eq_true]; right; decide
    wp_walk using wpAny_loadPart' hl
    repeat (first
      | (refine wpAny_ite_false (decide_eq_false (by rw [c0]; exact Bool.false_ne_true)) ?_; wp_walk using wpAny_loadPart' hl)
      | (refine wpAny_ite_true (decide_eq_true (by exact c1)) ?_; wp_walk using wpAny_loadPart' hl))
    exact ⟨_, rfl, h⟩
theorem tuple_mulNone (l : Addr) (items : Array Value) (n : Nat) (sl : Array (Option Value)) (dd : Option Addr) (x : Int) (u : Tok) (c0 : (decide (x < -(2 ^ 63)) || decide (x ≥ 2 ^ 63)) = false) (c1 : (items.isEmpty || x == 1) = false) (c2 : (decide (x ≤ 0) || items.isEmpty) = true) :
    Meets (Builtin.«tuple.__mul__» ⟨[.ref l, .int x u], []⟩) (fun _ R s => s.heap.get? l = some { cls := .type "tuple", dict := dd, data := .seq items n, slots := sl } ∧
      R (.ok (.ret (Value.ref s.heap.objs.size))) { s with heap := s.heap.push { cls := Value.type "tuple", data := Data.seq #[] }, toks := s.toks }) :=
  .of_wp fun prog w A R s h => by
    obtain ⟨hp, g, d, tk, os⟩ := s
    obtain ⟨hl, h⟩ := h
    have f1 := AutoSeq1.idx_int
    wp_walk using wpAny_loadPart' hl
    repeat (first
      | (refine wpAny_ite_false (decide_eq_false (by rw [c0]; exact Bool.false_ne_true)) ?_; wp_walk using wpAny_loadPart' hl)
      | (refine wpAny_ite_false (decide_eq_false (by rw [c1]; exact Bool.false_ne_true)) ?_; wp_walk using wpAny_loadPart' hl)
      | (refine wpAny_ite_true (decide_eq_true (by exact c2)) ?_; wp_walk using wpAny_loadPart' hl))
    exact ⟨_, rfl, h⟩
variable {X : Cx}
def rRepL (K : PySem.W.Frag) : R2 := fun x y H Q => ∃ l k xs, x = .ref l ∧ y = .int k ∧ SqT K H l xs ∧ xs ≠ [] ∧ 0 ≤ k ∧ k ≤ 1000 ∧ xs.length ≤ 1000 ∧ (k = 1 → Q (.ref l) H) ∧ (k ≠ 1 → NewT (List.replicate k.toNat xs).flatten H Q)
theorem op_repL : OpR X (binaryOp .Mult) (rRepL X.K) := by
  intro pins s σ H x y v u Q I rx ry h
  obtain ⟨l, k, xs, rfl, rfl, hT, hne, h1, h2, hz, qa, q⟩ := h
  cases rx
  obtain ⟨t, rfl⟩ := ry
  obtain ⟨its, r, ⟨⟨cls, dd, data, sl⟩, ho, hc, n, hd⟩, hs⟩ := I.tuple hT
  simp only at hc hd
  subst hc hd
  have hle : its.length = xs.length := r.length.symm
  have hn : its ≠ [] := fun e => hne (by
    rw [e] at hle
    exact List.eq_nil_of_length_eq_zero hle.symm)
  have hi : its.toArray.isEmpty = false := by
    cases its with
    | nil => exact absurd rfl hn
    | cons a b => rfl
  have hsz0 : its.toArray.size = xs.length := by rw [List.size_toArray, hle]
  have hm : ((its.toArray.size : Nat) : Int) * k ≤ 1000000 := by
    rw [hsz0]
    have a1 : ((xs.length : Nat) : Int) * k ≤ 1000 * k := Int.mul_le_mul_of_nonneg_right (by omega) (by omega)
    omega
  have flen : (List.replicate k.toNat its).flatten.length ≤ sizeLine := by
    rw [PyProof.Rows.lm_len_rep_flat, hle, sizeLine_eq]
    have a1 : k.toNat * xs.length ≤ 1000 * 1000 := Nat.mul_le_mul (by omega) hz
    omega
  have flen2 : (List.replicate k.toNat xs).flatten.length ≤ sizeLine := by
    rw [PyProof.Rows.lm_len_rep_flat, sizeLine_eq]
    have a1 : k.toNat * xs.length ≤ 1000 * 1000 := Nat.mul_le_mul (by omega) hz
    omega
  have c0 : (decide (k < -(2 ^ 63)) || decide (k ≥ 2 ^ 63)) = false := by
    rw [decide_eq_false (by omega), decide_eq_false (by omega)] <;> rfl
  refine wpAny_binaryOp_repeat_ref (T := "tuple") (U := "int") (by decide) ⟨_, ho, rfl⟩ (fun s' => typeIs_int s' k t) noFill_tuple_mul F.fills_int_mul F.slot_int_rmul repeat_tuple F.slot_int_index.lookup
    (call_meets F.slot_int_rmul (typeIs_int s k t) F.entry_int_rmul (F.args_int_rmul_2 _ _) (int_rmul_tuple k t l its.toArray n dd sl)
      ⟨ho, rfl, ⟨_, ho, rfl⟩, ?_⟩)
  by_cases hk1 : k = 1
  · subst hk1
    exact call_meets F.slot_tuple_mul ⟨_, ho, rfl⟩ F.entry_tuple_mul (F.args_tuple_mul_2 _ _) (tuple_mulOne l its.toArray n sl dd t) ⟨ho, .ref l, H, I, rfl, qa rfl⟩
  · have c1 : (its.toArray.isEmpty || k == 1) = false := by
      rw [hi, Bool.false_or]
      exact beq_eq_false_iff_ne.mpr hk1
    by_cases hk0 : k = 0
    · subst hk0
      refine call_meets F.slot_tuple_mul ⟨_, ho, rfl⟩ F.entry_tuple_mul (F.args_tuple_mul_2 _ _) (tuple_mulNone l its.toArray n sl dd 0 t c0 c1 (by rw [hi]; decide)) ⟨ho, ?_⟩
      exact lay_tup (us := []) (xs := []) I .nil (by show 0 ≤ sizeLine; exact Nat.zero_le _) (q hk1)
    · have c2 : (decide (k ≤ 0) || its.toArray.isEmpty) = false := by
        rw [hi, Bool.or_false]
        exact decide_eq_false (by omega)
      have c4 : Builtin.Tuple.tupleTooMany (((its.toArray.size : Nat) : Int) * k) = false := by
        unfold Builtin.Tuple.tupleTooMany
        rw [sizeLine_eq]
        exact decide_eq_false (by omega)
      refine call_meets F.slot_tuple_mul ⟨_, ho, rfl⟩ F.entry_tuple_mul (F.args_tuple_mul_2 _ _) (tuple_mulW l its.toArray n dd sl k t c0 c1 c2 (by omega) c4 (by rw [size_rep, List.size_toArray]; exact flen)) ⟨ho, ?_⟩
      rw [size_rep]
      exact lay_tup I (r.rep k.toNat) flen2 (q hk1)
end
end DL
/-! DL1: what an expression, a test, a statement is worth over plain data (D), and the tie to the layer's readings. -/
namespace DL
open PySem PySem.Spec PyProof.Rows L2

structure Xc where
  c : Str
  fs : List D
inductive R (α : Type) where
  | ok (a : α) (e : DEnv) | err (x : Xc) (e : DEnv) | bad
def R.bind {α β : Type} (r : R α) (f : α → DEnv → R β) : R β := match r with
  | .ok a e => f a e
  | .err x e => .err x e
  | .bad => .bad
abbrev DE := DEnv → R Ent
abbrev DT := DEnv → R Bool
inductive Fl where
  | nx | brk | cnt | ret (e : Ent)
abbrev DS := DEnv → R Fl

/-- how the raised error stands -/
def ExcRep (mg : Str → Option Value) (F : Fz) (H : Hp) (x : Xc) (cls : Value) (d : Option Addr) : Prop :=
  ∃ C, mg x.c = some (.ref C) ∧ cls = .ref C ∧ x.fs = [] ∧ d = none

section
variable (X : Cx) (W : WX)
/-- what must hold behind, by what the data say -/
def EGoal (O F : Fz) (σ : L2.St) (H : Hp) (Q : VK) : R Ent → Prop
  | .ok r env' => ∀ F' H' v, Ext O F H F' H' → StOk X.K O F' H' σ env' → REnt X.K O F' H' σ env' r v → Q v H'
  | .err x env' => ∀ F' H' cls d, Ext O F H F' H' → StOk X.K O F' H' σ env' → ExcRep X.mg F' H' x cls d → W cls d σ H'
  | .bad => False
def ESem (t : TE) (m : DE) : Prop := ∀ O F σ H env Q, StOk X.K O F H σ env → EGoal X W O F σ H Q (m env) → t σ H Q
def TGoal (O F : Fz) (σ : L2.St) (H : Hp) (Q : Bool → Hp → Prop) : R Bool → Prop
  | .ok b env' => ∀ F' H', Ext O F H F' H' → StOk X.K O F' H' σ env' → Q b H'
  | .err x env' => ∀ F' H' cls d, Ext O F H F' H' → StOk X.K O F' H' σ env' → ExcRep X.mg F' H' x cls d → W cls d σ H'
  | .bad => False
def TSem (t : TT) (m : DT) : Prop := ∀ O F σ H env Q, StOk X.K O F H σ env → TGoal X W O F σ H Q (m env) → t σ H Q
abbrev Bs := Nat → Bool
/-- the names that stay what they are -/
def Keeps (B : Bs) (σ σ' : L2.St) : Prop := σ'.length = σ.length ∧ ∀ i, B i = true → σ'[i]? = σ[i]?
def SGoal (B : Bs) (O F : Fz) (σ : L2.St) (H : Hp) (Dn : Ends) : R Fl → Prop
  | .ok .nx env' => ∀ F' H' σ', Ext O F H F' H' → StOk X.K O F' H' σ' env' → Keeps B σ σ' → Dn.nx σ' H'
  | .ok .brk env' => ∀ F' H' σ', Ext O F H F' H' → StOk X.K O F' H' σ' env' → Keeps B σ σ' → Dn.bk σ' H'
  | .ok .cnt env' => ∀ F' H' σ', Ext O F H F' H' → StOk X.K O F' H' σ' env' → Keeps B σ σ' → Dn.ct σ' H'
  | .ok (.ret e) env' => ∀ F' H' σ' v, Ext O F H F' H' → StOk X.K O F' H' σ' env' → Keeps B σ σ' → REnt X.K O F' H' σ' env' e v → Dn.rt v H'
  | .err x env' => ∀ F' H' σ' cls d, Ext O F H F' H' → StOk X.K O F' H' σ' env' → Keeps B σ σ' → ExcRep X.mg F' H' x cls d → W cls d σ' H'
  | .bad => False
def SSem (B : Bs) (t : TS) (m : DS) : Prop := ∀ O F σ H env Dn, StOk X.K O F H σ env → SGoal X W B O F σ H Dn (m env) → t Dn σ H

def DEv (e : Expr) (m : DE) : Prop := ∃ t, PE X e t ∧ ESem X W t m
def DTst (e : Expr) (m : DT) : Prop := ∃ t, PT X e t ∧ TSem X W t m
def DTw (e : Expr) (m : DT) : Prop := ∃ t, PW X e t ∧ TSem X W t m
def DSt (B : Bs) (st : Stmt) (m : DS) : Prop := ∃ t, PS X st t ∧ SSem X W B t m
def DSs (B : Bs) (sts : List Stmt) (m : DS) : Prop := ∃ t, PSs X sts t ∧ SSem X W B t m
end

section
variable {X : Cx} {W : WX} {O F F1 : Fz} {σ σ1 : L2.St} {H H1 : Hp} {B : Bs}
theorem EGoal.step {Q : VK} (e : Ext O F H F1 H1) : ∀ {r : R Ent}, EGoal X W O F σ H Q r → EGoal X W O F1 σ H1 Q r
  | .ok _ _, h => fun F' H' v e' s r => h F' H' v (e.trans e') s r
  | .err _ _, h => fun F' H' c d e' s r => h F' H' c d (e.trans e') s r
  | .bad, h => h
theorem TGoal.step {Q : Bool → Hp → Prop} (e : Ext O F H F1 H1) : ∀ {r : R Bool}, TGoal X W O F σ H Q r → TGoal X W O F1 σ H1 Q r
  | .ok _ _, h => fun F' H' e' s => h F' H' (e.trans e') s
  | .err _ _, h => fun F' H' c d e' s r => h F' H' c d (e.trans e') s r
  | .bad, h => h
theorem Keeps.refl : Keeps B σ σ := ⟨rfl, fun _ _ => rfl⟩
theorem Keeps.trans {σ2 : L2.St} (a : Keeps B σ σ1) (b : Keeps B σ1 σ2) : Keeps B σ σ2 := ⟨b.1.trans a.1, fun i h => (b.2 i h).trans (a.2 i h)⟩
theorem SGoal.step {Dn : Ends} (e : Ext O F H F1 H1) (k : Keeps B σ σ1) : ∀ {r : R Fl}, SGoal X W B O F σ H Dn r → SGoal X W B O F1 σ1 H1 Dn r
  | .ok .nx _, h => fun F' H' σ' e' s k' => h F' H' σ' (e.trans e') s (k.trans k')
  | .ok .brk _, h => fun F' H' σ' e' s k' => h F' H' σ' (e.trans e') s (k.trans k')
  | .ok .cnt _, h => fun F' H' σ' e' s k' => h F' H' σ' (e.trans e') s (k.trans k')
  | .ok (.ret _) _, h => fun F' H' σ' v e' s k' r => h F' H' σ' v (e.trans e') s (k.trans k') r
  | .err _ _, h => fun F' H' σ' c d e' s k' r => h F' H' σ' c d (e.trans e') s (k.trans k') r
  | .bad, h => h
end

/-! ### names and constants -/
def dC (d : D) : DE := fun env => .ok ⟨.shr, d⟩ env
/-- a name's value, handed on: what it owned is still from now on -/
def dVar (i : Nat) : DE := fun env => match env[i]? with
  | some (some e) => .ok ⟨.shr, e.d⟩ (env.set i (some ⟨.shr, e.d⟩))
  | _ => .bad
section
variable {X : Cx} {W : WX}
theorem set_self {env : DEnv} {i : Nat} {e : Ent} (h : env[i]? = some (some e)) : env.set i (some e) = env := by
  apply List.ext_getElem?
  intro j
  by_cases hj : j = i
  · subst hj
    rw [List.getElem?_set_self (List.getElem?_eq_some_iff.mp h).1, h]
  · rw [List.getElem?_set_ne (Ne.symm hj)]
theorem sem_c {d : D} {v : V} (h : ∀ K F H, Rep K F H d v) : ESem X W (tC v) (dC d) := fun O F σ H env Q s g => g F H v Ext.refl s (h _ _ _)
theorem e_int {i : Int} {j pos} : DEv X W (.Constant (.int i) j pos) (dC (.int i)) := ⟨_, pe_int, sem_c fun _ _ _ => rfl⟩
theorem e_bl {b : Bool} {j pos} : DEv X W (.Constant (.bool b) j pos) (dC (.bl b)) := ⟨_, pe_bl, sem_c fun _ _ _ => rfl⟩
theorem e_non {j pos} : DEv X W (.Constant .none j pos) (dC .non) := ⟨_, pe_non, sem_c fun _ _ _ => rfl⟩
theorem e_str {x j pos} : DEv X W (.Constant (.str x) j pos) (dC (.str x)) := ⟨_, pe_str, sem_c fun _ _ _ => rfl⟩
theorem sem_var {i : Nat} : ESem X W (tVar i) (dVar i) := fun O F σ H env Q s g => by
  unfold dVar at g
  cases q : env[i]? with
  | none => rw [q] at g; exact g.elim
  | some o =>
    cases o with
    | none => rw [q] at g; exact g.elim
    | some e =>
      rw [q] at g
      obtain ⟨m, d⟩ := e
      by_cases hm : m = Md.shr
      · subst hm
        obtain ⟨v, h1, h2⟩ := s.shr i d q
        refine ⟨v, h1, g F H v Ext.refl ?_ h2⟩
        rw [set_self q]
        exact s
      · obtain ⟨v, F', h1, E, s', r⟩ := s.still q hm
        exact ⟨v, h1, g F' H v E s' r⟩
theorem e_var (i : Nat) {x : Str} {pos : Pos} (hN : X.N[i]? = some x := by rfl) (hv : Vis X.env.scope x := by first | exact Or.inl rfl | exact Or.inr (Or.inl rfl) | exact Or.inr (Or.inr rfl)) (hd : (x == ("__debug__" : Str)) = false := by decide)
    (hcd : (x == ("__classdict__" : Str)) = false := by decide) : DEv X W (.Name x pos) (dVar i) := ⟨_, pe_var hN hv hd hcd, sem_var⟩
/-- a module's constant -/
theorem e_gint {x : Str} {i : Int} {t : Tok} {pos : Pos} (hg : Gl X x) (hm : X.mg x = some (.int i t)) (hd : (x == ("__debug__" : Str)) = false := by decide) : DEv X W (.Name x pos) (dC (.int i)) := ⟨_, pe_glob (v := .int i) hg hm ⟨_, rfl⟩ hd, sem_c fun _ _ _ => rfl⟩
end

/-! ### operands -/
inductive Opd where
  /-- a value, reckoned -/
  | v (m : DE)
  /-- the list that a name holds, read where the operation is done -/
  | s (i : Nat)
inductive AV where
  | d (x : D) | s (i : Nat)
def evOs : List Opd → DEnv → R (List AV)
  | [], env => .ok [] env
  | .v m :: os, env => (m env).bind fun r env1 => (evOs os env1).bind fun avs env2 => .ok (.d r.d :: avs) env2
  | .s i :: os, env => match env[i]? with
    | some (some _) => (evOs os env).bind fun avs env2 => .ok (.s i :: avs) env2
    | _ => .bad
@[simp] def getAV (env : DEnv) : AV → Option D
  | .d x => some x
  | .s i => match env[i]? with
    | some (some e) => some e.d
    | _ => none
@[simp] def getAVs (env : DEnv) : List AV → Option (List D)
  | [] => some []
  | a :: as => match getAV env a, getAVs env as with
    | some d, some ds => some (d :: ds)
    | _, _ => none
def AVs (K : PySem.W.Frag) (F : Fz) (H : Hp) (σ : L2.St) : List AV → List V → Prop
  | [], vs => vs = []
  | .d x :: as, vs => ∃ v r, vs = v :: r ∧ Rep K F H x v ∧ AVs K F H σ as r
  | .s i :: as, vs => ∃ v r, vs = v :: r ∧ σ[i]? = some (some v) ∧ AVs K F H σ as r
theorem AVs.ext {K : PySem.W.Frag} {O F F' : Fz} {H H' : Hp} {σ : L2.St} (e : Ext O F H F' H') : ∀ {as : List AV} {vs : List V}, AVs K F H σ as vs → AVs K F' H' σ as vs
  | [], _, h => h
  | .d x :: as, vs, ⟨v, r, e1, h1, h2⟩ => ⟨v, r, e1, Rep.ext e x v h1, AVs.ext e h2⟩
  | .s i :: as, vs, ⟨v, r, e1, h1, h2⟩ => ⟨v, r, e1, h1, AVs.ext e h2⟩
/-- read at the state behind -/
def RepTs (K : PySem.W.Frag) (F : Fz) (H : Hp) : List D → List V → Prop
  | [], vs => vs = []
  | d :: ds, vs => ∃ v r, vs = v :: r ∧ RepT K F H d v ∧ RepTs K F H ds r
theorem StOk.top {K : PySem.W.Frag} {O F : Fz} {H : Hp} {σ : L2.St} {env : DEnv} {i : Nat} {e : Ent} (s : StOk K O F H σ env) (h : env[i]? = some (some e)) : ∃ v, σ[i]? = some (some v) ∧ RepT K F H e.d v := by
  obtain ⟨m, d⟩ := e
  by_cases hm : m = Md.shr
  · subst hm
    obtain ⟨v, h1, h2⟩ := s.shr i d h
    exact ⟨v, h1, h2.top⟩
  · obtain ⟨a, vs, ds, rfl, h1, h2, h3, _⟩ := s.own i m d h hm
    exact ⟨.ref a, h1, a, vs, rfl, h2, h3⟩
theorem AVs.tops {K : PySem.W.Frag} {O F : Fz} {H : Hp} {σ : L2.St} {env : DEnv} (s : StOk K O F H σ env) : ∀ {as : List AV} {vs : List V} {ds : List D}, AVs K F H σ as vs → getAVs env as = some ds → RepTs K F H ds vs
  | [], _, _, h, g => by cases g; exact h
  | .d x :: as, vs, ds, ⟨v, r, e1, h1, h2⟩, g => by
    simp only [getAVs, getAV] at g
    cases q : getAVs env as with
    | none => rw [q] at g; cases g
    | some es =>
      rw [q] at g; cases g
      exact ⟨v, r, e1, h1.top, AVs.tops s h2 q⟩
  | .s i :: as, vs, ds, ⟨v, r, e1, h1, h2⟩, g => by
    simp only [getAVs, getAV] at g
    cases q1 : env[i]? with
    | none => rw [q1] at g; cases g
    | some o =>
      cases o with
      | none => rw [q1] at g; cases g
      | some e =>
        rw [q1] at g
        cases q : getAVs env as with
        | none => rw [q] at g; cases g
        | some es =>
          rw [q] at g; cases g
          obtain ⟨v', z1, z2⟩ := s.top q1
          rw [h1] at z1; cases z1
          exact ⟨v, r, e1, z2, AVs.tops s h2 q⟩

section
variable (X : Cx) (W : WX)
def AGoal (O F : Fz) (σ : L2.St) (H : Hp) (Q : List V → Hp → Prop) : R (List AV) → Prop
  | .ok avs env' => ∀ F' H' vs, Ext O F H F' H' → StOk X.K O F' H' σ env' → AVs X.K F' H' σ avs vs → Q vs H'
  | .err x env' => ∀ F' H' cls d, Ext O F H F' H' → StOk X.K O F' H' σ env' → ExcRep X.mg F' H' x cls d → W cls d σ H'
  | .bad => False
def ASem (t : TA) (os : List Opd) : Prop := ∀ O F σ H env Q, StOk X.K O F H σ env → AGoal X W O F σ H Q (evOs os env) → t σ H Q
/-- one operand -/
def OSem (t : TE) : Opd → Prop
  | .v m => ESem X W t m
  | .s i => t = tVar i
def DOp (e : Expr) (o : Opd) : Prop := ∃ t, PE X e t ∧ OSem X W t o
def DAs (es : List Expr) (os : List Opd) : Prop := ∃ t, PA X es t ∧ ASem X W t os
end
section
variable {X : Cx} {W : WX}
theorem o_v {e : Expr} {m : DE} (h : DEv X W e m) : DOp X W e (.v m) := h
theorem o_s (i : Nat) {x : Str} {pos : Pos} (hN : X.N[i]? = some x := by rfl) (hv : Vis X.env.scope x := by first | exact Or.inl rfl | exact Or.inr (Or.inl rfl) | exact Or.inr (Or.inr rfl)) (hd : (x == ("__debug__" : Str)) = false := by decide)
    (hcd : (x == ("__classdict__" : Str)) = false := by decide) : DOp X W (.Name x pos) (.s i) := ⟨_, pe_var hN hv hd hcd, rfl⟩
theorem AGoal.step {O F F1 : Fz} {σ : L2.St} {H H1 : Hp} {Q : List V → Hp → Prop} (e : Ext O F H F1 H1) : ∀ {r : R (List AV)}, AGoal X W O F σ H Q r → AGoal X W O F1 σ H1 Q r
  | .ok _ _, h => fun F' H' vs e' s r => h F' H' vs (e.trans e') s r
  | .err _ _, h => fun F' H' c d e' s r => h F' H' c d (e.trans e') s r
  | .bad, h => h
theorem asem_nil : ASem X W tNil [] := fun O F σ H env Q s g => g F H [] Ext.refl s rfl
theorem asem_cons {te : TE} {t : TA} {o : Opd} {os : List Opd} (ho : OSem X W te o) (ht : ASem X W t os) : ASem X W (tCons te t) (o :: os) := fun O F σ H env Q s g => by
  cases o with
  | v m =>
    refine ho O F σ H env _ s ?_
    unfold evOs at g
    cases q : m env with
    | bad => rw [q] at g; exact g.elim
    | err x e =>
      rw [q] at g
      exact fun F' H' c d e' s' r => g F' H' c d e' s' r
    | ok r env1 =>
      rw [q] at g
      intro F1 H1 v E1 s1 r1
      obtain ⟨F2, E2, s2, r2⟩ := freeze s1 r1
      refine ht O F2 σ H1 env1 _ s2 ?_
      simp only [R.bind] at g
      cases q2 : evOs os env1 with
      | bad => rw [q2] at g; exact g.elim
      | err x e =>
        rw [q2] at g
        exact fun F' H' c d e' s' r => g F' H' c d ((E1.trans E2).trans e') s' r
      | ok avs env2 =>
        rw [q2] at g
        intro F3 H3 vs E3 s3 r3
        exact g F3 H3 (v :: vs) ((E1.trans E2).trans E3) s3 ⟨v, vs, rfl, Rep.ext E3 r.d v r2, r3⟩
  | s i =>
    obtain rfl : te = tVar i := ho
    unfold evOs at g
    show ∃ v, σ[i]? = some (some v) ∧ t σ H fun xs H2 => Q (v :: xs) H2
    cases q : env[i]? with
    | none => rw [q] at g; exact g.elim
    | some oe =>
      cases oe with
      | none => rw [q] at g; exact g.elim
      | some e =>
        rw [q] at g
        obtain ⟨v, hv, _⟩ := s.top q
        refine ⟨v, hv, ht O F σ H env _ s ?_⟩
        cases q2 : evOs os env with
        | bad => rw [q2] at g; exact g.elim
        | err x e =>
          rw [q2] at g
          exact fun F' H' c d e' s' r => g F' H' c d e' s' r
        | ok avs env2 =>
          rw [q2] at g
          intro F3 H3 vs E3 s3 r3
          exact g F3 H3 (v :: vs) E3 s3 ⟨v, vs, rfl, hv, r3⟩
end
end DL
/-! DL2: operations on data, displays, comparisons, tests. -/
namespace DL
open PySem PySem.Spec PyProof.Rows L2

section
variable {X : Cx} {W : WX}
theorem a_nil : DAs X W [] [] := ⟨_, pa_nil, asem_nil⟩
theorem a_cons {e : Expr} {es : List Expr} {o : Opd} {os : List Opd} (ho : DOp X W e o) (ht : DAs X W es os)
    (hs : starEach (e :: es) X.env = (false, eval e X.env) :: starEach es X.env := by rfl) : DAs X W (e :: es) (o :: os) := by
  obtain ⟨te, he, se⟩ := ho
  obtain ⟨t, h, s⟩ := ht
  exact ⟨_, pa_cons he h hs, asem_cons se s⟩
end

/-! ### operations -/
/-- what an operation gives: a value of the data, or a new list -/
inductive PR where
  | d (x : D) | nl (xs : List D)
def PR.ent : PR → Ent
  | .d x => ⟨.shr, x⟩
  | .nl xs => ⟨.own, .lst xs⟩
def PRep (K : PySem.W.Frag) (F : Fz) (H H' : Hp) : PR → V → Prop
  | .d x, v => Rep K F H' x v
  | .nl xs, v => ∃ p vs, v = .ref p ∧ H p = none ∧ H' p = some (.lst vs) ∧ RepL K F H' xs vs
abbrev Pr := List D → Option PR
def dPrim (p : Pr) (os : List Opd) : DE := fun env => (evOs os env).bind fun avs env1 => match (getAVs env1 avs).bind p with
  | some r => .ok r.ent env1
  | none => .bad
abbrev Rl := List V → Hp → VK → Prop
/-- the rule r of the values gives what p says of the data -/
def PrimR (K : PySem.W.Frag) (p : Pr) (r : Rl) : Prop := ∀ (F : Fz) (H : Hp) (ds : List D) (vs : List V) (Q : VK) (pr : PR), (∀ a, F a → H a ≠ none) → RepTs K F H ds vs → p ds = some pr →
  (∀ H' v, Same H H' → PRep K F H H' pr v → Q v H') → r vs H Q
section
variable {X : Cx} {W : WX}
theorem prep_ent {K : PySem.W.Frag} {O F : Fz} {H H' : Hp} {σ : L2.St} {env : DEnv} {pr : PR} {v : V} (s : StOk K O F H σ env) (h : PRep K F H H' pr v) : REnt K O F H' σ env pr.ent v := by
  cases pr with
  | d x => exact h
  | nl xs =>
    obtain ⟨p, vs, e, hn, h1, h2⟩ := h
    refine ⟨p, vs, xs, rfl, e, h1, h2, fun f => s.fdom p f hn, fun f => s.odom p f hn, fun i ⟨m, d, q1, q2, q3⟩ => ?_⟩
    obtain ⟨a, ws, _, _, e2, e3, _⟩ := s.own i m d q1 q2
    rw [q3] at e2; cases e2
    rw [hn] at e3; cases e3
theorem sem_prim {ta : TA} {os : List Opd} {p : Pr} {r : Rl} (ha : ASem X W ta os) (hp : PrimR X.K p r) : ESem X W (fun σ H Q => ta σ H fun vs H1 => r vs H1 Q) (dPrim p os) := fun O F σ H env Q s g => by
  refine ha O F σ H env _ s ?_
  unfold dPrim at g
  cases q : evOs os env with
  | bad => rw [q] at g; exact g.elim
  | err x e =>
    rw [q] at g
    exact g
  | ok avs env1 =>
    rw [q] at g
    simp only [R.bind] at g
    intro F1 H1 vs E1 s1 r1
    cases q2 : getAVs env1 avs with
    | none => rw [q2] at g; exact g.elim
    | some ds =>
      rw [q2] at g
      simp only [Option.bind] at g
      cases q3 : p ds with
      | none => rw [q3] at g; exact g.elim
      | some pr =>
        rw [q3] at g
        refine hp F1 H1 ds vs Q pr s1.fdom (AVs.tops s1 r1 q2) q3 fun H' v sm pv => ?_
        exact g F1 H' v (E1.trans (Ext.same sm s1.odom)) (s1.same sm) (prep_ent s1 pv)
def two (r : R2) : Rl := fun vs H Q => match vs with
  | [x, y] => r x y H Q
  | _ => False
def one (r : V → Hp → VK → Prop) : Rl := fun vs H Q => match vs with
  | [x] => r x H Q
  | _ => False
theorem asem1 {ta : TE} {oa : Opd} (ha : OSem X W ta oa) : ASem X W (tCons ta tNil) [oa] := asem_cons ha asem_nil
theorem asem2 {ta tb : TE} {oa ob : Opd} (ha : OSem X W ta oa) (hb : OSem X W tb ob) : ASem X W (tCons ta (tCons tb tNil)) [oa, ob] := asem_cons ha (asem_cons hb asem_nil)
theorem e_op {op : Operator} {r : R2} {p : Pr} {a b : Expr} {oa ob : Opd} {pos : Pos} (ho : OpR X (binaryOp op) r) (hp : PrimR X.K p (two r)) (ha : DOp X W a oa) (hb : DOp X W b ob) : DEv X W (.BinOp a op b pos) (dPrim p [oa, ob]) := by
  obtain ⟨ta, h1, s1⟩ := ha
  obtain ⟨tb, h2, s2⟩ := hb
  exact ⟨_, pe_op ho h1 h2, sem_prim (asem2 s1 s2) hp⟩
theorem e_un {op : UnaryOp} {r : V → Hp → VK → Prop} {p : Pr} {a : Expr} {oa : Opd} {pos : Pos} (ho : UnR X (unaryOp op) r) (hp : PrimR X.K p (one r)) (ha : DOp X W a oa) : DEv X W (.UnaryOp op a pos) (dPrim p [oa]) := by
  obtain ⟨ta, h1, s1⟩ := ha
  exact ⟨_, pe_un ho h1, sem_prim (asem1 s1) hp⟩
theorem e_cmp {op : CmpOp} {r : R2} {p : Pr} {a b : Expr} {oa ob : Opd} {pos : Pos} (ho : OpR X (compareOp op) r) (hp : PrimR X.K p (two r)) (ha : DOp X W a oa) (hb : DOp X W b ob) (hm : behindInMarks op b = false) : DEv X W (.Compare a [op] [b] pos) (dPrim p [oa, ob]) := by
  obtain ⟨ta, h1, s1⟩ := ha
  obtain ⟨tb, h2, s2⟩ := hb
  exact ⟨_, pe_cmpR ho h1 h2 hm, sem_prim (asem2 s1 s2) hp⟩
theorem e_ix {r : R2} {p : Pr} {a b : Expr} {oa ob : Opd} {pos : Pos} (ho : IxR X r) (hp : PrimR X.K p (two r)) (ha : DOp X W a oa) (hb : DOp X W b ob) (hs : PlainIx b) : DEv X W (.Subscript a b pos) (dPrim p [oa, ob]) := by
  obtain ⟨ta, h1, s1⟩ := ha
  obtain ⟨tb, h2, s2⟩ := hb
  exact ⟨_, pe_ix ho h1 h2 hs, sem_prim (asem2 s1 s2) hp⟩
theorem e_callB {x : Str} {id : String} {r : Rl} {p : Pr} {e : Expr} {es : List Expr} {os : List Opd} {p1 pos : Pos} (hc : CallR X (.builtin id) r) (hp : PrimR X.K p r) (hg : Gl X x) (hm : X.mg x = none) (hv : bootBuiltins x = some (.builtin id)) (ha : DAs X W (e :: es) os)
    (hn : x ≠ "__name__" := by decide) (hdb : (x == ("__debug__" : Str)) = false := by decide)
    (he : starEach (e :: es) X.env = (false, eval e X.env) :: starEach es X.env := by rfl) (hpl : (backTo pos (starEach es X.env)).any (·.1) = false := by rfl) : DEv X W (.Call (.Name x p1) (e :: es) [] pos) (dPrim p os) := by
  obtain ⟨t, h, s⟩ := ha
  exact ⟨_, pe_callB hc hg hm hv h hn hdb he hpl, sem_prim s hp⟩
theorem e_callTy {x : Str} {T : String} {r : Rl} {p : Pr} {e : Expr} {es : List Expr} {os : List Opd} {p1 pos : Pos} (hc : CallR X (.type T) r) (hp : PrimR X.K p r) (hg : Gl X x) (hm : X.mg x = none) (hv : bootBuiltins x = some (.type T)) (ha : DAs X W (e :: es) os)
    (hn : x ≠ "__name__" := by decide) (hdb : (x == ("__debug__" : Str)) = false := by decide)
    (he : starEach (e :: es) X.env = (false, eval e X.env) :: starEach es X.env := by rfl) (hpl : (backTo pos (starEach es X.env)).any (·.1) = false := by rfl) : DEv X W (.Call (.Name x p1) (e :: es) [] pos) (dPrim p os) := by
  obtain ⟨t, h, s⟩ := ha
  exact ⟨_, pe_callTy hc hg hm hv h hn hdb he hpl, sem_prim s hp⟩
end

/-! ### displays -/
def pTup : Pr := fun ds => if ds.length ≤ sizeLine then some (.d (.tup ds)) else none
def pLst : Pr := fun ds => if ds.length ≤ sizeLine then some (.nl ds) else none
/-- operands that are all values (a name that owns its list is handed on still) -/
def allV : List Opd → Bool
  | [] => true
  | .v _ :: os => allV os
  | .s _ :: _ => false
theorem same_new {H : Hp} {p : Addr} {o : HO} (h : H p = none) : Same H (upd H p o) := fun b x e => by
  rw [upd_ne (ne_of_none e h)]
  exact e
theorem repL_same {K : PySem.W.Frag} {F : Fz} {H H' : Hp} (e : Same H H') {ds : List D} {vs : List V} (h : RepL K F H ds vs) : RepL K F H' ds vs := RepL.ext (Ext.same (O := fun _ => False) e fun _ z => z.elim) ds vs h
theorem rep_same {K : PySem.W.Frag} {F : Fz} {H H' : Hp} (e : Same H H') {d : D} {v : V} (h : Rep K F H d v) : Rep K F H' d v := Rep.ext (Ext.same (O := fun _ => False) e fun _ z => z.elim) d v h
section
variable {X : Cx} {W : WX}
theorem AVs.vals {K : PySem.W.Frag} {F : Fz} {H : Hp} {σ : L2.St} {env : DEnv} : ∀ {os : List Opd} {avs : List AV} {env0 : DEnv} {vs : List V} {ds : List D}, allV os = true → evOs os env0 = .ok avs env → AVs K F H σ avs vs → getAVs env avs = some ds → RepL K F H ds vs := by
  have key : ∀ {os : List Opd} {avs : List AV} {env0 env1 : DEnv}, allV os = true → evOs os env0 = .ok avs env1 → ∃ xs : List D, avs = xs.map AV.d := by
    intro os
    induction os with
    | nil => intro avs env0 env1 _ h; cases h; exact ⟨[], rfl⟩
    | cons o os ih =>
      intro avs env0 env1 ha h
      cases o with
      | s i => cases ha
      | v m =>
        unfold evOs at h
        cases q : m env0 with
        | bad => rw [q] at h; cases h
        | err x e => rw [q] at h; cases h
        | ok r e1 =>
          rw [q] at h
          simp only [R.bind] at h
          cases q2 : evOs os e1 with
          | bad => rw [q2] at h; cases h
          | err x e => rw [q2] at h; cases h
          | ok as e2 =>
            rw [q2] at h
            cases h
            obtain ⟨xs, rfl⟩ := ih ha q2
            exact ⟨r.d :: xs, rfl⟩
  intro os avs env0 vs ds ha h hv hg
  obtain ⟨xs, rfl⟩ := key ha h
  clear h ha
  induction xs generalizing vs ds with
  | nil => cases hg; exact hv
  | cons x xs ih =>
    obtain ⟨v, r, rfl, h1, h2⟩ := hv
    simp only [List.map_cons, getAVs, getAV] at hg
    cases q : getAVs env (xs.map AV.d) with
    | none => rw [q] at hg; cases hg
    | some es =>
      rw [q] at hg; cases hg
      exact RepL.cons h1 (ih h2 q)
theorem sem_disp {ta : TA} {os : List Opd} {p : Pr} {r : Rl} (ha : ASem X W ta os) (hv : allV os = true)
    (hp : ∀ (F : Fz) (H : Hp) (ds : List D) (vs : List V) (Q : VK) (pr : PR), RepL X.K F H ds vs → p ds = some pr → (∀ H' v, Same H H' → PRep X.K F H H' pr v → Q v H') → r vs H Q) :
    ESem X W (fun σ H Q => ta σ H fun vs H1 => r vs H1 Q) (dPrim p os) := fun O F σ H env Q s g => by
  refine ha O F σ H env _ s ?_
  unfold dPrim at g
  cases q : evOs os env with
  | bad => rw [q] at g; exact g.elim
  | err x e => rw [q] at g; exact g
  | ok avs env1 =>
    rw [q] at g
    simp only [R.bind] at g
    intro F1 H1 vs E1 s1 r1
    cases q2 : getAVs env1 avs with
    | none => rw [q2] at g; exact g.elim
    | some ds =>
      rw [q2] at g
      simp only [Option.bind] at g
      cases q3 : p ds with
      | none => rw [q3] at g; exact g.elim
      | some pr =>
        rw [q3] at g
        refine hp F1 H1 ds vs Q pr (AVs.vals hv q r1 q2) q3 fun H' v sm pv => ?_
        exact g F1 H' v (E1.trans (Ext.same sm s1.odom)) (s1.same sm) (prep_ent s1 pv)
theorem e_tup {es : List Expr} {os : List Opd} {x1} {pos : Pos} (ha : DAs X W es os) (hv : allV os = true := by rfl) : DEv X W (.Tuple es x1 pos) (dPrim pTup os) := by
  obtain ⟨t, h, s⟩ := ha
  refine ⟨_, pe_tupL h, sem_disp s hv fun F H ds vs Q pr r e q => ?_⟩
  unfold pTup at e
  split at e
  · rename_i hl
    cases e
    refine ⟨by rw [r.length]; exact hl, fun p o hd hp => q _ _ (same_new hp) ?_⟩
    exact ⟨p, vs, rfl, ⟨o, hd, upd_same⟩, repL_same (same_new hp) r⟩
  · cases e
theorem e_lst {es : List Expr} {os : List Opd} {pos : Pos} (ha : DAs X W es os) (hv : allV os = true := by rfl) : DEv X W (.List es pos) (dPrim pLst os) := by
  obtain ⟨t, h, s⟩ := ha
  refine ⟨_, pe_lst h, sem_disp s hv fun F H ds vs Q pr r e q => ?_⟩
  unfold pLst at e
  split at e
  · rename_i hl
    cases e
    refine ⟨by rw [r.length]; exact hl, fun p hp => q _ _ (same_new hp) ?_⟩
    exact ⟨p, vs, rfl, hp, upd_same, repL_same (same_new hp) r⟩
  · cases e
end

/-! ### tests -/
section
variable {X : Cx} {W : WX}
/-- a value that is True or False, as a test -/
def dTst (m : DE) : DT := fun env => (m env).bind fun r env1 => match r with
  | ⟨.shr, .bl b⟩ => .ok b env1
  | _ => .bad
theorem sem_tst {t : TE} {m : DE} (h : ESem X W t m) {tt : TT} (ht : ∀ σ H Q, (t σ H fun x H1 => ∃ c, x = .bl c ∧ Q c H1) → tt σ H Q) : TSem X W tt (dTst m) := fun O F σ H env Q s g => by
  refine ht σ H Q (h O F σ H env _ s ?_)
  unfold dTst at g
  cases q : m env with
  | bad => rw [q] at g; exact g.elim
  | err x e => rw [q] at g; exact g
  | ok r env1 =>
    rw [q] at g
    simp only [R.bind] at g
    intro F1 H1 v E1 s1 r1
    obtain ⟨md, d⟩ := r
    cases md with
    | shr =>
      cases d with
      | bl b => exact ⟨b, r1, g F1 H1 E1 s1⟩
      | _ => exact g.elim
    | _ => exact g.elim
theorem t_val {e : Expr} {m : DE} (h : DEv X W e m) (he : ∀ whole, isTrue e X.env whole = (do let v ← whole; standAt e.pos; holding [v] (truthy v)) := by intro _; rfl) : DTst X W e (dTst m) := by
  obtain ⟨t, h1, s⟩ := h
  exact ⟨_, pt_val h1 he, sem_tst s fun σ H Q q => q⟩
theorem t_cmp {op : CmpOp} {r : R2} {p : Pr} {a b : Expr} {oa ob : Opd} {pos : Pos} (ho : OpR X (compareOp op) r) (hp : PrimR X.K p (two r)) (ha : DOp X W a oa) (hb : DOp X W b ob) (hm : behindInMarks op b = false) : DTst X W (.Compare a [op] [b] pos) (dTst (dPrim p [oa, ob])) := by
  obtain ⟨ta, h1, s1⟩ := ha
  obtain ⟨tb, h2, s2⟩ := hb
  exact ⟨_, pt_cmpR ho h1 h2 hm, sem_tst (sem_prim (asem2 s1 s2) hp) fun σ H Q q => q⟩
def dAnd (a b : DT) : DT := fun env => (a env).bind fun c env1 => if c = true then b env1 else .ok false env1
def dOr (a b : DT) : DT := fun env => (a env).bind fun c env1 => if c = true then .ok true env1 else b env1
def dNot (a : DT) : DT := fun env => (a env).bind fun c env1 => .ok (!c) env1
theorem sem_and {t u : TT} {a b : DT} (ha : TSem X W t a) (hb : TSem X W u b) : TSem X W (tAnd t u) (dAnd a b) := fun O F σ H env Q s g => by
  refine ha O F σ H env _ s ?_
  unfold dAnd at g
  cases q : a env with
  | bad => rw [q] at g; exact g.elim
  | err x e => rw [q] at g; exact g
  | ok c env1 =>
    rw [q] at g
    simp only [R.bind] at g
    intro F1 H1 E1 s1
    cases c with
    | true => exact hb O F1 σ H1 env1 Q s1 (TGoal.step E1 g)
    | false => exact g F1 H1 E1 s1
theorem sem_or {t u : TT} {a b : DT} (ha : TSem X W t a) (hb : TSem X W u b) : TSem X W (tOr t u) (dOr a b) := fun O F σ H env Q s g => by
  refine ha O F σ H env _ s ?_
  unfold dOr at g
  cases q : a env with
  | bad => rw [q] at g; exact g.elim
  | err x e => rw [q] at g; exact g
  | ok c env1 =>
    rw [q] at g
    simp only [R.bind] at g
    intro F1 H1 E1 s1
    cases c with
    | true => exact g F1 H1 E1 s1
    | false => exact hb O F1 σ H1 env1 Q s1 (TGoal.step E1 g)
theorem sem_not {t : TT} {a : DT} (ha : TSem X W t a) : TSem X W (tNot t) (dNot a) := fun O F σ H env Q s g => by
  refine ha O F σ H env _ s ?_
  unfold dNot at g
  cases q : a env with
  | bad => rw [q] at g; exact g.elim
  | err x e => rw [q] at g; exact g
  | ok c env1 =>
    rw [q] at g
    exact fun F1 H1 E1 s1 => g F1 H1 E1 s1
theorem w_and1 {a : Expr} {m : DT} {pos : Pos} (h : DTst X W a m) : DTw X W (.BoolOp .And [a] pos) m := let ⟨t, h1, s⟩ := h; ⟨t, pw_and1 h1, s⟩
theorem w_or1 {a : Expr} {m : DT} {pos : Pos} (h : DTst X W a m) : DTw X W (.BoolOp .Or [a] pos) m := let ⟨t, h1, s⟩ := h; ⟨t, pw_or1 h1, s⟩
theorem w_and {a b : Expr} {rest : List Expr} {m n : DT} {pos : Pos} (h : DTst X W a m) (k : DTw X W (.BoolOp .And (b :: rest) pos) n) : DTw X W (.BoolOp .And (a :: b :: rest) pos) (dAnd m n) := let ⟨_, h1, s⟩ := h; let ⟨_, h2, s2⟩ := k; ⟨_, pw_and h1 h2, sem_and s s2⟩
theorem w_or {a b : Expr} {rest : List Expr} {m n : DT} {pos : Pos} (h : DTst X W a m) (k : DTw X W (.BoolOp .Or (b :: rest) pos) n) : DTw X W (.BoolOp .Or (a :: b :: rest) pos) (dOr m n) := let ⟨_, h1, s⟩ := h; let ⟨_, h2, s2⟩ := k; ⟨_, pw_or h1 h2, sem_or s s2⟩
theorem t_w {e : Expr} {m : DT} (h : DTw X W e m) : DTst X W e m := let ⟨t, h1, s⟩ := h; ⟨t, h1.pt, s⟩
theorem t_not {a : Expr} {m : DT} {pos : Pos} (h : DTst X W a m) : DTst X W (.UnaryOp .Not a pos) (dNot m) := let ⟨_, h1, s⟩ := h; ⟨_, pt_not h1, sem_not s⟩
/-! values: and, or, not, if else -/
/-- a test's answer as a value -/
def dB (m : DT) : DE := fun env => (m env).bind fun b env1 => .ok ⟨.shr, .bl b⟩ env1
def dAndV (a : DT) (b : DE) : DE := fun env => (a env).bind fun c env1 => if c = true then b env1 else .ok ⟨.shr, .bl false⟩ env1
def dOrV (a : DT) (b : DE) : DE := fun env => (a env).bind fun c env1 => if c = true then .ok ⟨.shr, .bl true⟩ env1 else b env1
def dIf (c : DT) (a b : DE) : DE := fun env => (c env).bind fun k env1 => if k = true then a env1 else b env1
theorem sem_andV {t u : TE} {a b : DE} (ha : ESem X W t a) (hb : ESem X W u b) : ESem X W (tAndV t u) (dAndV (dTst a) b) := fun O F σ H env Q s g => by
  refine sem_tst (tt := fun σ H Q' => t σ H fun x H1 => ∃ c, x = .bl c ∧ Q' c H1) ha (fun σ H Q q => q) O F σ H env (fun c H1 => if c = true then u σ H1 Q else Q (.bl false) H1) s ?_
  unfold dAndV at g
  cases q : dTst a env with
  | bad => rw [q] at g; exact g.elim
  | err x e => rw [q] at g; exact g
  | ok c env1 =>
    rw [q] at g
    simp only [R.bind] at g
    intro F1 H1 E1 s1
    cases c with
    | true => exact hb O F1 σ H1 env1 Q s1 (EGoal.step E1 g)
    | false => exact g F1 H1 _ E1 s1 rfl
theorem sem_orV {t u : TE} {a b : DE} (ha : ESem X W t a) (hb : ESem X W u b) : ESem X W (tOrV t u) (dOrV (dTst a) b) := fun O F σ H env Q s g => by
  refine sem_tst (tt := fun σ H Q' => t σ H fun x H1 => ∃ c, x = .bl c ∧ Q' c H1) ha (fun σ H Q q => q) O F σ H env (fun c H1 => if c = true then Q (.bl true) H1 else u σ H1 Q) s ?_
  unfold dOrV at g
  cases q : dTst a env with
  | bad => rw [q] at g; exact g.elim
  | err x e => rw [q] at g; exact g
  | ok c env1 =>
    rw [q] at g
    simp only [R.bind] at g
    intro F1 H1 E1 s1
    cases c with
    | true => exact g F1 H1 _ E1 s1 rfl
    | false => exact hb O F1 σ H1 env1 Q s1 (EGoal.step E1 g)
theorem sem_notV {t : TE} {a : DE} (ha : ESem X W t a) : ESem X W (tNotV t) (dB (dNot (dTst a))) := fun O F σ H env Q s g => by
  refine sem_tst (tt := fun σ H Q' => t σ H fun x H1 => ∃ c, x = .bl c ∧ Q' c H1) ha (fun σ H Q q => q) O F σ H env (fun c H1 => Q (.bl (!c)) H1) s ?_
  unfold dB dNot at g
  cases q : dTst a env with
  | bad => rw [q] at g; exact g.elim
  | err x e => rw [q] at g; exact g
  | ok c env1 =>
    rw [q] at g
    exact fun F1 H1 E1 s1 => g F1 H1 _ E1 s1 rfl
theorem e_one {op} {a : Expr} {m : DE} {pos : Pos} (h : DEv X W a m) : DEv X W (.BoolOp op [a] pos) m := let ⟨_, h1, s⟩ := h; ⟨_, pe_one h1, s⟩
theorem e_and {a b : Expr} {rest : List Expr} {m n : DE} {pos : Pos} (h : DEv X W a m) (k : DEv X W (.BoolOp .And (b :: rest) pos) n) : DEv X W (.BoolOp .And (a :: b :: rest) pos) (dAndV (dTst m) n) := let ⟨_, h1, s⟩ := h; let ⟨_, h2, s2⟩ := k; ⟨_, pe_and h1 h2, sem_andV s s2⟩
theorem e_or {a b : Expr} {rest : List Expr} {m n : DE} {pos : Pos} (h : DEv X W a m) (k : DEv X W (.BoolOp .Or (b :: rest) pos) n) : DEv X W (.BoolOp .Or (a :: b :: rest) pos) (dOrV (dTst m) n) := let ⟨_, h1, s⟩ := h; let ⟨_, h2, s2⟩ := k; ⟨_, pe_or h1 h2, sem_orV s s2⟩
theorem e_not {a : Expr} {m : DE} {pos : Pos} (h : DEv X W a m) : DEv X W (.UnaryOp .Not a pos) (dB (dNot (dTst m))) := let ⟨_, h1, s⟩ := h; ⟨_, pe_not h1, sem_notV s⟩
theorem e_if {c a b : Expr} {mc : DT} {ma mb : DE} {pos : Pos} (hc : DTst X W c mc) (ha : DEv X W a ma) (hb : DEv X W b mb) : DEv X W (.IfExp c a b pos) (dIf mc ma mb) := by
  obtain ⟨tc, h1, s1⟩ := hc
  obtain ⟨ta, h2, s2⟩ := ha
  obtain ⟨tb, h3, s3⟩ := hb
  refine ⟨_, pe_ifExp h1 h2 h3, fun O F σ H env Q s g => ?_⟩
  refine s1 O F σ H env _ s ?_
  unfold dIf at g
  cases q : mc env with
  | bad => rw [q] at g; exact g.elim
  | err x e => rw [q] at g; exact g
  | ok c env1 =>
    rw [q] at g
    simp only [R.bind] at g
    intro F1 H1 E1 s1'
    cases c with
    | true => exact s2 O F1 σ H1 env1 Q s1' (EGoal.step E1 g)
    | false => exact s3 O F1 σ H1 env1 Q s1' (EGoal.step E1 g)
/-- a op1 b op2 c -/
def dChain (p p' : Pr) (oa ob oc : Opd) : DE := fun env => (evOs [oa, ob] env).bind fun avs env1 => match avs, (getAVs env1 avs).bind p with
  | [_, .d y], some (.d (.bl k)) => if k = true then dPrim p' [.v (dC y), oc] env1 else .ok ⟨.shr, .bl false⟩ env1
  | _, _ => .bad
theorem sem_chain {r r' : R2} {p p' : Pr} {ta tb tc : TE} {oa ob oc : Opd} (h1 : PrimR X.K p (two r)) (h2 : PrimR X.K p' (two r')) (ha : OSem X W ta oa) (hb : OSem X W tb ob) (hc : OSem X W tc oc) : ESem X W (tChain r r' ta tb tc) (dChain p p' oa ob oc) := fun O F σ H env Q s g => by
  have main := asem2 ha hb O F σ H env (fun vs H2 => match vs with
    | [x, y] => r x y H2 fun z H3 => ∃ k, z = .bl k ∧ (if k = true then tc σ H3 fun w' H4 => r' y w' H4 Q else Q (.bl false) H3)
    | _ => False) s
  refine main ?_
  clear main
  unfold dChain at g
  cases q : evOs [oa, ob] env with
  | bad => rw [q] at g; exact g.elim
  | err x e => rw [q] at g; exact g
  | ok avs env1 =>
    rw [q] at g
    simp only [R.bind] at g
    intro F1 H1 vs E1 s1 r1
    split at g
    · rename_i _ _ a1 y k heq2
      obtain ⟨v1, rest, rfl, r1'⟩ : ∃ v1 rest, vs = v1 :: rest ∧ ∃ v2, rest = [v2] ∧ Rep X.K F1 H1 y v2 := by
        cases a1 with
        | d x => obtain ⟨v, r, e1, _, v2, r2, e2, h3, h4⟩ := r1; exact ⟨v, r, e1, v2, by rw [e2, show r2 = [] from h4], h3⟩
        | s i => obtain ⟨v, r, e1, _, v2, r2, e2, h3, h4⟩ := r1; exact ⟨v, r, e1, v2, by rw [e2, show r2 = [] from h4], h3⟩
      obtain ⟨v2, rfl, ry⟩ := r1'
      cases q2 : getAVs env1 [a1, .d y] with
      | none => rw [q2] at heq2; cases heq2
      | some ds =>
        rw [q2] at heq2
        refine h1 F1 H1 ds [v1, v2] _ _ s1.fdom (AVs.tops s1 r1 q2) heq2 fun H' v sm pv => ?_
        refine ⟨k, pv, ?_⟩
        have s2 : StOk X.K O F1 H' σ env1 := s1.same sm
        have E2 : Ext O F H F1 H' := E1.trans (Ext.same sm s1.odom)
        have ry' : Rep X.K F1 H' y v2 := rep_same sm ry
        cases k with
        | false => exact iteF (g F1 H' _ E2 s2 rfl)
        | true =>
          refine iteT ?_
          have m2 := asem1 hc O F1 σ H' env1 (fun vs H4 => match vs with
            | [w'] => r' v2 w' H4 Q
            | _ => False) s2
          refine m2 ?_
          clear m2
          simp only [if_true] at g
          unfold dPrim at g
          simp only [evOs, dC, R.bind] at g
          cases q4 : evOs [oc] env1 with
          | bad => rw [q4] at g; exact g.elim
          | err x e => rw [q4] at g; exact fun F' H'' c d e' s' r => g F' H'' c d (E2.trans e') s' r
          | ok avs4 env4 =>
            skip
            rw [q4] at g
            simp only [] at g
            intro F5 H5 vs5 E5 s5 r5
            cases q5 : getAVs env4 avs4 with
            | none => simp only [getAVs, getAV, q5] at g; exact g.elim
            | some ds5 =>
              simp only [getAVs, getAV, q5, Option.bind] at g
              cases q6 : p' (y :: ds5) with
              | none => rw [q6] at g; exact g.elim
              | some pr =>
                rw [q6] at g
                have tops5 := AVs.tops s5 r5 q5
                have full : RepTs X.K F5 H5 (y :: ds5) (v2 :: vs5) := ⟨v2, vs5, rfl, (Rep.ext E5 y v2 ry').top, tops5⟩
                have fin := h2 F5 H5 (y :: ds5) (v2 :: vs5) Q pr s5.fdom full q6 fun H6 v6 sm6 pv6 => g F5 H6 v6 ((E2.trans E5).trans (Ext.same sm6 s5.odom)) (s5.same sm6) (prep_ent s5 pv6)
                match vs5, fin with
                | [w'], fin => exact fin
                | [], fin => exact fin
                | _ :: _ :: _, fin => exact fin
    · exact g.elim
theorem e_chain {op op' : CmpOp} {r r' : R2} {p p' : Pr} {a b c : Expr} {oa ob oc : Opd} {pos : Pos} (ho : OpR X (compareOp op) r) (ho' : OpR X (compareOp op') r') (h1 : PrimR X.K p (two r)) (h2 : PrimR X.K p' (two r')) (ha : DOp X W a oa) (hb : DOp X W b ob) (hc : DOp X W c oc)
    (hm : lastMarks [op, op'] [b, c] = false := by with_unfolding_all rfl) : DEv X W (.Compare a [op, op'] [b, c] pos) (dChain p p' oa ob oc) := by
  obtain ⟨ta, k1, s1⟩ := ha
  obtain ⟨tb, k2, s2⟩ := hb
  obtain ⟨tc, k3, s3⟩ := hc
  exact ⟨_, pe_chain ho ho' k1 k2 k3 hm, sem_chain h1 h2 s1 s2 s3⟩
theorem t_chain {op op' : CmpOp} {r r' : R2} {p p' : Pr} {a b c : Expr} {oa ob oc : Opd} {pos : Pos} (ho : OpR X (compareOp op) r) (ho' : OpR X (compareOp op') r') (h1 : PrimR X.K p (two r)) (h2 : PrimR X.K p' (two r')) (ha : DOp X W a oa) (hb : DOp X W b ob) (hc : DOp X W c oc)
    (hm : lastMarks [op, op'] [b, c] = false := by with_unfolding_all rfl) : DTst X W (.Compare a [op, op'] [b, c] pos) (dTst (dChain p p' oa ob oc)) := by
  obtain ⟨ta, k1, s1⟩ := ha
  obtain ⟨tb, k2, s2⟩ := hb
  obtain ⟨tc, k3, s3⟩ := hc
  exact ⟨_, pt_chain ho ho' k1 k2 k3 hm, sem_tst (sem_chain h1 h2 s1 s2 s3) fun σ H Q q => q⟩
end
end DL
/-! DL3: statements, loops. -/
namespace DL
open PySem PySem.Spec PyProof.Rows L2

def dNext : DS := fun env => .ok .nx env
def dSeq (a b : DS) : DS := fun env => match a env with
  | .ok .nx env1 => b env1
  | r => r
def dDrop (m : DE) : DS := fun env => (m env).bind fun _ env1 => .ok .nx env1
def dRet (m : DE) : DS := fun env => (m env).bind fun r env1 => .ok (.ret r) env1
/-- return x, x a name: what it owns goes along -/
def dRetV (i : Nat) : DS := fun env => match env[i]? with
  | some (some e) => .ok (.ret e) (env.set i none)
  | _ => .bad
def dIfS (c : DT) (a b : DS) : DS := fun env => (c env).bind fun k env1 => if k = true then a env1 else b env1
def dSet (i : Nat) (m : DE) : DS := fun env => (m env).bind fun r env1 => .ok .nx (env1.set i (some r))
def dNever : DS := fun _ => .bad
def dBrk : DS := fun env => .ok .brk env
def dCnt : DS := fun env => .ok .cnt env

section
variable {X : Cx} {W : WX} {B : Bs}
theorem keeps_set {σ : L2.St} {i : Nat} {o : Option V} (h : B i = false) : Keeps B σ (σ.set i o) := ⟨List.length_set, fun j hj => by
  exact List.getElem?_set_ne (fun (e : i = j) => by rw [← e, h] at hj; cases hj)⟩
theorem ss_nil : DSs X W B [] dNext := ⟨_, pss_nil, fun O F σ H env Dn s g => g F H σ Ext.refl s Keeps.refl⟩
theorem sem_seq {t u : TS} {a b : DS} (h1 : SSem X W B t a) (h2 : SSem X W B u b) : SSem X W B (tSeq t u) (dSeq a b) := fun O F σ H env Dn s g => by
  refine h1 O F σ H env { Dn with nx := u Dn } s ?_
  unfold dSeq at g
  cases q : a env with
  | bad => rw [q] at g; exact g.elim
  | err x e => rw [q] at g; exact g
  | ok fl env1 =>
    rw [q] at g
    cases fl with
    | nx => exact fun F1 H1 σ1 E1 s1 k1 => h2 O F1 σ1 H1 env1 Dn s1 (SGoal.step E1 k1 g)
    | brk => exact g
    | cnt => exact g
    | ret e => exact g
theorem ss_cons {st : Stmt} {rest : List Stmt} {a b : DS} (h1 : DSt X W B st a) (h2 : DSs X W B rest b) : DSs X W B (st :: rest) (dSeq a b) := let ⟨_, p, s⟩ := h1; let ⟨_, p2, s2⟩ := h2; ⟨_, pss_cons p p2, sem_seq s s2⟩
theorem ss_one {st : Stmt} {a : DS} (h1 : DSt X W B st a) : DSs X W B [st] a := let ⟨_, p, s⟩ := h1; ⟨_, pss_one p, s⟩
theorem s_pass {pos : Pos} : DSt X W B (.Pass pos) dNext := ⟨_, ps_pass, fun O F σ H env Dn s g => g F H σ Ext.refl s Keeps.refl⟩
theorem s_brk {pos : Pos} : DSt X W B (.Break pos) dBrk := ⟨_, ps_break, fun O F σ H env Dn s g => g F H σ Ext.refl s Keeps.refl⟩
theorem s_cnt {pos : Pos} : DSt X W B (.Continue pos) dCnt := ⟨_, ps_continue, fun O F σ H env Dn s g => g F H σ Ext.refl s Keeps.refl⟩
theorem s_never {st : Stmt} : DSt X W B st dNever := ⟨_, ps_never, fun O F σ H env Dn s g => g.elim⟩
theorem s_doc {x j pos pos'} : DSt X W B (.Expr (.Constant (.str x) j pos) pos') dNext := ⟨_, ps_doc, fun O F σ H env Dn s g => g F H σ Ext.refl s Keeps.refl⟩
theorem s_expr {e : Expr} {m : DE} {pos : Pos} (h : DEv X W e m) (hs : swapsWith e none pos.line X.env = pure false := by rfl) : DSt X W B (.Expr e pos) (dDrop m) := by
  obtain ⟨t, h1, s1⟩ := h
  refine ⟨_, ps_expr h1 hs, fun O F σ H env Dn s g => s1 O F σ H env _ s ?_⟩
  unfold dDrop at g
  cases q : m env with
  | bad => rw [q] at g; exact g.elim
  | err x e => rw [q] at g; exact fun F' H' c d e' s' r => g F' H' σ c d e' s' Keeps.refl r
  | ok r env1 => rw [q] at g; exact fun F1 H1 v E1 s1 r1 => g F1 H1 σ E1 s1 Keeps.refl
theorem s_ret {e : Expr} {m : DE} {pos : Pos} (h : DEv X W e m) : DSt X W B (.Return (some e) pos) (dRet m) := by
  obtain ⟨t, h1, s1⟩ := h
  refine ⟨_, ps_ret h1, fun O F σ H env Dn s g => s1 O F σ H env _ s ?_⟩
  unfold dRet at g
  cases q : m env with
  | bad => rw [q] at g; exact g.elim
  | err x e => rw [q] at g; exact fun F' H' c d e' s' r => g F' H' σ c d e' s' Keeps.refl r
  | ok r env1 => rw [q] at g; exact fun F1 H1 v E1 s1 r1 => g F1 H1 σ v E1 s1 Keeps.refl r1
theorem s_retN {pos : Pos} : DSt X W B (.Return none pos) (dRet (dC .non)) := ⟨_, ps_retN, fun O F σ H env Dn s g => g F H σ .non Ext.refl s Keeps.refl rfl⟩
theorem s_retV (i : Nat) {x : Str} {p pos : Pos} (hN : X.N[i]? = some x := by rfl) (hv : Vis X.env.scope x := by first | exact Or.inl rfl | exact Or.inr (Or.inl rfl) | exact Or.inr (Or.inr rfl)) (hd : (x == ("__debug__" : Str)) = false := by decide)
    (hcd : (x == ("__classdict__" : Str)) = false := by decide) : DSt X W B (.Return (some (.Name x p)) pos) (dRetV i) := by
  refine ⟨_, ps_ret (pe_var hN hv hd hcd), fun O F σ H env Dn s g => ?_⟩
  unfold dRetV at g
  cases q : env[i]? with
  | none => rw [q] at g; exact g.elim
  | some o =>
    cases o with
    | none => rw [q] at g; exact g.elim
    | some e =>
      rw [q] at g
      obtain ⟨m, d⟩ := e
      have hie : i < env.length := (List.getElem?_eq_some_iff.mp q).1
      by_cases hm : m = Md.shr
      · subst hm
        obtain ⟨v, h1, h2⟩ := s.shr i d q
        exact ⟨v, h1, g F H σ v Ext.refl s.drop Keeps.refl h2⟩
      · obtain ⟨a, vs, ds, rfl, e2, h, rl, nF, nO⟩ := s.own i m d q hm
        refine ⟨.ref a, e2, g F H σ (.ref a) Ext.refl s.drop Keeps.refl ?_⟩
        have nw : ∀ j, ¬ OwnAt (env.set i none) σ j a := fun j ⟨m', d', h1, h2, h3⟩ => by
          by_cases hj : j = i
          · subst hj
            rw [List.getElem?_set_self hie] at h1; cases h1
          · rw [List.getElem?_set_ne (Ne.symm hj)] at h1
            exact hj (s.inj j i a ⟨m', d', h1, h2, h3⟩ ⟨m, _, q, hm, e2⟩)
        cases m with
        | shr => exact absurd rfl hm
        | own => exact ⟨a, vs, ds, rfl, rfl, h, rl, nF, nO, nw⟩
        | bor => exact ⟨a, vs, ds, rfl, rfl, h, rl, nF, nO, nw⟩
theorem s_if {c : Expr} {a b : List Stmt} {mc : DT} {ma mb : DS} {pos : Pos} (hc : DTst X W c mc) (ha : DSs X W B a ma) (hb : DSs X W B b mb) : DSt X W B (.If c a b pos) (dIfS mc ma mb) := by
  obtain ⟨tc, h1, s1⟩ := hc
  obtain ⟨ta, h2, s2⟩ := ha
  obtain ⟨tb, h3, s3⟩ := hb
  refine ⟨_, ps_if h1 h2 h3, fun O F σ H env Dn s g => s1 O F σ H env _ s ?_⟩
  unfold dIfS at g
  cases q : mc env with
  | bad => rw [q] at g; exact g.elim
  | err x e => rw [q] at g; exact fun F' H' c d e' s' r => g F' H' σ c d e' s' Keeps.refl r
  | ok c env1 =>
    rw [q] at g
    simp only [R.bind] at g
    intro F1 H1 E1 s1'
    cases c with
    | true => exact s2 O F1 σ H1 env1 Dn s1' (SGoal.step E1 Keeps.refl g)
    | false => exact s3 O F1 σ H1 env1 Dn s1' (SGoal.step E1 Keeps.refl g)
theorem st_len {K : PySem.W.Frag} {O F : Fz} {H : Hp} {σ : L2.St} {env : DEnv} {i : Nat} (s : StOk K O F H σ env) (h : i < env.length) : i < σ.length := by rw [s.len]; exact h
/-- a store beyond the names is nothing -/
theorem set_far {α : Type} {l : List α} {i : Nat} {x : α} (h : ¬ i < l.length) : l.set i x = l := List.set_eq_of_length_le (by omega)
theorem StOk.store {K : PySem.W.Frag} {O F : Fz} {H : Hp} {σ : L2.St} {env : DEnv} {e : Ent} {v : V} {i : Nat} (s : StOk K O F H σ env) (r : REnt K O F H σ env e v) : StOk K O F H (σ.set i (some v)) (env.set i (some e)) := by
  by_cases h : i < σ.length
  · exact s.set r h
  · rw [set_far h, set_far (by rw [← s.len]; exact h)]
    exact s
theorem sem_set {t : TE} {m : DE} {i : Nat} (h : ESem X W t m) (hB : B i = false) : SSem X W B (tAsg t (gName i)) (dSet i m) := fun O F σ H env Dn s g => by
  refine h O F σ H env _ s ?_
  unfold dSet at g
  cases q : m env with
  | bad => rw [q] at g; exact g.elim
  | err x e => rw [q] at g; exact fun F' H' c d e' s' r => g F' H' σ c d e' s' Keeps.refl r
  | ok r env1 =>
    rw [q] at g
    exact fun F1 H1 v E1 s1 r1 => g F1 H1 (σ.set i (some v)) E1 (s1.store r1) (keeps_set hB)
theorem s_set (i : Nat) {x : Str} {e : Expr} {m : DE} {pos' pos : Pos} (hN : X.N.Nodup) (h : DEv X W e m) (hi : X.N[i]? = some x := by rfl) (hx : Loc X.env.scope x := by first | exact Or.inl rfl | exact Or.inr rfl) (hB : B i = false := by rfl)
    (hs : swapsWith e (some (.Name x pos')) pos.line X.env = pure false := by rfl) (hf : X.fn x = true ∨ X.env.scope.names.lookup x = some .local := by first | exact .inl rfl | exact .inr rfl | assumption) : DSt X W B (.Assign [.Name x pos'] e pos) (dSet i m) := by
  obtain ⟨t, h1, s1⟩ := h
  exact ⟨_, ps_set hN hi hx h1 hs hf, sem_set s1 hB⟩

/-! ### while -/
def dWhile (c : DT) (body : DS) : Nat → DS
  | 0, _ => .bad
  | n + 1, env => (c env).bind fun k env1 => if k = true then (match body env1 with
      | .ok .nx env2 => dWhile c body n env2
      | .ok .cnt env2 => dWhile c body n env2
      | .ok .brk env2 => .ok .nx env2
      | r => r) else .ok .nx env1
theorem s_while (n : Nat) {c : Expr} {body : List Stmt} {mc : DT} {mb : DS} {pos : Pos} (hp : PassesOwn (model X.prog X.w) X.A X.env X.xe) (hc : DTst X W c mc) (hb : DSs X W B body mb) : DSt X W B (.While c body [] pos) (dWhile mc mb n) := by
  obtain ⟨tc, h1, s1⟩ := hc
  obtain ⟨tb, h2, s2⟩ := hb
  refine ⟨_, ps_while hp h1 h2, fun O F σ H env Dn s g => ?_⟩
  refine ⟨fun m σ1 H1 => ∃ F1 env1, Ext O F H F1 H1 ∧ StOk X.K O F1 H1 σ1 env1 ∧ Keeps B σ σ1 ∧ SGoal X W B O F1 σ1 H1 Dn (dWhile mc mb m env1), ⟨n, F, env, Ext.refl, s, Keeps.refl, g⟩, ?_⟩
  rintro m σ1 H1 ⟨F1, env1, E1, s1', k1, g1⟩
  cases m with
  | zero => exact g1.elim
  | succ m =>
    refine s1 O F1 σ1 H1 env1 _ s1' ?_
    unfold dWhile at g1
    cases q : mc env1 with
    | bad => rw [q] at g1; exact g1.elim
    | err x e => rw [q] at g1; exact fun F' H' c d e' s' r => g1 F' H' σ1 c d e' s' Keeps.refl r
    | ok k env2 =>
      rw [q] at g1
      simp only [R.bind] at g1
      intro F2 H2 E2 s2'
      cases k with
      | false => exact g1 F2 H2 σ1 E2 s2' Keeps.refl
      | true =>
        refine iteT ⟨fun σ' H' => ∃ F3 env3, Ext O F H F3 H' ∧ StOk X.K O F3 H' σ' env3 ∧ Keeps B σ σ' ∧ SGoal X W B O F3 σ' H' Dn (dWhile mc mb m env3), fun σ' H' z => ⟨m, Nat.lt_succ_self m, z⟩, ?_⟩
        refine s2 O F2 σ1 H2 env2 _ s2' ?_
        simp only [if_true] at g1
        cases q3 : mb env2 with
        | bad => rw [q3] at g1; exact g1.elim
        | err x e => rw [q3] at g1; exact fun F' H' σ' c d e' s' k' r => g1 F' H' σ' c d (E2.trans e') s' k' r
        | ok fl env3 =>
          rw [q3] at g1
          cases fl with
          | nx => exact fun F3 H3 σ3 E3 s3 k3 => ⟨F3, env3, (E1.trans E2).trans E3, s3, k1.trans k3, SGoal.step (E2.trans E3) k3 g1⟩
          | cnt => exact fun F3 H3 σ3 E3 s3 k3 => ⟨F3, env3, (E1.trans E2).trans E3, s3, k1.trans k3, SGoal.step (E2.trans E3) k3 g1⟩
          | brk => exact fun F3 H3 σ3 E3 s3 k3 => g1 F3 H3 σ3 (E2.trans E3) s3 k3
          | ret e => exact fun F3 H3 σ3 v E3 s3 k3 r => g1 F3 H3 σ3 v (E2.trans E3) s3 k3 r

/-! ### targets -/
/-- a target's store of an item -/
abbrev DG := D → DEnv → Option DEnv
def GSem (X : Cx) (B : Bs) (g : TG) (m : DG) : Prop := ∀ O F σ H env (d : D) (v : V) env' Q, StOk X.K O F H σ env → Rep X.K F H d v → m d env = some env' →
  (∀ σ', StOk X.K O F H σ' env' → Keeps B σ σ' → Q σ' H) → g v σ H Q
def GsSem (X : Cx) (B : Bs) (g : TGs) (m : List D → DEnv → Option DEnv) : Prop := ∀ O F σ H env (ds : List D) (vs : List V) env' Q, StOk X.K O F H σ env → RepL X.K F H ds vs → m ds env = some env' →
  (∀ σ', StOk X.K O F H σ' env' → Keeps B σ σ' → Q σ' H) → g vs σ H Q
def DTg (X : Cx) (B : Bs) (tg : Expr) (m : DG) : Prop := ∃ g, PG X tg g ∧ GSem X B g m
def DTgs (X : Cx) (B : Bs) (tgs : List Expr) (m : List D → DEnv → Option DEnv) : Prop := ∃ g, PGs X tgs g ∧ GsSem X B g m
def gSet (i : Nat) : DG := fun d env => some (env.set i (some ⟨.shr, d⟩))
theorem gsem_name {i : Nat} (hB : B i = false) : GSem X B (gName i) (gSet i) := fun O F σ H env d v env' Q s r e k => by
  cases e
  exact k _ (s.store (e := ⟨.shr, d⟩) r) (keeps_set hB)
theorem g_name (i : Nat) {x : Str} {pos : Pos} (hN : X.N.Nodup) (hi : X.N[i]? = some x := by rfl) (hx : Loc X.env.scope x := by first | exact Or.inl rfl | exact Or.inr rfl) (hB : B i = false := by rfl)
    (hf : X.fn x = true ∨ X.env.scope.names.lookup x = some .local := by first | exact .inl rfl | exact .inr rfl | assumption) : DTg X B (.Name x pos) (gSet i) := ⟨_, pg_name hN hi hx hf, gsem_name hB⟩
def gsNil : List D → DEnv → Option DEnv := fun ds env => match ds with
  | [] => some env
  | _ => none
def gsCons (a : DG) (b : List D → DEnv → Option DEnv) : List D → DEnv → Option DEnv := fun ds env => match ds with
  | d :: ds => (a d env).bind (b ds)
  | [] => none
def gTupD (n : Nat) (m : List D → DEnv → Option DEnv) : DG := fun d env => match d with
  | .tup ds => if ds.length = n then m ds env else none
  | .pr x y => if n = 2 then m [x, y] env else none
  | _ => none
theorem gs_nil : DTgs X B [] gsNil := ⟨_, pgs_nil, fun O F σ H env ds vs env' Q s r e k => by
  cases ds with
  | nil => cases e; exact ⟨r, k σ s Keeps.refl⟩
  | cons _ _ => cases e⟩
theorem gs_cons {e : Expr} {es : List Expr} {a : DG} {b : List D → DEnv → Option DEnv} (h1 : DTg X B e a) (h2 : DTgs X B es b)
    (hs : (assignEach (e :: es) X.env).map (·.2) = assign e X.env :: (assignEach es X.env).map (·.2) := by rfl) : DTgs X B (e :: es) (gsCons a b) := by
  obtain ⟨g1, p1, s1⟩ := h1
  obtain ⟨g2, p2, s2⟩ := h2
  refine ⟨_, pgs_cons p1 p2 hs, fun O F σ H env ds vs env' Q s r e k => ?_⟩
  cases ds with
  | nil => cases e
  | cons d ds =>
    obtain ⟨v, r', rfl, h1, h2⟩ := r
    simp only [gsCons] at e
    cases q : a d env with
    | none => rw [q] at e; cases e
    | some env1 =>
      rw [q] at e
      refine ⟨v, r', rfl, s1 O F σ H env d v env1 _ s h1 q fun σ1 st1 k1 => ?_⟩
      exact s2 O F σ1 H env1 ds r' env' Q st1 h2 e fun σ2 st2 k2 => k σ2 st2 (k1.trans k2)
theorem g_tup {es : List Expr} {k : Nat} {pos : Pos} {n : Nat} {m : List D → DEnv → Option DEnv} (hc : X.calm = true) (h : DTgs X B es m)
    (hn : (assignEach es X.env).length = n := by rfl) (hst : (assignEach es X.env).findIdx? (·.1) = none := by rfl) : DTg X B (.Tuple es k pos) (gTupD n m) := by
  obtain ⟨g, p, s⟩ := h
  refine ⟨_, pg_tup hc p hn hst, fun O F σ H env d v env' Q st r e q => ?_⟩
  cases d with
  | tup ds =>
    obtain ⟨a, vs, rfl, ha, rl⟩ := r
    simp only [gTupD] at e
    split at e
    · rename_i hl
      exact ⟨a, vs, rfl, ha.sq, by rw [rl.length]; exact hl, s O F σ H env ds vs env' Q st rl e q⟩
    · cases e
  | pr x y =>
    obtain ⟨a, vx, vy, rfl, ha, r1, r2⟩ := r
    simp only [gTupD] at e
    split at e
    · rename_i hl
      subst hl
      exact ⟨a, [vx, vy], rfl, SqT.of ha, rfl, s O F σ H env [x, y] [vx, vy] env' Q st (RepL.cons r1 (RepL.cons r2 RepL.nil)) e q⟩
    · cases e
  | _ => cases e

/-! ### what is walked -/
/-- the turns give the items xs -/
def Walks (K : PySem.W.Frag) (O F : Fz) (H : Hp) (J : It) (xs : List D) : Prop := ∀ F' H', Ext (fun _ => False) F H F' H' → (∀ a, O a → H' a ≠ none) → ∀ i,
  (∀ d, xs[i]? = some d → J.go i H' ∧ ∀ x H'', J.yld i H' x H'' → Same H' H'' ∧ Rep K F' H'' d x) ∧ (xs[i]? = none → J.stop i H')
abbrev DI := DEnv → R (List D)
def ISem (X : Cx) (W : WX) (wi : TI) (m : DI) : Prop := ∀ O F σ H env (R' : It → Hp → Prop), StOk X.K O F H σ env → (match m env with
  | .ok xs env' => ∀ F' H' J, Ext O F H F' H' → StOk X.K O F' H' σ env' → Walks X.K O F' H' J xs → R' J H'
  | .err x env' => ∀ F' H' cls d, Ext O F H F' H' → StOk X.K O F' H' σ env' → ExcRep X.mg F' H' x cls d → W cls d σ H'
  | .bad => False) → wi σ H R'
def DIt (X : Cx) (W : WX) (tg iter : Expr) (m : DI) : Prop := ∃ wi, PI X tg iter wi ∧ ISem X W wi m
def dFor (g : DG) (body : DS) : List D → DS
  | [], env => .ok .nx env
  | x :: xs, env => match g x env with
    | none => .bad
    | some env1 => match body env1 with
      | .ok .nx env2 => dFor g body xs env2
      | .ok .cnt env2 => dFor g body xs env2
      | .ok .brk env2 => .ok .nx env2
      | r => r
def dForI (it : DI) (g : DG) (body : DS) : DS := fun env => (it env).bind fun xs env1 => dFor g body xs env1
theorem s_for {tg iter : Expr} {body : List Stmt} {mi : DI} {g : DG} {mb : DS} {pos : Pos} (hp : PassesOwn (model X.prog X.w) X.A X.env X.xe) (hc : X.calm = true) (hi : DIt X W tg iter mi) (hg : DTg X B tg g) (hb : DSs X W B body mb)
    (hs : ∀ x, foldedSetIterable iter X.env x = pure x := by intro _; rfl) :
    DSt X W B (.For tg iter body [] pos) (dForI mi g mb) := by
  obtain ⟨wi, p1, s1⟩ := hi
  obtain ⟨tgg, p2, s2⟩ := hg
  obtain ⟨tb, p3, s3⟩ := hb
  refine ⟨_, ps_for hp hc p1 p2 p3 hs, fun O F σ H env Dn s g0 => ?_⟩
  refine s1 O F σ H env _ s ?_
  unfold dForI at g0
  cases q : mi env with
  | bad => rw [q] at g0; exact g0.elim
  | err x e => rw [q] at g0; exact fun F' H' c d e' s' r => g0 F' H' σ c d e' s' Keeps.refl r
  | ok xs env1 =>
    rw [q] at g0
    simp only [R.bind] at g0
    intro F1 H1 J E1 st1 wk
    refine ⟨fun i m σ' H' => ∃ F' env', m = xs.length - i ∧ i ≤ xs.length ∧ Ext O F1 H1 F' H' ∧ StOk X.K O F' H' σ' env' ∧ Keeps B σ σ' ∧ SGoal X W B O F' σ' H' Dn (dFor g mb (xs.drop i) env'),
      ⟨xs.length, F1, env1, by simp, Nat.zero_le _, Ext.refl, st1, Keeps.refl, by rw [List.drop_zero]; exact SGoal.step E1 Keeps.refl g0⟩, ?_⟩
    rintro i m σ' H' ⟨F', env', rfl, hi, E', st', k', g'⟩
    obtain ⟨w1, w2⟩ := wk F' H' (E'.mono fun _ z => z.elim) st'.odom i
    cases hx : xs[i]? with
    | none =>
      left
      refine ⟨w2 hx, ?_⟩
      rw [List.drop_eq_nil_of_le (List.getElem?_eq_none_iff.mp hx)] at g'
      exact g' F' H' σ' Ext.refl st' Keeps.refl
    | some d =>
      right
      obtain ⟨go, yl⟩ := w1 d hx
      have hlt : i < xs.length := (List.getElem?_eq_some_iff.mp hx).1
      have hdrop : xs.drop i = d :: xs.drop (i + 1) := by
        rw [List.drop_eq_getElem_cons hlt]
        rw [List.getElem?_eq_getElem hlt] at hx
        rw [Option.some.inj hx]
      rw [hdrop] at g'
      refine ⟨go, fun σ3 H3 => ∃ F3 env3, Ext O F1 H1 F3 H3 ∧ StOk X.K O F3 H3 σ3 env3 ∧ Keeps B σ σ3 ∧ SGoal X W B O F3 σ3 H3 Dn (dFor g mb (xs.drop (i + 1)) env3), ?_, fun x H2 hy => ?_⟩
      · rintro σ3 H3 ⟨F3, env3, E3, st3, k3, g3⟩
        exact ⟨xs.length - (i + 1), by omega, F3, env3, rfl, hlt, E3, st3, k3, g3⟩
      · obtain ⟨sm, rx⟩ := yl x H2 hy
        have E2 : Ext O F' H' F' H2 := Ext.same sm st'.odom
        have st2 := st'.same sm
        unfold dFor at g'
        cases q2 : g d env' with
        | none => rw [q2] at g'; exact g'.elim
        | some env2 =>
          rw [q2] at g'
          simp only [] at g'
          refine s2 O F' σ' H2 env' d x env2 _ st2 rx q2 fun σ4 st4 k4 => ?_
          refine s3 O F' σ4 H2 env2 _ st4 ?_
          cases q3 : mb env2 with
          | bad => rw [q3] at g'; exact g'.elim
          | err y e => rw [q3] at g'; exact fun F5 H5 σ5 c d e5 s5 k5 r => g' F5 H5 σ5 c d (E2.trans e5) s5 (k4.trans k5) r
          | ok fl env5 =>
            rw [q3] at g'
            cases fl with
            | nx => exact fun F5 H5 σ5 E5 s5 k5 => ⟨F5, env5, (E'.trans E2).trans E5, s5, (k'.trans k4).trans k5, SGoal.step (E2.trans E5) (k4.trans k5) g'⟩
            | cnt => exact fun F5 H5 σ5 E5 s5 k5 => ⟨F5, env5, (E'.trans E2).trans E5, s5, (k'.trans k4).trans k5, SGoal.step (E2.trans E5) (k4.trans k5) g'⟩
            | brk => exact fun F5 H5 σ5 E5 s5 k5 => g' F5 H5 σ5 (E2.trans E5) s5 (k4.trans k5)
            | ret e => exact fun F5 H5 σ5 v E5 s5 k5 r => g' F5 H5 σ5 v (E2.trans E5) s5 (k4.trans k5) r
end
end DL
/-! DL4: what is walked, comprehensions, calls of defs. -/
namespace DL
open PySem PySem.Spec PyProof.Rows L2

section
variable {X : Cx} {W : WX} {B : Bs}
/-! ### walks -/
def dSeqOf : D → Option (List D)
  | .lst xs => some xs
  | .tup xs => some xs
  | .fz xs => some xs
  | _ => none
@[simp] theorem seq_lst (xs : List D) : dSeqOf (.lst xs) = some xs := rfl
@[simp] theorem seq_tup (xs : List D) : dSeqOf (.tup xs) = some xs := rfl
@[simp] theorem seq_fz (xs : List D) : dSeqOf (.fz xs) = some xs := rfl
def iSeq (m : DE) : DI := fun env => (m env).bind fun r env1 => match dSeqOf r.d with
  | some xs => .ok xs env1
  | none => .bad
theorem walks_list {K : PySem.W.Frag} {O F : Fz} {H : Hp} {a : Addr} {vs : List V} {xs : List D} (hl : ∀ F' H', Ext (fun _ => False) F H F' H' → SqL K H' a vs) (hr : RepL K F H xs vs) : Walks K O F H (Itl K a) xs := fun F' H' E od i => by
  have q := hl F' H' E
  refine ⟨fun d hx => ?_, fun hx => ?_⟩
  · obtain ⟨v, hv, r⟩ := (RepL.ext E xs vs hr).get hx
    refine ⟨⟨vs, v, q, hv⟩, fun x H'' y => ?_⟩
    obtain ⟨e, y⟩ := y
    subst e
    have := y vs q
    rw [hv] at this
    cases this
    exact ⟨Same.refl _, r⟩
  · have h1 := List.getElem?_eq_none_iff.mp hx
    exact ⟨vs, q, by rw [hr.length]; exact h1⟩
theorem walks_tup {K : PySem.W.Frag} {O F : Fz} {H : Hp} {a : Addr} {vs : List V} {xs : List D} (ht : TpL H a vs) (hr : RepL K F H xs vs) : Walks K O F H (Itt K a) xs := fun F' H' E od i => by
  have q : SqT K H' a vs := (tpL_ext E ht).sq
  refine ⟨fun d hx => ?_, fun hx => ?_⟩
  · obtain ⟨v, hv, r⟩ := (RepL.ext E xs vs hr).get hx
    refine ⟨⟨vs, v, q, hv⟩, fun x H'' y => ?_⟩
    obtain ⟨e, y⟩ := y
    subst e
    have := y vs q
    rw [hv] at this
    cases this
    exact ⟨Same.refl _, r⟩
  · have h1 := List.getElem?_eq_none_iff.mp hx
    exact ⟨vs, q, by rw [hr.length]; exact h1⟩
/-- the items' places are known ahead: t gives one value for all wants -/
theorem pi_sq {tg l : Expr} {tl : TE} (hl : PE X l tl) : PI X tg l (fun σ H R => tl σ H fun x H1 => ∃ a, x = .ref a ∧ (((∃ xs, SqL X.K H1 a xs) ∧ R (Itl X.K a) H1) ∨ ((∃ xs, SqT X.K H1 a xs) ∧ R (Itt X.K a) H1))) := by
  refine ⟨fun pins s σ H R I h => ?_⟩
  refine thn (hl.run pins s σ H _ I h) fun u s1 ⟨x, H1, I1, rx, a, ex, q⟩ => ?_
  subst ex
  have ru : u = Value.ref a := rx
  subst ru
  rcases q with ⟨⟨xs, hq⟩, q⟩ | ⟨⟨xs, hq⟩, q⟩
  · obtain ⟨its, rv, p, hz⟩ := I1.list hq
    obtain ⟨o, n, ho, hcl, hdi, hd⟩ := id p
    refine wpAny_pyIter_list p.isList ?_
    have I2 : Inv X pins σ H1 { s1 with heap := s1.heap.push { cls := .type "list_iterator", data := .fields #[.ref a, rawInt 0] } } := I1.kept (t' := s1.toks) fun b ob z => Heap.get?_push_of_some _ z
    refine ⟨s1.heap.objs.size, [s1.heap.objs.size], _, _, H1, rfl, I2, turn_list a s1.heap.objs.size, ⟨_, Heap.get?_push_size _ rfl, rfl, rfl⟩, fun b hb => ?_, q⟩
    have e : b = s1.heap.objs.size := by simpa using hb
    subst e
    exact I1.fpOk (Nat.le_refl _) (I1.hok.fresh (Nat.le_refl _))
  · obtain ⟨its, rv, p, hz⟩ := I1.tuple hq
    refine wpAny_pyIter_tuple p ?_
    have I2 : Inv X pins σ H1 { s1 with heap := s1.heap.push { cls := .type "tuple_iterator", data := .fields #[.ref a, rawInt 0] } } := I1.kept (t' := s1.toks) fun b ob z => Heap.get?_push_of_some _ z
    refine ⟨s1.heap.objs.size, [s1.heap.objs.size], _, _, H1, rfl, I2, turn_tuple a s1.heap.objs.size, ⟨_, Heap.get?_push_size _ rfl, rfl, rfl⟩, fun b hb => ?_, q⟩
    have e : b = s1.heap.objs.size := by simpa using hb
    subst e
    exact I1.fpOk (Nat.le_refl _) (I1.hok.fresh (Nat.le_refl _))
theorem it_seq {tg e : Expr} {m : DE} (h : DEv X W e m) : DIt X W tg e (iSeq m) := by
  obtain ⟨t, p, s⟩ := h
  refine ⟨_, pi_sq p, fun O F σ H env R' st g => ?_⟩
  refine s O F σ H env _ st ?_
  unfold iSeq at g
  cases q : m env with
  | bad => rw [q] at g; exact g.elim
  | err x e => rw [q] at g; exact g
  | ok r env1 =>
    rw [q] at g
    simp only [R.bind] at g
    intro F1 H1 v E1 s1 r1
    obtain ⟨F2, E2, s2, r2⟩ := freeze s1 r1
    obtain ⟨md, d⟩ := r
    cases d with
    | lst xs =>
      obtain ⟨a, vs, rfl, fa, ha, rl⟩ := r2
      have q : SqL X.K H1 a vs := SqL.of ha
      refine ⟨a, rfl, .inl ⟨⟨vs, q⟩, g F2 H1 _ (E1.trans E2) s2 (walks_list (fun F' H' E => SqL.of (E.fz a _ fa ha)) rl)⟩⟩
    | tup xs =>
      obtain ⟨a, vs, rfl, ha, rl⟩ := r2
      exact ⟨a, rfl, .inr ⟨⟨vs, ha.sq⟩, g F2 H1 _ (E1.trans E2) s2 (walks_tup ha rl)⟩⟩
    | fz xs =>
      obtain ⟨a, vs, rfl, ha, rl⟩ := r2
      exact ⟨a, rfl, .inl ⟨⟨vs, ha.sq⟩, g F2 H1 _ (E1.trans E2) s2 (walks_list (fun F' H' E => (sqF_ext E ha).sq) rl)⟩⟩
    | _ => exact g.elim

/-! range -/
def rngD (lo : Int) : Nat → List D
  | 0 => []
  | n + 1 => .int lo :: rngD (lo + 1) n
theorem rngD_get (lo : Int) (n i : Nat) : (rngD lo n)[i]? = if i < n then some (.int (lo + i)) else none := by
  induction n generalizing lo i with
  | zero => simp [rngD]
  | succ n ih =>
    cases i with
    | zero => simp [rngD]
    | succ i =>
      rw [rngD, List.getElem?_cons_succ, ih]
      by_cases h : i < n
      · rw [if_pos h, if_pos (by omega)]
        have : lo + 1 + (i : Int) = lo + ((i + 1 : Nat) : Int) := by omega
        rw [this]
      · rw [if_neg h, if_neg (by omega)]
theorem rngD_len (lo : Int) (n : Nat) : (rngD lo n).length = n := by
  induction n generalizing lo with
  | zero => rfl
  | succ n ih => rw [rngD, List.length_cons, ih]
theorem walks_rng {K : PySem.W.Frag} {O F : Fz} {H : Hp} {lo : Int} {n : Nat} : Walks K O F H (Itr lo n) (rngD lo n) := fun F' H' E od i => by
  rw [rngD_get]
  by_cases h : i < n
  · rw [if_pos h]
    refine ⟨fun d hd => ⟨h, fun x H'' y => ?_⟩, fun z => nomatch z⟩
    obtain ⟨e, e2⟩ := y
    cases hd
    subst e e2
    exact ⟨Same.refl _, rfl⟩
  · rw [if_neg h]
    exact ⟨fun d z => (nomatch z), fun _ => by show n ≤ i; omega⟩
/-- the same by a step -/
def rngC (lo c : Int) : Nat → List D
  | 0 => []
  | n + 1 => .int lo :: rngC (lo + c) c n
theorem rngC_get (lo c : Int) (n i : Nat) : (rngC lo c n)[i]? = if i < n then some (.int (lo + (i : Nat) * c)) else none := by
  induction n generalizing lo i with
  | zero => simp [rngC]
  | succ n ih =>
    cases i with
    | zero => simp [rngC]
    | succ i =>
      rw [rngC, List.getElem?_cons_succ, ih]
      by_cases h : i < n
      · rw [if_pos h, if_pos (by omega)]
        have : lo + c + (i : Int) * c = lo + ((i + 1 : Nat) : Int) * c := by
          have : ((i + 1 : Nat) : Int) = (i : Int) + 1 := by omega
          rw [this, Int.add_mul]
          omega
        rw [this]
      · rw [if_neg h, if_neg (by omega)]
theorem walks_rngC {K : PySem.W.Frag} {O F : Fz} {H : Hp} {lo c : Int} {n : Nat} : Walks K O F H (Itc lo c n) (rngC lo c n) := fun F' H' E od i => by
  rw [rngC_get]
  by_cases h : i < n
  · rw [if_pos h]
    refine ⟨fun d hd => ⟨h, fun x H'' y => ?_⟩, fun z => nomatch z⟩
    obtain ⟨e, e2⟩ := y
    cases hd
    subst e e2
    exact ⟨Same.refl _, rfl⟩
  · rw [if_neg h]
    exact ⟨fun d z => (nomatch z), fun _ => by show n ≤ i; omega⟩
def small62 (i : Int) : Bool := decide (-(2 ^ 62) ≤ i) && decide (i < 2 ^ 62)
theorem small62_of {i : Int} (h : small62 i = true) : -(2 ^ 62) ≤ i ∧ i < 2 ^ 62 := by
  unfold small62 at h
  rw [Bool.and_eq_true] at h
  exact ⟨of_decide_eq_true h.1, of_decide_eq_true h.2⟩
def rng1 (ds : List D) : Option (List D) := match ds with
  | [.int j] => if small62 j = true then some (rngD 0 j.toNat) else none
  | _ => none
def rng2 (ds : List D) : Option (List D) := match ds with
  | [.int i, .int j] => if small62 i = true then (if small62 j = true then some (rngD i (j - i).toNat) else none) else none
  | _ => none
/-- downwards by ones -/
def rng3 (ds : List D) : Option (List D) := match ds with
  | [.int i, .int j, .int c] => if c = -1 then (if small62 i = true then (if small62 j = true then some (rngC i (-1) (i - j).toNat) else none) else none) else none
  | _ => none
def iArgs (p : List D → Option (List D)) (os : List Opd) : DI := fun env => (evOs os env).bind fun avs env1 => match (getAVs env1 avs).bind p with
  | some xs => .ok xs env1
  | none => .bad
/-- from the arguments' reading -/
theorem isem_args {ta : TA} {os : List Opd} {p : List D → Option (List D)} {r : List V → Hp → (It → Hp → Prop) → Prop} (ha : ASem X W ta os)
    (hr : ∀ (O F : Fz) (H : Hp) (ds : List D) (vs : List V) (xs : List D) (R' : It → Hp → Prop), RepTs X.K F H ds vs → p ds = some xs → (∀ J, Walks X.K O F H J xs → R' J H) → r vs H R') :
    ISem X W (fun σ H R' => ta σ H fun vs H1 => r vs H1 R') (iArgs p os) := fun O F σ H env R' st g => by
  refine ha O F σ H env _ st ?_
  unfold iArgs at g
  cases q : evOs os env with
  | bad => rw [q] at g; exact g.elim
  | err x e => rw [q] at g; exact g
  | ok avs env1 =>
    rw [q] at g
    simp only [R.bind] at g
    intro F1 H1 vs E1 s1 r1
    cases q2 : getAVs env1 avs with
    | none => rw [q2] at g; exact g.elim
    | some ds =>
      rw [q2] at g
      simp only [Option.bind] at g
      cases q3 : p ds with
      | none => rw [q3] at g; exact g.elim
      | some xs =>
        rw [q3] at g
        exact hr O F1 H1 ds vs xs R' (AVs.tops s1 r1 q2) q3 fun J w => g F1 H1 J E1 s1 w
theorem it_rng1 {tg a : Expr} {os : List Opd} {p pos : Pos} (hg : Gl X "range") (hm : X.mg "range" = none) (ha : DAs X W [a] os) (hs : starEach [a] X.env = [(false, eval a X.env)] := by rfl) : DIt X W tg (.Call (.Name "range" p) [a] [] pos) (iArgs rng1 os) := by
  obtain ⟨t, h, s⟩ := ha
  refine ⟨_, pi_range1 hg hm h hs, isem_args s fun O F H ds vs xs R' r e k => ?_⟩
  unfold rng1 at e
  split at e
  · split at e
    · rename_i j hj
      cases e
      obtain ⟨v, _, rfl, rv, rfl⟩ := r
      cases rv
      obtain ⟨h1, h2⟩ := small62_of hj
      exact ⟨j, rfl, h1, h2, k _ walks_rng⟩
    · cases e
  · cases e
theorem it_rng2 {tg a b : Expr} {os : List Opd} {p pos : Pos} (hg : Gl X "range") (hm : X.mg "range" = none) (ha : DAs X W [a, b] os) (hs : starEach [a, b] X.env = [(false, eval a X.env), (false, eval b X.env)] := by rfl) (hs2 : starEach [b] X.env = [(false, eval b X.env)] := by rfl) : DIt X W tg (.Call (.Name "range" p) [a, b] [] pos) (iArgs rng2 os) := by
  obtain ⟨t, h, s⟩ := ha
  refine ⟨_, pi_range2 hg hm h hs hs2, isem_args s fun O F H ds vs xs R' r e k => ?_⟩
  unfold rng2 at e
  split at e
  · rename_i i j
    split at e
    · rename_i hi
      split at e
      · rename_i hj
        cases e
        obtain ⟨v, _, rfl, rv, v2, _, rfl, rv2, rfl⟩ := r
        cases rv
        cases rv2
        obtain ⟨h1, h2⟩ := small62_of hi
        obtain ⟨h3, h4⟩ := small62_of hj
        exact ⟨i, j, rfl, ⟨h1, h2, h3, h4⟩, k _ walks_rng⟩
      · cases e
    · cases e
  · cases e
theorem it_rng3 {tg a b c : Expr} {os : List Opd} {p pos : Pos} (hg : Gl X "range") (hm : X.mg "range" = none) (ha : DAs X W [a, b, c] os)
    (hs : starEach [a, b, c] X.env = (false, eval a X.env) :: starEach [b, c] X.env := by rfl) (hpl : (backTo pos (starEach [b, c] X.env)).any (·.1) = false := by rfl) : DIt X W tg (.Call (.Name "range" p) [a, b, c] [] pos) (iArgs rng3 os) := by
  obtain ⟨t, h, s⟩ := ha
  refine ⟨_, pi_range3 hg hm h hs hpl, isem_args s fun O F H ds vs xs R' r e k => ?_⟩
  unfold rng3 at e
  split at e
  · rename_i i j c
    split at e
    · rename_i hc
      subst hc
      split at e
      · rename_i hi
        split at e
        · rename_i hj
          cases e
          obtain ⟨v, _, rfl, rv, v2, _, rfl, rv2, v3, _, rfl, rv3, rfl⟩ := r
          cases rv
          cases rv2
          cases rv3
          obtain ⟨h1, h2⟩ := small62_of hi
          obtain ⟨h3, h4⟩ := small62_of hj
          exact ⟨i, j, -1, (i - j).toNat, rfl, RgC.neg h1 h2 h3 h4, k _ walks_rngC⟩
        · cases e
      · cases e
    · cases e
  · cases e
/-! enumerate of a list, zip of two lists or two tuples: new pairs -/
def enumD (i : Nat) : List D → List D
  | [] => []
  | x :: xs => .pr (.int (i : Nat)) x :: enumD (i + 1) xs
theorem enumD_get (i : Nat) (xs : List D) (j : Nat) : (enumD i xs)[j]? = xs[j]?.map fun x => D.pr (.int ((i + j : Nat) : Int)) x := by
  induction xs generalizing i j with
  | nil => simp [enumD]
  | cons x xs ih =>
    cases j with
    | zero => simp [enumD]
    | succ j =>
      rw [enumD, List.getElem?_cons_succ, List.getElem?_cons_succ, ih]
      have : i + 1 + j = i + (j + 1) := by omega
      rw [this]
def zipD : List D → List D → List D
  | x :: xs, y :: ys => .pr x y :: zipD xs ys
  | _, _ => []
theorem zipD_get : ∀ (xs ys : List D) (j : Nat), (zipD xs ys)[j]? = (match xs[j]?, ys[j]? with
    | some x, some y => some (D.pr x y)
    | _, _ => none)
  | [], ys, j => by simp [zipD]
  | x :: xs, [], j => by
    cases q : (x :: xs)[j]? <;> simp [zipD]
  | x :: xs, y :: ys, 0 => by simp [zipD]
  | x :: xs, y :: ys, j + 1 => by
    rw [zipD, List.getElem?_cons_succ, List.getElem?_cons_succ, List.getElem?_cons_succ]
    exact zipD_get xs ys j
theorem walks_enum {K : PySem.W.Frag} {O F : Fz} {H : Hp} {a : Addr} {vs : List V} {xs : List D} (hl : ∀ F' H', Ext (fun _ => False) F H F' H' → SqL K H' a vs) (hr : RepL K F H xs vs) : Walks K O F H (Ite K a) (enumD 0 xs) := fun F' H' E od i => by
  have q := hl F' H' E
  have rl := RepL.ext E xs vs hr
  rw [enumD_get]
  refine ⟨fun d hx => ?_, fun hx => ?_⟩
  · cases hx' : xs[i]? with
    | none => rw [hx'] at hx; cases hx
    | some x =>
      rw [hx'] at hx
      simp only [Option.map_some] at hx
      cases hx
      obtain ⟨v, hv, r⟩ := rl.get hx'
      refine ⟨⟨vs, v, q, hv⟩, fun y H'' z => ?_⟩
      obtain ⟨T, v2, rfl, hT, rfl, hy⟩ := z
      have := hy vs q
      rw [hv] at this
      cases this
      refine ⟨same_new hT, T, .int (i : Nat), v, rfl, upd_same, ?_⟩
      have e0 : ((0 + i : Nat) : Int) = ((i : Nat) : Int) := by rw [Nat.zero_add]
      rw [e0]
      exact ⟨rfl, rep_same (same_new hT) r⟩
  · cases hx' : xs[i]? with
    | none => exact ⟨vs, q, by rw [hr.length]; exact List.getElem?_eq_none_iff.mp hx'⟩
    | some x => rw [hx'] at hx; cases hx
theorem walks_zip {K : PySem.W.Frag} {O F : Fz} {H : Hp} {a b : Addr} {vs ws : List V} {xs ys : List D} (hl : ∀ F' H', Ext (fun _ => False) F H F' H' → SqL K H' a vs) (hl2 : ∀ F' H', Ext (fun _ => False) F H F' H' → SqL K H' b ws) (hr : RepL K F H xs vs) (hr2 : RepL K F H ys ws) :
    Walks K O F H (Itz K a b) (zipD xs ys) := fun F' H' E od i => by
  have q := hl F' H' E
  have q2 := hl2 F' H' E
  have rl := RepL.ext E xs vs hr
  have rl2 := RepL.ext E ys ws hr2
  rw [zipD_get]
  cases hx : xs[i]? with
  | none => exact ⟨fun d z => (nomatch z), fun _ => ⟨vs, ws, q, q2, .inl (by rw [hr.length]; exact List.getElem?_eq_none_iff.mp hx)⟩⟩
  | some x =>
    cases hy : ys[i]? with
    | none => exact ⟨fun d z => (nomatch z), fun _ => ⟨vs, ws, q, q2, .inr (by rw [hr2.length]; exact List.getElem?_eq_none_iff.mp hy)⟩⟩
    | some y =>
      refine ⟨fun d z => ?_, fun z => (nomatch z)⟩
      cases z
      obtain ⟨v, hv, r⟩ := rl.get hx
      obtain ⟨w, hw, r2⟩ := rl2.get hy
      refine ⟨⟨vs, ws, v, w, q, q2, hv, hw⟩, fun u H'' z => ?_⟩
      obtain ⟨T, v2, w2, rfl, hT, rfl, e1, e2⟩ := z
      have e1 := e1 vs q
      have e2 := e2 ws q2
      rw [hv] at e1; rw [hw] at e2
      cases e1; cases e2
      exact ⟨same_new hT, T, v, w, rfl, upd_same, rep_same (same_new hT) r, rep_same (same_new hT) r2⟩
theorem walks_zipT {K : PySem.W.Frag} {O F : Fz} {H : Hp} {a b : Addr} {vs ws : List V} {xs ys : List D} (ha : TpL H a vs) (hb : TpL H b ws) (hr : RepL K F H xs vs) (hr2 : RepL K F H ys ws) :
    Walks K O F H (RZ.ItzT K a b) (zipD xs ys) := fun F' H' E od i => by
  have q : SqT K H' a vs := (tpL_ext E ha).sq
  have q2 : SqT K H' b ws := (tpL_ext E hb).sq
  have rl := RepL.ext E xs vs hr
  have rl2 := RepL.ext E ys ws hr2
  rw [zipD_get]
  cases hx : xs[i]? with
  | none => exact ⟨fun d z => (nomatch z), fun _ => ⟨vs, ws, q, q2, .inl (by rw [hr.length]; exact List.getElem?_eq_none_iff.mp hx)⟩⟩
  | some x =>
    cases hy : ys[i]? with
    | none => exact ⟨fun d z => (nomatch z), fun _ => ⟨vs, ws, q, q2, .inr (by rw [hr2.length]; exact List.getElem?_eq_none_iff.mp hy)⟩⟩
    | some y =>
      refine ⟨fun d z => ?_, fun z => (nomatch z)⟩
      cases z
      obtain ⟨v, hv, r⟩ := rl.get hx
      obtain ⟨w, hw, r2⟩ := rl2.get hy
      refine ⟨⟨vs, ws, v, w, q, q2, hv, hw⟩, fun u H'' z => ?_⟩
      obtain ⟨T, v2, w2, rfl, hT, rfl, e1, e2⟩ := z
      have e1 := e1 vs q
      have e2 := e2 ws q2
      rw [hv] at e1; rw [hw] at e2
      cases e1; cases e2
      exact ⟨same_new hT, T, v, w, rfl, upd_same, rep_same (same_new hT) r, rep_same (same_new hT) r2⟩
/-- from arguments that are all still -/
theorem isem_vals {ta : TA} {os : List Opd} {p : List D → Option (List D)} {r : List V → Hp → (It → Hp → Prop) → Prop} (ha : ASem X W ta os) (hv : allV os = true)
    (hr : ∀ (O F : Fz) (H : Hp) (ds : List D) (vs : List V) (xs : List D) (R' : It → Hp → Prop), RepL X.K F H ds vs → p ds = some xs → (∀ J, Walks X.K O F H J xs → R' J H) → r vs H R') :
    ISem X W (fun σ H R' => ta σ H fun vs H1 => r vs H1 R') (iArgs p os) := fun O F σ H env R' st g => by
  refine ha O F σ H env _ st ?_
  unfold iArgs at g
  cases q : evOs os env with
  | bad => rw [q] at g; exact g.elim
  | err x e => rw [q] at g; exact g
  | ok avs env1 =>
    rw [q] at g
    simp only [R.bind] at g
    intro F1 H1 vs E1 s1 r1
    cases q2 : getAVs env1 avs with
    | none => rw [q2] at g; exact g.elim
    | some ds =>
      rw [q2] at g
      simp only [Option.bind] at g
      cases q3 : p ds with
      | none => rw [q3] at g; exact g.elim
      | some xs =>
        rw [q3] at g
        exact hr O F1 H1 ds vs xs R' (AVs.vals hv q r1 q2) q3 fun J w => g F1 H1 J E1 s1 w
def enum1 (ds : List D) : Option (List D) := match ds with
  | [.lst xs] => some (enumD 0 xs)
  | _ => none
def zip2 (ds : List D) : Option (List D) := match ds with
  | [.lst xs, .lst ys] => some (zipD xs ys)
  | [.tup xs, .tup ys] => some (zipD xs ys)
  | _ => none
theorem it_enum {e : Expr} {os : List Opd} {p pos tpos : Pos} {elts : List Expr} {kk : Nat} (hg : Gl X "enumerate") (hm : X.mg "enumerate" = none) (ha : DAs X W [e] os) (hs : starEach [e] X.env = [(false, eval e X.env)] := by rfl) (hv : allV os = true := by rfl) :
    DIt X W (.Tuple elts kk tpos) (.Call (.Name "enumerate" p) [e] [] pos) (iArgs enum1 os) := by
  obtain ⟨t, h, s⟩ := ha
  refine ⟨_, pi_enum hg hm h hs, isem_vals s hv fun O F H ds vs xs R' r e k => ?_⟩
  unfold enum1 at e
  split at e
  · cases e
    obtain ⟨v, _, rfl, ⟨a, ws, rfl, fa, ha, rl⟩, rfl⟩ := r
    exact ⟨a, ws, rfl, SqL.of ha, k _ (walks_enum (fun F' H' E => SqL.of (E.fz a _ fa ha)) rl)⟩
  · cases e
theorem it_zip {e e2 : Expr} {os : List Opd} {p pos tpos : Pos} {elts : List Expr} {kk : Nat} (hg : Gl X "zip") (hm : X.mg "zip" = none) (ha : DAs X W [e, e2] os)
    (hs : starEach [e, e2] X.env = (false, eval e X.env) :: starEach [e2] X.env := by rfl) (hpl : (backTo pos (starEach [e2] X.env)).any (·.1) = false := by rfl) (hv : allV os = true := by rfl) :
    DIt X W (.Tuple elts kk tpos) (.Call (.Name "zip" p) [e, e2] [] pos) (iArgs zip2 os) := by
  obtain ⟨t, h, s⟩ := ha
  refine ⟨_, RZ.pi_zipA hg hm h hs hpl, isem_vals s hv fun O F H ds vs xs R' r e k => ?_⟩
  unfold zip2 at e
  split at e
  · cases e
    obtain ⟨v, _, rfl, ⟨a, ws, rfl, fa, ha, rl⟩, v2, _, rfl, ⟨b, zs, rfl, fb, hb, rl2⟩, rfl⟩ := r
    exact ⟨a, b, ws, zs, rfl, .inl ⟨SqL.of ha, SqL.of hb, k _ (walks_zip (fun F' H' E => SqL.of (E.fz a _ fa ha)) (fun F' H' E => SqL.of (E.fz b _ fb hb)) rl rl2)⟩⟩
  · cases e
    obtain ⟨v, _, rfl, ⟨a, ws, rfl, ha, rl⟩, v2, _, rfl, ⟨b, zs, rfl, hb, rl2⟩, rfl⟩ := r
    exact ⟨a, b, ws, zs, rfl, .inr ⟨ha.sq, hb.sq, k _ (walks_zipT ha hb rl rl2)⟩⟩
  · cases e
end
end DL
/-! DL5: comprehensions. -/
namespace DL
open PySem PySem.Spec PyProof.Rows L2

section
variable {X : Cx} {W : WX} {B : Bs}
/-! ### one reading for all contexts -/
def tOfE (X : Cx) (W : WX) (m : DE) : TE := fun σ H Q => ∃ O F env, StOk X.K O F H σ env ∧ EGoal X W O F σ H Q (m env)
def tOfT (X : Cx) (W : WX) (m : DT) : TT := fun σ H Q => ∃ O F env, StOk X.K O F H σ env ∧ TGoal X W O F σ H Q (m env)
theorem DEv.pe {e : Expr} {m : DE} (h : DEv X W e m) : PE X e (tOfE X W m) := by
  obtain ⟨t, p, s⟩ := h
  exact ⟨fun pins s0 σ H Q I ⟨O, F, env, st, g⟩ => p.run pins s0 σ H Q I (s O F σ H env Q st g)⟩
theorem DTst.pt {e : Expr} {m : DT} (h : DTst X W e m) : PT X e (tOfT X W m) := by
  obtain ⟨t, p, s⟩ := h
  exact ⟨fun pins s0 σ H Q I ⟨O, F, env, st, g⟩ => p.run pins s0 σ H Q I (s O F σ H env Q st g)⟩
def tOfG (X : Cx) (B : Bs) (m : DG) : TG := fun v σ H Q => ∃ O F env d env', StOk X.K O F H σ env ∧ Rep X.K F H d v ∧ m d env = some env' ∧ ∀ σ', StOk X.K O F H σ' env' → Keeps B σ σ' → Q σ' H
theorem DTg.pg {e : Expr} {m : DG} (h : DTg X B e m) : PG X e (tOfG X B m) := by
  obtain ⟨g, p, s⟩ := h
  exact ⟨fun pins s0 σ H v u Q I r ⟨O, F, env, d, env', st, rd, e, k⟩ => p.run pins s0 σ H v u Q I r (s O F σ H env d v env' Q st rd e k)⟩

/-! ### comprehensions -/
@[simp] def wipeD (env : DEnv) : List Nat → DEnv
  | [] => env
  | v :: vs => (wipeD env vs).set v none
@[simp] def keepEnt : Option (Option Ent) → Option Ent
  | some (some ⟨.shr, d⟩) => some ⟨.shr, d⟩
  | _ => none
/-- the outer values of the comprehension's own names come back -/
@[simp] def backD (env0 env : DEnv) : List Nat → DEnv
  | [] => env
  | v :: vs => (backD env0 env vs).set v (keepEnt env0[v]?)
def dLoop (vs : List Nat) (g : DG) (c : DT) (e : DE) : List D → List D → DEnv → R (List D)
  | [], acc, env => .ok acc env
  | x :: xs, acc, env => match g x env with
    | none => .bad
    | some env1 => match c env1 with
      | .ok true env2 => (match e env2 with
        | .ok r env3 => if acc.length < sizeLine then dLoop vs g c e xs (acc ++ [r.d]) (wipeD env3 vs) else .bad
        | _ => .bad)
      | .ok false env2 => dLoop vs g c e xs acc (wipeD env2 vs)
      | _ => .bad
def dComp (vs : List Nat) (it : DI) (g : DG) (c : DT) (e : DE) : DE := fun env => (it env).bind fun xs env1 => match dLoop vs g c e xs [] (wipeD env1 vs) with
  | .ok acc env2 => .ok ⟨.own, .lst acc⟩ (backD env1 env2 vs)
  | _ => .bad
def dYes : DT := fun env => .ok true env
def notIn (vs : List Nat) : Bs := fun i => !vs.contains i
theorem wipeD_get {env : DEnv} {i : Nat} {x : Ent} : ∀ {vs : List Nat}, (wipeD env vs)[i]? = some (some x) → env[i]? = some (some x) ∧ i ∉ vs
  | [], h => ⟨h, by simp⟩
  | v :: vs, h => by
    unfold wipeD at h
    by_cases hi : v = i
    · subst hi
      by_cases hv : v < (wipeD env vs).length
      · rw [List.getElem?_set_self hv] at h; cases h
      · rw [List.getElem?_eq_none (by simpa using hv)] at h; cases h
    · rw [List.getElem?_set_ne hi] at h
      obtain ⟨h1, h2⟩ := wipeD_get h
      exact ⟨h1, by simp only [List.mem_cons, not_or]; exact ⟨fun e => hi e.symm, h2⟩⟩
theorem wipeD_length (env : DEnv) : ∀ vs : List Nat, (wipeD env vs).length = env.length
  | [] => rfl
  | v :: vs => by unfold wipeD; rw [List.length_set, wipeD_length env vs]
theorem backD_length (env0 env : DEnv) : ∀ vs : List Nat, (backD env0 env vs).length = env.length
  | [] => rfl
  | v :: vs => by unfold backD; rw [List.length_set, backD_length env0 env vs]
theorem backD_get {env0 env : DEnv} {i : Nat} {x : Ent} : ∀ {vs : List Nat}, (backD env0 env vs)[i]? = some (some x) → (i ∉ vs ∧ env[i]? = some (some x)) ∨ (i ∈ vs ∧ x.md = .shr ∧ env0[i]? = some (some x))
  | [], h => .inl ⟨by simp, h⟩
  | v :: vs, h => by
    unfold backD at h
    by_cases hi : v = i
    · subst hi
      by_cases hv : v < (backD env0 env vs).length
      · rw [List.getElem?_set_self hv] at h
        right
        cases q : env0[v]? with
        | none => rw [q] at h; cases h
        | some o =>
          cases o with
          | none => rw [q] at h; cases h
          | some e =>
            rw [q] at h
            obtain ⟨m, d⟩ := e
            cases m with
            | shr =>
              simp only [keepEnt] at h
              cases h
              exact ⟨by simp, rfl, rfl⟩
            | own => cases h
            | bor => cases h
      · rw [List.getElem?_eq_none (by simpa using hv)] at h; cases h
    · rw [List.getElem?_set_ne hi] at h
      rcases backD_get h with ⟨h1, h2⟩ | ⟨h1, h2⟩
      · exact .inl ⟨by simp only [List.mem_cons, not_or]; exact ⟨fun e => hi e.symm, h1⟩, h2⟩
      · exact .inr ⟨List.mem_cons_of_mem _ h1, h2⟩
theorem wipe_get {σ : L2.St} {i : Nat} : ∀ {vs : List Nat}, i ∉ vs → (wipe σ vs)[i]? = σ[i]? := fun h => wipe_out h
/-- within: the names of the comprehension are empty -/
theorem StOk.wiped {K : PySem.W.Frag} {O F : Fz} {H : Hp} {σ : L2.St} {env : DEnv} (s : StOk K O F H σ env) (vs : List Nat) : StOk K O F H (wipe σ vs) (wipeD env vs) where
  len := by rw [wipe_length, wipeD_length]; exact s.len
  shr := fun i d q => by
    obtain ⟨q1, q2⟩ := wipeD_get q
    obtain ⟨v, h1, h2⟩ := s.shr i d q1
    exact ⟨v, by rw [wipe_get q2]; exact h1, h2⟩
  own := fun i m d q n => by
    obtain ⟨q1, q2⟩ := wipeD_get q
    obtain ⟨a, ws, ds, h1, h2, h3⟩ := s.own i m d q1 n
    exact ⟨a, ws, ds, h1, by rw [wipe_get q2]; exact h2, h3⟩
  inj := fun i j a ⟨m, d, h1, h2, h3⟩ ⟨m', d', k1, k2, k3⟩ => by
    obtain ⟨q1, q2⟩ := wipeD_get h1
    obtain ⟨q3, q4⟩ := wipeD_get k1
    rw [wipe_get q2] at h3
    rw [wipe_get q4] at k3
    exact s.inj i j a ⟨m, d, q1, h2, h3⟩ ⟨m', d', q3, k2, k3⟩
  fdom := s.fdom
  odom := s.odom
theorem wipe_len {σ : L2.St} (vs : List Nat) : (wipe σ vs).length = σ.length := wipe_length σ vs
/-- back: from a state whose own names are empty -/
theorem StOk.back {K : PySem.W.Frag} {O F0 F : Fz} {H0 H : Hp} {σ : L2.St} {env0 env : DEnv} {vs : List Nat} (s0 : StOk K O F0 H0 σ env0) (s : StOk K O F H (wipe σ vs) env) (e : Ext O F0 H0 F H) (hw : ∀ i ∈ vs, ∀ x, env[i]? ≠ some (some x)) : StOk K O F H σ (backD env0 env vs) where
  len := by rw [backD_length, ← s.len, wipe_length]
  shr := fun i d q => by
    rcases backD_get q with ⟨q1, q2⟩ | ⟨q1, _, q2⟩
    · obtain ⟨v, h1, h2⟩ := s.shr i d q2
      rw [wipe_get q1] at h1
      exact ⟨v, h1, h2⟩
    · obtain ⟨v, h1, h2⟩ := s0.shr i d q2
      exact ⟨v, h1, Rep.ext e d v h2⟩
  own := fun i m d q n => by
    rcases backD_get q with ⟨q1, q2⟩ | ⟨q1, z, q2⟩
    · obtain ⟨a, ws, ds, h1, h2, h3⟩ := s.own i m d q2 n
      rw [wipe_get q1] at h2
      exact ⟨a, ws, ds, h1, h2, h3⟩
    · exact absurd z n
  inj := fun i j a ⟨m, d, h1, h2, h3⟩ ⟨m', d', k1, k2, k3⟩ => by
    rcases backD_get h1 with ⟨q1, q2⟩ | ⟨q1, z, q2⟩
    · rcases backD_get k1 with ⟨r1, r2⟩ | ⟨r1, z, r2⟩
      · exact s.inj i j a ⟨m, d, q2, h2, by rw [wipe_get q1]; exact h3⟩ ⟨m', d', r2, k2, by rw [wipe_get r1]; exact k3⟩
      · exact absurd z k2
    · exact absurd z h2
  fdom := s.fdom
  odom := s.odom
/-- what others own is changed by them -/
theorem StOk.outw {K : PySem.W.Frag} {O F : Fz} {H : Hp} {σ : L2.St} {env : DEnv} {p : Addr} {us ws : List V} (s : StOk K O F H σ env) (hO : O p) (hF : ¬ F p) (h : H p = some (.lst us)) :
    StOk K O F (upd H p (.lst ws)) σ env ∧ ∀ O', (∀ a, O' a → a ≠ p) → Ext O' F H F (upd H p (.lst ws)) := by
  have E : ∀ O', (∀ a, O' a → a ≠ p) → Ext O' F H F (upd H p (.lst ws)) := fun O' ho => ⟨fun _ h => h, fun b o f q => by
      rw [upd_ne (fun z => by subst z; exact hF f)]; exact q, fun b xs q => by
      rw [upd_ne (fun z => by subst z; rw [h] at q; cases q)]; exact q, fun b o u q => by
      rw [upd_ne (fun z => by subst z; rw [h] at q; cases q)]; exact q, fun b ob => upd_ne (ho b ob), fun _ _ q => q⟩
  have E0 := E (fun _ => False) fun _ z => z.elim
  refine ⟨⟨s.len, fun i d q => let ⟨v, h1, h2⟩ := s.shr i d q; ⟨v, h1, Rep.ext E0 d v h2⟩, fun i m d q n => ?_, s.inj, fun b f => ?_, fun b f => ?_⟩, E⟩
  · obtain ⟨a, xs, ds, h1, h2, h3, h4, h5, h6⟩ := s.own i m d q n
    have hb : a ≠ p := fun z => by subst z; exact h6 hO
    exact ⟨a, xs, ds, h1, h2, by rw [upd_ne hb]; exact h3, RepL.ext E0 ds xs h4, h5, h6⟩
  · by_cases hb : b = p
    · subst hb; rw [upd_same]; exact nofun
    · rw [upd_ne hb]; exact s.fdom b f
  · by_cases hb : b = p
    · subst hb; rw [upd_same]; exact nofun
    · rw [upd_ne hb]; exact s.odom b f
theorem StOk.weak {K : PySem.W.Frag} {O O' F : Fz} {H : Hp} {σ : L2.St} {env : DEnv} (s : StOk K O F H σ env) (h : ∀ a, O' a → O a) : StOk K O' F H σ env :=
  ⟨s.len, s.shr, fun i m d q n => let ⟨a, vs, ds, h1, h2, h3, h4, h5, h6⟩ := s.own i m d q n; ⟨a, vs, ds, h1, h2, h3, h4, h5, fun z => h6 (h a z)⟩, s.inj, s.fdom, fun a q => s.odom a (h a q)⟩
theorem keeps_wipe {vs : List Nat} {σ σ' : L2.St} (k : Keeps (notIn vs) σ σ') : wipe σ' vs = wipe σ vs := by
  have hl := k.1
  apply List.ext_getElem?
  intro i
  by_cases hi : i ∈ vs
  · have none_at : ∀ τ : L2.St, (wipe τ vs)[i]? = none ∨ (wipe τ vs)[i]? = some none := fun τ => by
      cases q : (wipe τ vs)[i]? with
      | none => exact .inl rfl
      | some o =>
        cases o with
        | none => exact .inr rfl
        | some x => exact absurd hi (wipe_some q).2
    by_cases hlt : i < σ.length
    · have h1 : i < (wipe σ vs).length := by rw [wipe_length]; exact hlt
      have h2 : i < (wipe σ' vs).length := by rw [wipe_length, hl]; exact hlt
      rcases none_at σ with a | a
      · rw [List.getElem?_eq_getElem h1] at a; cases a
      · rcases none_at σ' with b | b
        · rw [List.getElem?_eq_getElem h2] at b; cases b
        · rw [a, b]
    · have z1 : (wipe σ' vs).length ≤ i := by rw [wipe_length]; omega
      have z2 : (wipe σ vs).length ≤ i := by rw [wipe_length]; omega
      rw [List.getElem?_eq_none z1, List.getElem?_eq_none z2]
  · rw [wipe_get hi, wipe_get hi]
    exact k.2 i (by unfold notIn; rw [Bool.not_eq_true']; exact Bool.eq_false_iff.mpr fun z => hi (by simpa using z))
theorem wipe_wipe {σ : L2.St} : ∀ (vs : List Nat), wipe (wipe σ vs) vs = wipe σ vs := fun vs => by
  apply List.ext_getElem?
  intro i
  by_cases hi : i ∈ vs
  · have none_at : ∀ τ : L2.St, (wipe τ vs)[i]? = none ∨ (wipe τ vs)[i]? = some none := fun τ => by
      cases q : (wipe τ vs)[i]? with
      | none => exact .inl rfl
      | some o =>
        cases o with
        | none => exact .inr rfl
        | some x => exact absurd hi (wipe_some q).2
    by_cases hlt : i < σ.length
    · have h1 : i < (wipe σ vs).length := by rw [wipe_length]; exact hlt
      have h2 : i < (wipe (wipe σ vs) vs).length := by rw [wipe_length]; exact h1
      rcases none_at σ with a | a
      · rw [List.getElem?_eq_getElem h1] at a; cases a
      · rcases none_at (wipe σ vs) with b | b
        · rw [List.getElem?_eq_getElem h2] at b; cases b
        · rw [a, b]
    · rw [List.getElem?_eq_none (by rw [wipe_length, wipe_length]; omega), List.getElem?_eq_none (by rw [wipe_length]; omega)]
  · rw [wipe_get hi]
theorem wipeD_none {env : DEnv} {vs : List Nat} : ∀ i ∈ vs, ∀ x, (wipeD env vs)[i]? ≠ some (some x) := fun i hi x q => (wipeD_get q).2 hi

theorem sem_comp {vs : List Nat} {wi : TI} {mi : DI} {g : DG} {mc : DT} {me : DE} (hi : ISem X W wi mi) :
    ESem X W (tLc wi (tOfG X (notIn vs) g) (tOfT X (fun _ _ _ _ => False) mc) (tOfE X (fun _ _ _ _ => False) me) vs) (dComp vs mi g mc me) := fun O F σ H env Q st g0 => by
  refine hi O F σ H env _ st ?_
  unfold dComp at g0
  cases q : mi env with
  | bad => rw [q] at g0; exact g0.elim
  | err x e => rw [q] at g0; exact g0
  | ok xs env1 =>
    rw [q] at g0
    simp only [R.bind] at g0
    intro F1 H1 J E1 st1 wk Dl hD
    cases q2 : dLoop vs g mc me xs [] (wipeD env1 vs) with
    | bad => rw [q2] at g0; exact g0.elim
    | err x e => rw [q2] at g0; exact g0.elim
    | ok acc env2 =>
      rw [q2] at g0
      simp only [] at g0
      have smD : Same H1 (upd H1 Dl (.lst [])) := same_new hD
      have stD : StOk X.K O F1 (upd H1 Dl (.lst [])) σ env1 := st1.same smD
      have ED : Ext O F1 H1 F1 (upd H1 Dl (.lst [])) := Ext.same smD st1.odom
      have nF1 : ¬ F1 Dl := fun f => st1.fdom Dl f hD
      have nO : ¬ O Dl := fun f => st1.odom Dl f hD
      have nOw : ∀ i, ¬ OwnAt env1 σ i Dl := fun i ⟨m, d, h1, h2, h3⟩ => by
        obtain ⟨a, ws, _, _, e2, e3, _⟩ := st1.own i m d h1 h2
        rw [h3] at e2; cases e2
        rw [hD] at e3; cases e3
      -- within, the new list is another's
      let O' : Fz := fun a => O a ∨ a = Dl
      have stI : StOk X.K O' F1 (upd H1 Dl (.lst [])) (wipe σ vs) (wipeD env1 vs) := by
        have s2 := stD.wiped vs
        refine ⟨s2.len, s2.shr, fun i m d q n => ?_, s2.inj, s2.fdom, fun a h => ?_⟩
        · obtain ⟨a, ws, ds, h1, h2, h3, h4, h5, h6⟩ := s2.own i m d q n
          refine ⟨a, ws, ds, h1, h2, h3, h4, h5, fun z => ?_⟩
          rcases z with z | z
          · exact h6 z
          · subst z
            obtain ⟨q1, q2⟩ := wipeD_get q
            rw [wipe_get q2] at h2
            exact nOw i ⟨m, d, q1, n, h2⟩
        · rcases h with h | h
          · exact s2.odom a h
          · subst h; rw [upd_same]; exact nofun
      refine ⟨fun i m H' => ∃ F' env' accD accV, m = xs.length - i ∧ i ≤ xs.length ∧ Ext O F1 H1 F' H' ∧ StOk X.K O' F' H' (wipe σ vs) env' ∧ H' Dl = some (.lst accV) ∧ RepL X.K F' H' accD accV ∧ ¬ F' Dl ∧
          (∀ i ∈ vs, ∀ x, env'[i]? ≠ some (some x)) ∧ dLoop vs g mc me (xs.drop i) accD env' = .ok acc env2,
        ⟨xs.length, F1, wipeD env1 vs, [], [], by simp, Nat.zero_le _, ED, stI, upd_same, RepL.nil, nF1, wipeD_none, by rw [List.drop_zero]; exact q2⟩, ?_⟩
      rintro i m H' ⟨F', env', accD, accV, rfl, hi', E', st', hDl, rl, nF', nv, hl⟩
      obtain ⟨w1, w2⟩ := wk F' H' (E'.mono fun _ z => z.elim) (st'.weak (O' := O) fun a h => .inl h).odom i
      cases hx : xs[i]? with
      | none =>
        left
        refine ⟨w2 hx, ?_⟩
        rw [List.drop_eq_nil_of_le (List.getElem?_eq_none_iff.mp hx)] at hl
        cases hl
        have sto := st'.weak (O' := O) fun a h => .inl h
        have sb := StOk.back st1 sto E' nv
        refine g0 F' H' (.ref Dl) (E1.trans E') sb ⟨Dl, accV, acc, rfl, rfl, hDl, rl, nF', nO, fun j ⟨m, d, h1, h2, h3⟩ => ?_⟩
        rcases backD_get h1 with ⟨q1, q2⟩ | ⟨q1, z, q2⟩
        · obtain ⟨a, ws, ds, _, k2, _, _, _, k6⟩ := st'.own j m d q2 h2
          rw [wipe_get q1, h3] at k2
          cases k2
          exact k6 (.inr rfl)
        · exact h2 z
      | some d =>
        right
        obtain ⟨go, yl⟩ := w1 d hx
        have hlt : i < xs.length := (List.getElem?_eq_some_iff.mp hx).1
        have hdrop : xs.drop i = d :: xs.drop (i + 1) := by
          rw [List.drop_eq_getElem_cons hlt]
          rw [List.getElem?_eq_getElem hlt] at hx
          rw [Option.some.inj hx]
        rw [hdrop] at hl
        unfold dLoop at hl
        refine ⟨go, fun H3 => ∃ F3 env3 accD accV, Ext O F1 H1 F3 H3 ∧ StOk X.K O' F3 H3 (wipe σ vs) env3 ∧ H3 Dl = some (.lst accV) ∧ RepL X.K F3 H3 accD accV ∧ ¬ F3 Dl ∧
            (∀ i ∈ vs, ∀ x, env3[i]? ≠ some (some x)) ∧ dLoop vs g mc me (xs.drop (i + 1)) accD env3 = .ok acc env2, ?_, fun x H2 hy => ?_⟩
        · rintro H3 ⟨F3, env3, aD, aV, E3, st3, h3, r3, n3, v3, l3⟩
          exact ⟨xs.length - (i + 1), by omega, F3, env3, aD, aV, rfl, hlt, E3, st3, h3, r3, n3, v3, l3⟩
        · obtain ⟨sm, rx⟩ := yl x H2 hy
          have E2 : Ext O' F' H' F' H2 := Ext.same sm st'.odom
          have st2 := st'.same sm
          cases q3 : g d env' with
          | none => rw [q3] at hl; cases hl
          | some env3 =>
            rw [q3] at hl
            simp only [] at hl
            refine ⟨O', F', env', d, env3, st2, rx, q3, fun σ2 s3 k3 => ?_⟩
            refine ⟨by rw [keeps_wipe k3, wipe_wipe], ?_⟩
            have hw2 : wipe σ2 vs = wipe σ vs := by rw [keeps_wipe k3, wipe_wipe]
            have hD2 : H2 Dl = some (.lst accV) := sm _ _ hDl
            have rl2 : RepL X.K F' H2 accD accV := repL_same sm rl
            refine ⟨O', F', env3, s3, ?_⟩
            cases q4 : mc env3 with
            | bad => rw [q4] at hl; cases hl
            | err x e => rw [q4] at hl; cases hl
            | ok b env4 =>
              rw [q4] at hl
              intro F4 H4 E4 s4
              have hD4 : H4 Dl = some (.lst accV) := (E4.out Dl (.inr rfl)).trans hD2
              have nF4 : ¬ F4 Dl := fun z => nF' (E4.outF Dl (.inr rfl) z)
              have EO : ∀ a, O a → O' a := fun a h => .inl h
              cases b with
              | false =>
                refine iteF ?_
                have s5 := s4.wiped vs
                rw [hw2] at s5
                exact ⟨F4, wipeD env4 vs, accD, accV, (E'.trans (E2.mono EO)).trans (E4.mono EO), s5, hD4, RepL.ext E4 accD accV rl2, nF4, wipeD_none, hl⟩
              | true =>
                refine iteT ?_
                refine ⟨O', F4, env4, s4, ?_⟩
                simp only [] at hl
                cases q5 : me env4 with
                | bad => rw [q5] at hl; cases hl
                | err x e => rw [q5] at hl; cases hl
                | ok r env5 =>
                  rw [q5] at hl
                  simp only [] at hl
                  intro F5 H5 v E5 s5 r5
                  split at hl
                  · rename_i hsz
                    obtain ⟨F6, E6, s6, r6⟩ := freeze s5 r5
                    have hD5 : H5 Dl = some (.lst accV) := (E5.out Dl (.inr rfl)).trans hD4
                    have nF6 : ¬ F6 Dl := fun z => nF4 (E5.outF Dl (.inr rfl) (E6.outF Dl (.inr rfl) z))
                    have rl6 : RepL X.K F6 H5 accD accV := RepL.ext (E4.trans (E5.trans E6)) accD accV rl2
                    have hlen : accV.length = accD.length := rl6.length
                    obtain ⟨s7, E7⟩ := s6.outw (ws := accV ++ [v]) (.inr rfl) nF6 hD5
                    have E7' := E7 O fun a h z => nO (z ▸ h)
                    have s8 := s7.wiped vs
                    rw [hw2] at s8
                    have rl8 : RepL X.K F6 (upd H5 Dl (.lst (accV ++ [v]))) (accD ++ [r.d]) (accV ++ [v]) := RepL.ext E7' _ _ (rl6.append (RepL.cons r6 RepL.nil))
                    refine ⟨accV, hD5, by rw [hlen]; exact hsz, F6, wipeD env5 vs, accD ++ [r.d], accV ++ [v], ?_, s8, upd_same, rl8, nF6, wipeD_none, hl⟩
                    exact (((E'.trans (E2.mono EO)).trans (E4.mono EO)).trans ((E5.trans E6).mono EO)).trans E7'
                  · cases hl
/-- the block's context -/
abbrev InBlk (X : Cx) (scope : Scope) (P : Cx → Prop) : Prop := ∀ (s : Shared) (H : Hp) (C : Addr) (cl : List (Str × Addr)) (fp : List Addr), P (X.blk s H scope (compEnvC scope cl C X.env) fp)
abbrev W0 : WX := fun _ _ _ _ => False
theorem e_comp {elt tg iter : Expr} {scope : Scope} {own : List (Str × Nat)} {vs : List Nat} {pos : Pos} {mi : DI} {g : DG} {me : DE} (hc : X.calm = true) (hN : X.N.Nodup) (ok : BlkOk X.N X.env.scope scope own) (hi : DIt X W tg iter mi)
    (hg : InBlk X scope fun Y => DTg Y (notIn vs) tg g) (he : InBlk X scope fun Y => DEv Y W0 elt me) (hs : ∀ x, foldedSetIterable iter X.env x = pure x := by intro _; rfl) (hvs : own.map (·.2) = vs := by rfl) :
    DEv X W (.ListComp elt [⟨tg, iter, [], 0⟩] scope pos) (dComp vs mi g dYes me) := by
  subst hvs
  obtain ⟨wi, p, s⟩ := hi
  refine ⟨_, pe_lc hc hN p ok (fun s H C cl fp => (hg s H C cl fp).pg) (tt := tOfT X W0 dYes) (fun s H C cl fp => ?_) (fun s H C cl fp => (he s H C cl fp).pe) hs, sem_comp s⟩
  exact ⟨fun pins s0 σ H' Q I ⟨O, F, env, st, g0⟩ => pts_nil.run pins s0 σ H' Q I (g0 F H' Ext.refl st)⟩
theorem e_compIf {elt tg iter cond : Expr} {scope : Scope} {own : List (Str × Nat)} {vs : List Nat} {pos : Pos} {mi : DI} {g : DG} {mc : DT} {me : DE} (hc : X.calm = true) (hN : X.N.Nodup) (ok : BlkOk X.N X.env.scope scope own) (hi : DIt X W tg iter mi)
    (hg : InBlk X scope fun Y => DTg Y (notIn vs) tg g) (ht : InBlk X scope fun Y => DTst Y W0 cond mc) (he : InBlk X scope fun Y => DEv Y W0 elt me) (hs : ∀ x, foldedSetIterable iter X.env x = pure x := by intro _; rfl) (hvs : own.map (·.2) = vs := by rfl) :
    DEv X W (.ListComp elt [⟨tg, iter, [cond], 0⟩] scope pos) (dComp vs mi g mc me) := by
  subst hvs
  obtain ⟨wi, p, s⟩ := hi
  exact ⟨_, pe_lc hc hN p ok (fun s H C cl fp => (hg s H C cl fp).pg) (fun s H C cl fp => pts_one (ht s H C cl fp).pt) (fun s H C cl fp => (he s H C cl fp).pe) hs, sem_comp s⟩
/-- name = [..] -/
theorem s_setComp (i : Nat) {y : Str} {py : Pos} {elt tg iter : Expr} {scope : Scope} {own : List (Str × Nat)} {vs : List Nat} {pos spos : Pos} {mi : DI} {g : DG} {me : DE} (hc : X.calm = true) (hN : X.N.Nodup) (ok : BlkOk X.N X.env.scope scope own) (hi : DIt X W tg iter mi)
    (hg : InBlk X scope fun Y => DTg Y (notIn vs) tg g) (he : InBlk X scope fun Y => DEv Y W0 elt me)
    (hsw : swapsWith (.ListComp elt [⟨tg, iter, [], 0⟩] scope pos) (some (.Name y py)) spos.line X.env = pure true)
    (hy : X.N[i]? = some y := by rfl) (hyl : X.env.scope.names.lookup y = some .local := by rfl) (hB : B i = false := by rfl) (hs : ∀ x, foldedSetIterable iter X.env x = pure x := by intro _; rfl) (hvs : own.map (·.2) = vs := by rfl) :
    DSt X W B (.Assign [.Name y py] (.ListComp elt [⟨tg, iter, [], 0⟩] scope pos) spos) (dSet i (dComp vs mi g dYes me)) := by
  subst hvs
  obtain ⟨wi, p, s⟩ := hi
  refine ⟨_, ps_setLc hc hN hy hyl hsw p ok (fun s H C cl fp => (hg s H C cl fp).pg) (tt := tOfT X W0 dYes) (fun s H C cl fp => ?_) (fun s H C cl fp => (he s H C cl fp).pe) hs, sem_set (sem_comp s) hB⟩
  exact ⟨fun pins s0 σ H' Q I ⟨O, F, env, st, g0⟩ => pts_nil.run pins s0 σ H' Q I (g0 F H' Ext.refl st)⟩
theorem s_setCompIf (i : Nat) {y : Str} {py : Pos} {elt tg iter cond : Expr} {scope : Scope} {own : List (Str × Nat)} {vs : List Nat} {pos spos : Pos} {mi : DI} {g : DG} {mc : DT} {me : DE} (hc : X.calm = true) (hN : X.N.Nodup) (ok : BlkOk X.N X.env.scope scope own) (hi : DIt X W tg iter mi)
    (hg : InBlk X scope fun Y => DTg Y (notIn vs) tg g) (ht : InBlk X scope fun Y => DTst Y W0 cond mc) (he : InBlk X scope fun Y => DEv Y W0 elt me)
    (hsw : swapsWith (.ListComp elt [⟨tg, iter, [cond], 0⟩] scope pos) (some (.Name y py)) spos.line X.env = pure true)
    (hy : X.N[i]? = some y := by rfl) (hyl : X.env.scope.names.lookup y = some .local := by rfl) (hB : B i = false := by rfl) (hs : ∀ x, foldedSetIterable iter X.env x = pure x := by intro _; rfl) (hvs : own.map (·.2) = vs := by rfl) :
    DSt X W B (.Assign [.Name y py] (.ListComp elt [⟨tg, iter, [cond], 0⟩] scope pos) spos) (dSet i (dComp vs mi g mc me)) := by
  subst hvs
  obtain ⟨wi, p, s⟩ := hi
  exact ⟨_, ps_setLc hc hN hy hyl hsw p ok (fun s H C cl fp => (hg s H C cl fp).pg) (fun s H C cl fp => pts_one (ht s H C cl fp).pt) (fun s H C cl fp => (he s H C cl fp).pe) hs, sem_set (sem_comp s) hB⟩
end
end DL
/-! DLG: the layer's promises where it is known besides that nothing is being written out (repr) around. -/
namespace DL
open PySem PySem.Spec PyProof.Rows L2

structure GRoom (k : Nat) (A : Around) : Prop where
  room : Room k A
  gd : A.guards = some []
theorem GRoom.mono {j k : Nat} {A : Around} (r : GRoom k A) (h : j ≤ k) : GRoom j A := ⟨r.room.mono h, r.gd⟩
theorem GRoom.deeper {k : Nat} {A : Around} (r : GRoom (k + 1) A) (env : Env) : GRoom k (A.deeper env) := ⟨r.room.deeper env, r.gd⟩

/-- a def of the text, with defaults or none -/
structure FunV (K : PySem.W.Frag) (x qual : Str) (st : Stmt) (f : Addr) (fd : FuncData) : Prop where
  ex : ∃ (oc : Value) (od : Option Addr) (dV kV doc pm : Value) (an : Option Addr) (cdv ct : Value) (osl : Array (Option Value)),
    fd = PySem.W.fnOf x qual (defArgs st) (defBody st) (defScope st) dV kV doc pm an cdv ct ∧ K.lookup f = some ⟨oc, od, .func fd, osl⟩ ∧ PySem.W.codeIn K cdv qual = true
  kp : PySem.W.keepIn K (.ref f) = true
theorem L2Fun.v {K : PySem.W.Frag} {x qual : Str} {st : Stmt} {f : Addr} {fd : FuncData} (F : Fun K x qual st f fd) : FunV K x qual st f fd := by
  obtain ⟨oc, od, kV, doc, pm, an, cdv, ct, osl, e, lk, hcd⟩ := F.ex
  exact ⟨⟨oc, od, .none, kV, doc, pm, an, cdv, ct, osl, e, lk, hcd⟩, F.kp⟩
theorem funv_mk {K : PySem.W.Frag} {x qual : Str} {st : Stmt} {f : Addr} {oc : Value} {od an : Option Addr} {osl : Array (Option Value)} {dV kV doc pm cdv ct : Value} (l : K.lookup f = some ⟨oc, od, .func (PySem.W.fnOf x qual (defArgs st) (defBody st) (defScope st) dV kV doc pm an cdv ct), osl⟩)
    (c : PySem.W.codeIn K cdv qual = true) (k : PySem.W.keepIn K (.ref f) = true) : FunV K x qual st f (PySem.W.fnOf x qual (defArgs st) (defBody st) (defScope st) dV kV doc pm an cdv ct) := ⟨⟨oc, od, dV, kV, doc, pm, an, cdv, ct, osl, rfl, l, c⟩, k⟩
theorem FunV.binds {K : PySem.W.Frag} {x qual : Str} {st : Stmt} {f : Addr} {fd : FuncData} {ps : List Str} (F : FunV K x qual st f fd)
    (h : ∀ (dV kV doc pm : Value) (an : Option Addr) (cdv ct : Value) (us : List Value), us.length = ps.length → bindArgs (PySem.W.fnOf x qual (defArgs st) (defBody st) (defScope st) dV kV doc pm an cdv ct) ⟨us, []⟩ = pure (ps.zip us)) : Binds K fd ps [] := by
  obtain ⟨oc, od, dV, kV, doc, pm, an, cdv, ct, osl, rfl, lk, hcd⟩ := F.ex
  exact .all (h dV kV doc pm an cdv ct)
/-- a def with defaults, all its arguments written -/
theorem bindsF {K : PySem.W.Frag} {x qual : Str} {st : Stmt} {T : Addr} {o : Obj} {its : Array Value} {n : Nat} {kV doc pm : Value} {an : Option Addr} {cdv ct : Value} {ps : List Str} (lT : K.lookup T = some o) (oT : o.data = .seq its n)
    (h : ∀ us : List Value, us.length = ps.length → ∃ k, bindArgs (PySem.W.fnOf x qual (defArgs st) (defBody st) (defScope st) (.ref T) kV doc pm an cdv ct) ⟨us, []⟩ = seqItems? (.ref T) >>= k ∧ k (some its) = pure (ps.zip us)) : Binds K (PySem.W.fnOf x qual (defArgs st) (defBody st) (defScope st) (.ref T) kV doc pm an cdv ct) ps [] := fun s us X hlen => by
  rw [List.append_nil] at hlen
  obtain ⟨k, e1, e2⟩ := h us hlen
  refine BindsTo.of_looks fun M => ?_
  rw [e1, List.append_nil]
  exact looks_items X lT oT (.of_pure e2)
/-- a def keeps a promise, called where nothing is being written out -/
structure GOk (P : Program) (w : World) (K : PySem.W.Frag) (mg : Str → Option Value) (base : Heap) (k : Nat) (f : Addr) (fd : FuncData) (ps : List Str) (sp : Sp) : Prop where
  len : ∀ vs H Q E, sp vs H Q E → vs.length = ps.length
  run : ∀ (A : Around) (outer : List Env) (s : Shared) (H : Hp) (args : Args) (us : List Value) (vs : List V) (Q : VK) (E : XK), GRoom k A → Env0 P w K mg base A outer s H → BindsTo s fd args (ps.zip us) → Vals vs us → sp vs H Q E →
    codeAny (model P w) A (.call (.ref f) args) (CR (L2.CX P w) outer P w H s Q E) s
section
variable {P : Program} {w : World} {K : PySem.W.Frag} {mg : Str → Option Value} {base : Heap}
theorem GOk.mono {j k : Nat} {f : Addr} {fd : FuncData} {ps : List Str} {sp : Sp} (F : GOk P w K mg base j f fd ps sp) (h : j ≤ k) : GOk P w K mg base k f fd ps sp :=
  ⟨F.len, fun A outer s H args us vs Q E hr => F.run A outer s H args us vs Q E (hr.mono h)⟩
/-- by the body -/
theorem GOk.of {x qual : Str} {st : Stmt} {f : Addr} {fd : FuncData} {N ps : List Str} {k : Nat} {sp : Sp} (Fn : FunV K x qual st f fd) (S : FnScope N ps (defScope st)) (len : ∀ vs H Q E, sp vs H Q E → vs.length = ps.length)
    (hbody : ∀ (cdv : Value) (A : Around) (outer : List Env) (s : Shared) (H : Hp) (vs : List V) (Q : VK) (E : XK), GRoom k (A.deeper (envOfC qual (defScope st) s.heap.objs.size f cdv)) → sp vs H Q E →
      ∃ t, PSs (cxOf (L2.CX P w) P w K mg base N qual (defScope st) f cdv A outer s H E) (defBody st) t ∧ t { nx := fun _ H' => Q .non H', rt := Q } (L2.start N vs) H) : GOk P w K mg base (k + 1) f fd ps sp := by
  obtain ⟨oc, od, dV, kV, doc, pm, an, cdv, ct, osl, rfl, lk, hcd⟩ := Fn.ex
  refine ⟨len, fun A outer s H args us vs Q E hr e0 hb r hsp => ?_⟩
  have keep : ∀ b o, base.get? b = some o → s.heap.get? b = some o := fun b o e => (e0.bs b o e).1
  have KX : K.In s.heap := e0.mod.kin.keeps keep
  refine codeAny_call_function hr.room.depth (KX _ _ lk) rfl S.co S.gen rfl (PySem.W.codeRec_of KX hcd) (hb _ _ _ _ ?_)
  refine wpAny_newFunctionEnv_cells S.kind (fun ⟨n, v⟩ hy => ?_) fun env he s1 x => ?_
  · have hn := S.par n (List.of_mem_zip hy).1
    exact hn.imp id fun q => ⟨q, PySem.W.cellsFrom_some _ _ _ (.inl q)⟩
  · subst he
    refine ⟨(e0.mod.nolimit.keeps keep).keeps x.toInCall.keep, codeAny_func ?_⟩
    obtain ⟨t, ht, hq⟩ := hbody cdv A outer s H vs Q E (hr.deeper _) hsp
    have I := inv_start (CX := L2.CX P w) (E := E) S hr.room.hd e0 (len _ _ _ _ hsp) r x
    refine wpAny_mono (ht.run [] s1 (L2.start N vs) H _ I hq) (fun fl s' hs => ?_) fun e s' hs => hs
    cases fl with
    | ret u => exact let ⟨v, _, H', J, rv, q⟩ := hs; ⟨v, H', J.os, J.bare, J.base, J.hok, rv, q⟩
    | next => exact let ⟨_, H', J, q⟩ := hs; ⟨V.non, H', J.os, J.bare, J.base, J.hok, rfl, q⟩
    | brk => exact let ⟨_, _, _, q⟩ := hs; q.elim
    | cont => exact let ⟨_, _, _, q⟩ := hs; q.elim
end

section
variable {X : Cx} {W : WX}
/-- the callee runs; what it lets out is taken as W says -/
theorem g_run {k : Nat} {f : Addr} {fd : FuncData} {ps : List Str} {sp : Sp} {pins : List (Addr × Obj)} {σ : L2.St} {H : Hp} {s : Shared} {Q : VK} {us : List Value} {vs : List V} {args : Args} (F : GOk X.prog X.w X.K X.mg X.base k f fd ps sp) (hr : GRoom k X.A) (tk : Takes X W)
    (I : L2.Inv X pins σ H s) (hb : BindsTo s fd args (ps.zip us)) (r : Vals vs us) (h : sp vs H Q (WE W σ)) : codeAny (model X.prog X.w) X.A (.call (.ref f) args) (fun res s' => match res with
      | .ok (.ret u) => EP X pins σ Q u s'
      | .ok _ => False
      | .error e => X.xe e s') s := by
  refine codeAny_mono (F.run X.A X.stack s H args us vs Q (WE W σ) hr I.env0 hb r h) fun res s' hq => ?_
  match res, hq with
  | .error e, hq => exact passAt tk σ pins H s e s' I hq
  | .ok (.ret u), hq => exact I.after hq
end

/-! ### the law's own call -/

section
open Classical in
/-- the abstract heap at the law's entry: the script, where the module does not hold it -/
noncomputable def lawH (K : PySem.W.Frag) (a : Addr) (ob : Obj) (ns : List Int) : Hp := fun b => if b = a ∧ K.lookup a = none then some (.frz ob (.lst (ns.map V.int))) else none
theorem lawH_some {K : PySem.W.Frag} {a b : Addr} {ob : Obj} {ns : List Int} {u : HO} (h : lawH K a ob ns b = some u) : b = a ∧ K.lookup a = none ∧ u = .frz ob (.lst (ns.map V.int)) := by
  unfold lawH at h
  split at h
  · rename_i z
    cases h
    exact ⟨z.1, z.2, rfl⟩
  · cases h
theorem g_law {P : Program} {w : World} {K : PySem.W.Frag} {mg mb : Str → Option Value} {k : Nat} {fa a : Addr} {fd : FuncData} {x : Str} {sp : Sp} {s₁ : Shared} {vs : List Value} {ns : List Int}
    (KX : K.In s₁.heap) (hns : s₁.heap.Ns mainGlobals mg) (hb : s₁.heap.Ns builtinsNs mb) (hbb : ∀ x : Str, x ≠ "__name__" → mb x = bootBuiltins x) (hlim : s₁.heap.NoLimit) (hg : s₁.gens = #[])
    (ha : s₁.heap.get? a = some { cls := .type "list", data := .seq vs.toArray }) (hi : IntsAre vs ns) (hl : ns.length ≤ sizeLine) (hr : Room k callerA)
    (F : ∀ base : Heap, K.In base → base.Ns mainGlobals mg → GOk P w K mg base k fa fd [x] sp) (hbind : ∀ (s : Shared) (u : Value), BindsTo s fd ⟨[u], []⟩ [(x, u)])
    (hsp : ∀ H : Hp, SqF K H a (ns.map V.int) → sp [.ref a] H (fun v _ => v = .bl true) fun _ _ _ => False) :
    codeAny (model P w) callerA (.call (.ref fa) ⟨[.ref a], []⟩) (fun r s' => r = .ok (.ret (.bool true)) ∧ OldK s₁.heap s'.heap ∧ s'.os = s₁.os ∧ AllBare s'.gens) s₁ := by
  have rv := vals_ints hi
  have lenV := hi.length
  let ob : Obj := { cls := .type "list", data := .seq vs.toArray }
  let H := lawH K a ob ns
  have hS : SqF K H a (ns.map V.int) := by
    cases q : K.lookup a with
    | none => exact .inl ⟨ob, if_pos ⟨rfl, q⟩⟩
    | some o =>
      have e := KX a o q
      rw [ha] at e
      cases e
      exact .inr ⟨_, vs.toArray, _, q, rfl, rfl, rfl, by rw [List.size_toArray, lenV]; exact hl, by simpa using rv⟩
  have hok : HOk P w H s₁.heap := fun b u e => by
    obtain ⟨rfl, _, rfl⟩ := lawH_some e
    exact ⟨ha, by rw [List.length_map]; exact hl, vs, _, rv, ha⟩
  -- what isn't the script's list is not tracked
  have free : ∀ {b : Addr} {o : Obj}, s₁.heap.get? b = some o → (∀ its n, o.data ≠ .seq its n) → H b = none := fun {b o} e d => by
    cases q : H b with
    | none => rfl
    | some u =>
      obtain ⟨rfl, _, _⟩ := lawH_some q
      rw [ha] at e
      cases e
      exact absurd rfl (d _ _)
  have ns' : ∀ {b : Addr} {m : Str → Option Value}, s₁.heap.Ns b m → (hidT s₁.heap H).Ns b m := fun {b m} ⟨o, es, ep, e, d, r⟩ => ⟨o, es, ep, hidT_get e (free e fun _ _ z => by rw [d] at z; cases z), d, r⟩
  have kin : K.In (hidT s₁.heap H) := fun b o e => hidT_get (KX b o e) (by
    cases q : H b with
    | none => rfl
    | some u =>
      obtain ⟨rfl, z, _⟩ := lawH_some q
      rw [z] at e
      cases e)
  obtain ⟨mc, l1, l2⟩ := hlim
  have e0 : Env0 P w K mg (hidT s₁.heap H) callerA [] s₁ H := ⟨rfl, ⟨kin, ns' hns, ⟨mb, ns' hb, hbb⟩, ⟨mc, ns' l1, l2⟩⟩, fun b o e => of_hidT e, Nat.le_of_eq (hidT_size _ _), trivial, fun b hb => (List.not_mem_nil hb).elim, hok, .of_eq hg⟩
  refine codeAny_mono ((F _ kin (ns' hns)).run callerA [] s₁ H ⟨[.ref a], []⟩ [.ref a] [.ref a] _ _ ⟨hr, rfl⟩ e0 (hbind s₁ (.ref a)) (.cons rfl .nil) (hsp H hS)) fun r s' h => ?_
  match r, h with
  | .error e, h =>
    obtain ⟨_, _, _, _, _, _, _, _, _, _, _, _, z⟩ := h
    exact z.elim
  | .ok (.ret u), h =>
    obtain ⟨v, H', os, bare, un, hok', r', q⟩ := h
    have q' : v = .bl true := q
    subst q'
    obtain rfl : u = Value.bool true := r'
    refine ⟨rfl, OldK.of_keep fun b o e => ?_, os, bare⟩
    cases q : H b with
    | none => exact un.keep b o e q List.not_mem_nil List.not_mem_nil
    | some u =>
      obtain ⟨rfl, z, rfl⟩ := lawH_some q
      obtain ⟨e2, _⟩ := hok' b _ (un.frzs b ob _ q)
      rw [ha] at e
      cases e
      exact e2
/-- the goal that k_head leaves, from the law's promise -/
theorem g_walk {l : PySem.W.OpenLaw} {n k : Nat} {q : Program} {loose : List Str} {XP : (Str → Option Value) → Heap → Prop} {YP : World → Heap → Prop} {d : DefRec} {K : Params → PySem.W.Frag} {sp : PySem.W.Frag → (Str → Option Value) → Sp} {x : Str}
    (hn : l.most = some n) (hn2 : n ≤ sizeLine) (hdf : d.params.defaults = []) (hr : Room k callerA)
    (hY : ∀ (w : World) (h : Heap), YP w h → (K w.params).In h)
    (F : ∀ (w : World) (mg : Str → Option Value) (fa : Addr) (h : Heap), (K w.params).In h → h.Ns mainGlobals mg → mg d.name = some (.ref fa) →
      ∃ fd : FuncData, (∀ (s : Shared) (u : Value), BindsTo s fd ⟨[u], []⟩ [(x, u)]) ∧
        ∀ base : Heap, (K w.params).In base → base.Ns mainGlobals mg → GOk l.prog w (K w.params) mg base k fa fd [x] (sp (K w.params) mg))
    (hsp : ∀ (K : PySem.W.Frag) (mg : Str → Option Value) (H : Hp) (a : Addr) (ns : List Int), ns.length ≤ n → SqF K H a (ns.map V.int) → sp K mg [.ref a] H (fun v _ => v = .bl true) fun _ _ _ => False) :
    PySem.W.WalkO q loose XP YP l.row.toRowW d [] (fun f vs => PySem.call f vs) := by
  refine Att.attach_call hn hdf fun w s₀ s₁ mg mb fa o pm cd doc a vs ns G Y ho hd hcd hmg hobj hints hlen hg => ?_
  have KX := hY w _ Y
  obtain ⟨fd, hb, hF⟩ := F w mg fa _ KX G.T.g hmg
  exact g_law KX G.T.g G.T.b G.T.builtins G.T.nolimit hg hobj hints (Nat.le_trans hlen hn2) hr hF hb fun H hS => hsp _ _ H a ns hlen hS
end
end DL
/-! DL6: defs and their calls. -/
namespace DL
open PySem PySem.Spec PyProof.Rows L2

/-! ### what a def is worth: br: its first argument is a list that it may change, and hands back changed -/
inductive FR where
  | ok (r : Ent) (o : D) | err (x : Xc) (o : D) | bad
abbrev DFn := List Ent → FR
def outEnv (br : Bool) (o : D) : DEnv := if br = true then [some ⟨.own, o⟩] else []
def outSt (br : Bool) (vs : List V) : L2.St := if br = true then (vs.take 1).map some else []
def FPost (K : PySem.W.Frag) (mg : Str → Option Value) (br : Bool) (O F : Fz) (H : Hp) (vs : List V) (Q : VK) (E : XK) : FR → Prop
  | .ok r o => ∀ F' H' v, Ext O F H F' H' → StOk K O F' H' (outSt br vs) (outEnv br o) → REnt K O F' H' (outSt br vs) (outEnv br o) r v → Q v H'
  | .err x o => ∀ F' H' cls d, Ext O F H F' H' → StOk K O F' H' (outSt br vs) (outEnv br o) → ExcRep mg F' H' x cls d → E cls d H'
  | .bad => False
/-- the promise -/
def spD (K : PySem.W.Frag) (mg : Str → Option Value) (br : Bool) (n : Nat) (f : DFn) : Sp := fun vs H Q E => ∃ O F args, args.length = n ∧ StOk K O F H (vs.map some) (args.map some) ∧ FPost K mg br O F H vs Q E (f args)
def outOf (br : Bool) (env : DEnv) : Option D := if br = true then (match (env[0]? : Option (Option Ent)) with
  | some (some (Ent.mk Md.own d)) => some d
  | _ => none) else some .non
def dDef (br : Bool) (n ns : Nat) (body : DS) : DFn := fun args => if args.length = n then (match body (args.map some ++ List.replicate (ns - n) none) with
  | .ok (.ret e) env => (match outOf br env with
    | some o => .ok e o
    | none => .bad)
  | .ok .nx env => (match outOf br env with
    | some o => .ok ⟨.shr, .non⟩ o
    | none => .bad)
  | .err x env => (match outOf br env with
    | some o => .err x o
    | none => .bad)
  | _ => .bad) else .bad
def BDef (br : Bool) : Bs := fun i => br && i == 0
abbrev WDef (E : XK) : WX := fun cls d _ H => E cls d H
section
variable {K : PySem.W.Frag} {O F F' : Fz} {H H' : Hp} {σ : L2.St} {env : DEnv}
theorem stOk_nil (s : StOk K O F H σ env) : StOk K O F H [] [] :=
  ⟨rfl, fun i d q => (by simp at q), fun i m d q _ => (by simp at q), fun i j a ⟨m, d, q, _⟩ => (by simp at q), s.fdom, s.odom⟩
/-- slots without a value beside -/
theorem stOk_start (s : StOk K O F H σ env) (n : Nat) : StOk K O F H (σ ++ List.replicate n none) (env ++ List.replicate n none) := by
  have g : ∀ {i : Nat} {x : Ent}, (env ++ List.replicate n none)[i]? = some (some x) → env[i]? = some (some x) := fun {i x} q => by
    by_cases h : i < env.length
    · rw [List.getElem?_append_left h] at q; exact q
    · rw [List.getElem?_append_right (by omega)] at q
      rw [List.getElem?_replicate] at q
      split at q <;> cases q
  have l : ∀ {i : Nat} {x : Ent} (_ : env[i]? = some (some x)), (σ ++ List.replicate n none)[i]? = σ[i]? := fun {i x} q => by
    have : i < env.length := (List.getElem?_eq_some_iff.mp q).1
    exact List.getElem?_append_left (by rw [s.len]; exact this)
  refine ⟨by rw [List.length_append, List.length_append, s.len, List.length_replicate, List.length_replicate], fun i d q => ?_, fun i m d q hm => ?_, fun i j a ⟨m, d, h1, h2, h3⟩ ⟨m', d', k1, k2, k3⟩ => ?_, s.fdom, s.odom⟩
  · obtain ⟨v, h1, h2⟩ := s.shr i d (g q)
    exact ⟨v, by rw [l (g q)]; exact h1, h2⟩
  · obtain ⟨a, vs, ds, h1, h2, h3⟩ := s.own i m d (g q) hm
    exact ⟨a, vs, ds, h1, by rw [l (g q)]; exact h2, h3⟩
  · exact s.inj i j a ⟨m, d, g h1, h2, by rw [← l (g h1)]; exact h3⟩ ⟨m', d', g k1, k2, by rw [← l (g k1)]; exact k3⟩
/-- at the end: what the first name owns -/
theorem stOk_out {br : Bool} {vs : List V} {o : D} {σ0 : L2.St} (s : StOk K O F H σ env) (k : Keeps (BDef br) σ0 σ) (h0 : br = true → σ0[0]? = (vs.map some)[0]?) (ho : outOf br env = some o) : StOk K O F H (outSt br vs) (outEnv br o) := by
  cases br with
  | false => exact stOk_nil s
  | true =>
    simp only [outOf, if_true] at ho
    split at ho
    · rename_i d hd
      cases ho
      obtain ⟨a, ws, ds, h1, h2, h3, h4, h5, h6⟩ := s.own 0 .own o hd nofun
      have hv : (vs.map some)[0]? = some (some (V.ref a)) := by rw [← h0 rfl, ← k.2 0 rfl]; exact h2
      cases vs with
      | nil => cases hv
      | cons v vs =>
        have hv' : v = V.ref a := by simpa using hv
        subst hv'
        refine ⟨rfl, fun i d q => ?_, fun i m d q hm => ?_, fun i j b ⟨m, d, q1, _, _⟩ ⟨m', d', q2, _, _⟩ => ?_, s.fdom, s.odom⟩
        · cases i with
          | zero => simp [outEnv] at q
          | succ i => simp [outEnv] at q
        · cases i with
          | zero =>
            simp [outEnv] at q
            obtain ⟨rfl, rfl⟩ := q
            exact ⟨a, ws, ds, h1, rfl, h3, h4, h5, h6⟩
          | succ i => simp [outEnv] at q
        · have z : ∀ {i : Nat} {x : Ent}, (outEnv true o)[i]? = some (some x) → i = 0 := fun {i x} q => by
            cases i with
            | zero => rfl
            | succ i => simp [outEnv] at q
          rw [z q1, z q2]
    · cases ho
theorem rent_out {br : Bool} {vs : List V} {o : D} {σ0 : L2.St} {e : Ent} {v : V} (s : StOk K O F H σ env) (k : Keeps (BDef br) σ0 σ) (h0 : br = true → σ0[0]? = (vs.map some)[0]?) (ho : outOf br env = some o) (r : REnt K O F H σ env e v) : REnt K O F H (outSt br vs) (outEnv br o) e v := by
  have own : (∃ a vs ds, e.d = D.lst ds ∧ v = .ref a ∧ H a = some (.lst vs) ∧ RepL K F H ds vs ∧ ¬ F a ∧ ¬ O a ∧ ∀ i, ¬ OwnAt env σ i a) → ∃ a ws ds, e.d = D.lst ds ∧ v = .ref a ∧ H a = some (.lst ws) ∧ RepL K F H ds ws ∧ ¬ F a ∧ ¬ O a ∧ ∀ i, ¬ OwnAt (outEnv br o) (outSt br vs) i a := fun ⟨a, ws, ds, e1, e2, h, rl, nF, nO, nW⟩ => by
    refine ⟨a, ws, ds, e1, e2, h, rl, nF, nO, fun i ⟨m, d, q1, q2, q3⟩ => ?_⟩
    cases br with
    | false => simp [outEnv] at q1
    | true =>
      cases i with
      | succ i => simp [outEnv] at q1
      | zero =>
        simp only [outOf, if_true] at ho
        split at ho
        · rename_i d' hd
          cases ho
          refine nW 0 ⟨.own, o, hd, nofun, ?_⟩
          rw [k.2 0 rfl, h0 rfl]
          cases vs with
          | nil => simp [outSt] at q3
          | cons v vs => simpa [outSt] using q3
        · cases ho
  obtain ⟨m, d⟩ := e
  cases m with
  | shr => exact r
  | own => exact own r
  | bor => exact own r
end

/-- THE RULE for a def: its body's worth -/
theorem def_ok {P : Program} {w : World} {K : PySem.W.Frag} {mg : Str → Option Value} {base : Heap} {name qual : Str} {st : Stmt} {f : Addr} {fd : FuncData} {N ps : List Str} {k : Nat} {br : Bool} {m : DS} (Fn : FunV K name qual st f fd) (S : FnScope N ps (defScope st)) (hbr : br = true → 0 < ps.length)
    (hbody : ∀ (cdv : Value) (A : Around) (outer : List Env) (s : Shared) (H : Hp) (E : XK), GRoom k (A.deeper (envOfC qual (defScope st) s.heap.objs.size f cdv)) →
      DSs (cxOf (L2.CX P w) P w K mg base N qual (defScope st) f cdv A outer s H E) (WDef E) (BDef br) (defBody st) m) :
    GOk P w K mg base (k + 1) f fd ps (spD K mg br ps.length (dDef br ps.length N.length m)) := by
  refine GOk.of Fn S (fun vs H Q E h => ?_) fun cdv A outer s H vs Q E hr h => ?_
  · obtain ⟨O, F, args, hl, st, _⟩ := h
    have := st.len
    rw [List.length_map, List.length_map, hl] at this
    exact this
  · obtain ⟨O, F, args, hl, st, post⟩ := h
    obtain ⟨t, p, sem⟩ := hbody cdv A outer s H E hr
    refine ⟨t, p, ?_⟩
    have lv : vs.length = ps.length := by
      have := st.len
      rw [List.length_map, List.length_map, hl] at this
      exact this
    have st0 := stOk_start st (N.length - ps.length)
    have e0 : L2.start N vs = vs.map some ++ List.replicate (N.length - ps.length) none := by unfold L2.start; rw [lv]
    rw [e0]
    have h0 : br = true → (vs.map some ++ List.replicate (N.length - ps.length) (none : Option V))[0]? = (vs.map some)[0]? := fun z => by
      cases vs with
      | nil =>
        have := hbr z
        rw [← lv] at this
        exact absurd this (Nat.lt_irrefl 0)
      | cons v vs => rfl
    refine sem O F _ H _ _ st0 ?_
    unfold dDef at post
    rw [if_pos hl] at post
    cases q : m (args.map some ++ List.replicate (N.length - ps.length) none) with
    | bad => rw [q] at post; exact post.elim
    | err x env =>
      rw [q] at post
      simp only [] at post
      cases ho : outOf br env with
      | none => rw [ho] at post; exact post.elim
      | some o =>
        rw [ho] at post
        exact fun F' H' σ' cls d E' s' k' r => post F' H' cls d E' (stOk_out s' k' h0 ho) r
    | ok fl env =>
      rw [q] at post
      cases fl with
      | brk => exact post.elim
      | cnt => exact post.elim
      | nx =>
        simp only [] at post
        cases ho : outOf br env with
        | none => rw [ho] at post; exact post.elim
        | some o =>
          rw [ho] at post
          exact fun F' H' σ' E' s' k' => post F' H' .non E' (stOk_out s' k' h0 ho) rfl
      | ret e =>
        simp only [] at post
        cases ho : outOf br env with
        | none => rw [ho] at post; exact post.elim
        | some o =>
          rw [ho] at post
          exact fun F' H' σ' v E' s' k' r => post F' H' v E' (stOk_out s' k' h0 ho) (rent_out s' k' h0 ho r)

theorem lenO : ∀ {os : List Opd} {avs : List AV} {env env1 : DEnv}, evOs os env = .ok avs env1 → avs.length = os.length
  | [], _, _, _, h => by cases h; rfl
  | .v m :: os, avs, env, env1, h => by
    unfold evOs at h
    cases q : m env with
    | bad => rw [q] at h; cases h
    | err x e => rw [q] at h; cases h
    | ok r e1 =>
      rw [q] at h
      simp only [R.bind] at h
      cases q2 : evOs os e1 with
      | bad => rw [q2] at h; cases h
      | err x e => rw [q2] at h; cases h
      | ok as e2 =>
        rw [q2] at h
        cases h
        rw [List.length_cons, List.length_cons, lenO q2]
  | .s i :: os, avs, env, env1, h => by
    unfold evOs at h
    split at h
    · cases q2 : evOs os env with
      | bad => rw [q2] at h; cases h
      | err x e => rw [q2] at h; cases h
      | ok as e2 =>
        rw [q2] at h
        cases h
        rw [List.length_cons, List.length_cons, lenO q2]
    · cases h
theorem lenG : ∀ {avs : List AV} {env : DEnv} {ds : List D}, getAVs env avs = some ds → ds.length = avs.length
  | [], _, _, h => by cases h; rfl
  | a :: as, env, ds, h => by
    unfold getAVs at h
    cases q : getAV env a with
    | none => rw [q] at h; cases h
    | some d =>
      cases q2 : getAVs env as with
      | none => rw [q, q2] at h; cases h
      | some es =>
        rw [q, q2] at h
        cases h
        rw [List.length_cons, List.length_cons, lenG q2]
theorem lenAV {os : List Opd} {avs : List AV} {env env1 : DEnv} {ds : List D} (h : evOs os env = .ok avs env1) (g : getAVs env1 avs = some ds) : ds.length = os.length := (lenG g).trans (lenO h)
/-! ### calls -/
@[simp] def shrs (ds : List D) : List Ent := ds.map fun d => ⟨.shr, d⟩
def afterC (env : DEnv) : FR → R Ent
  | .ok r _ => .ok r env
  | .err x _ => .err x env
  | .bad => .bad
def dCall (f : DFn) (os : List Opd) : DE := fun env => (evOs os env).bind fun avs env1 => match getAVs env1 avs with
  | some ds => afterC env1 (f (shrs ds))
  | none => .bad
def afterR (env : DEnv) (i : Nat) : FR → R Ent
  | .ok r o => .ok r (env.set i (some ⟨.own, o⟩))
  | .err x o => .err x (env.set i (some ⟨.own, o⟩))
  | .bad => .bad
/-- the first argument is the list that the i-th name owns: it comes back changed -/
def dCallR (f : DFn) (i : Nat) (os : List Opd) : DE := fun env => match (env[i]? : Option (Option Ent)) with
  | some (some (Ent.mk Md.own _)) => (evOs os env).bind fun avs env1 => match getAVs env1 avs, (env1[i]? : Option (Option Ent)) with
    | some ds, some (some (Ent.mk Md.own d)) => afterR env1 i (f (⟨.own, d⟩ :: shrs ds))
    | _, _ => .bad
  | _ => .bad
/-- what a caller's names own, but the i-th -/
def Oc (O : Fz) (env : DEnv) (σ : L2.St) (p : Nat → Prop) : Fz := fun a => O a ∨ ∃ j, p j ∧ OwnAt env σ j a
section
variable {K : PySem.W.Frag} {O F F' : Fz} {H H' : Hp} {σ : L2.St} {env : DEnv} {p : Nat → Prop}
theorem oc_dom (s : StOk K O F H σ env) : ∀ a, Oc O env σ p a → H a ≠ none := fun a h => by
  rcases h with h | ⟨j, _, m, d, q1, q2, q3⟩
  · exact s.odom a h
  · obtain ⟨b, vs, ds, _, e2, e3, _⟩ := s.own j m d q1 q2
    rw [q3] at e2; cases e2
    rw [e3]; exact nofun
theorem oc_nF (s : StOk K O F H σ env) {a : Addr} (h : ∃ j, p j ∧ OwnAt env σ j a) : ¬ F a := by
  obtain ⟨j, _, m, d, q1, q2, q3⟩ := h
  obtain ⟨b, vs, ds, _, e2, _, _, e5, _⟩ := s.own j m d q1 q2
  rw [q3] at e2; cases e2
  exact e5
theorem shrs_get {ds : List D} {i : Nat} {e : Ent} (h : ((shrs ds).map some)[i]? = some (some e)) : ∃ d, ds[i]? = some d ∧ e = ⟨.shr, d⟩ := by
  unfold shrs at h
  rw [List.map_map, List.getElem?_map] at h
  cases q : ds[i]? with
  | none => rw [q] at h; cases h
  | some d => rw [q] at h; cases h; exact ⟨d, rfl, rfl⟩
/-- the callee's entry -/
theorem stOk_args (s : StOk K O F H σ env) {ds : List D} {vs : List V} (r : RepL K F H ds vs) : StOk K (Oc O env σ p) F H (vs.map some) ((shrs ds).map some) := by
  refine ⟨by simp [shrs, r.length], fun i d q => ?_, fun i m d q hm => ?_, fun i j a ⟨m, d, q, hm, _⟩ => ?_, s.fdom, oc_dom s⟩
  · obtain ⟨d', h1, h2⟩ := shrs_get q
    cases h2
    obtain ⟨v, h3, h4⟩ := r.get h1
    exact ⟨v, by rw [List.getElem?_map, h3]; rfl, h4⟩
  · obtain ⟨d', h1, h2⟩ := shrs_get q
    cases h2
    exact absurd rfl hm
  · obtain ⟨d', h1, h2⟩ := shrs_get q
    cases h2
    exact absurd rfl hm
/-- the caller's names behind -/
theorem stOk_over (s : StOk K O F H σ env) (e : Ext (Oc O env σ p) F H F' H') (fd : ∀ a, F' a → H' a ≠ none) (hp : ∀ j, ¬ p j → ∀ x, env[j]? ≠ some (some x)) : StOk K O F' H' σ env := by
  refine ⟨s.len, fun i d q => let ⟨v, h1, h2⟩ := s.shr i d q; ⟨v, h1, Rep.ext e d v h2⟩, fun i m d q hm => ?_, s.inj, fd, fun a h => ?_⟩
  · obtain ⟨a, vs, ds, h1, h2, h3, h4, h5, h6⟩ := s.own i m d q hm
    have hpi : p i := Classical.byContradiction fun z => hp i z _ q
    have oa : Oc O env σ p a := .inr ⟨i, hpi, m, d, q, hm, h2⟩
    exact ⟨a, vs, ds, h1, h2, by rw [e.out a oa]; exact h3, RepL.ext e ds vs h4, fun z => h5 (e.outF a oa z), h6⟩
  · rw [e.out a (.inl h)]; exact s.odom a h
theorem oc_sub {a : Addr} (h : O a) : Oc O env σ p a := .inl h
end
section
variable {X : Cx} {W : WX} {B : Bs}
theorem call_core0 {f : DFn} {n : Nat} {O F : Fz} {H : Hp} {σ : L2.St} {env : DEnv} {ds : List D} {vs : List V} {Q : VK} (s : StOk X.K O F H σ env) (r : RepL X.K F H ds vs) (hn : ds.length = n) (g : EGoal X W O F σ H Q (afterC env (f (shrs ds)))) :
    spD X.K X.mg false n f vs H Q (WE W σ) := by
  refine ⟨Oc O env σ (fun _ => True), F, shrs ds, by simp [shrs, hn], stOk_args s r, ?_⟩
  have back : ∀ {F' H'}, Ext (Oc O env σ fun _ => True) F H F' H' → StOk X.K (Oc O env σ fun _ => True) F' H' [] [] → Ext O F H F' H' ∧ StOk X.K O F' H' σ env := fun {F' H'} e st =>
    ⟨e.mono fun a h => oc_sub h, stOk_over s e st.fdom fun j z => absurd trivial z⟩
  cases q : f (shrs ds) with
  | bad => rw [q] at g; exact g.elim
  | err x o =>
    rw [q] at g
    intro F' H' cls d e st x'
    obtain ⟨e', st'⟩ := back e st
    exact g F' H' cls d e' st' x'
  | ok r o =>
    rw [q] at g
    intro F' H' v e st rr
    obtain ⟨e', st'⟩ := back e st
    refine g F' H' v e' st' ?_
    have own : (∃ a vs ds, r.d = D.lst ds ∧ v = .ref a ∧ H' a = some (.lst vs) ∧ RepL X.K F' H' ds vs ∧ ¬ F' a ∧ ¬ Oc O env σ (fun _ => True) a ∧ ∀ i, ¬ OwnAt [] [] i a) →
        ∃ a vs ds, r.d = D.lst ds ∧ v = .ref a ∧ H' a = some (.lst vs) ∧ RepL X.K F' H' ds vs ∧ ¬ F' a ∧ ¬ O a ∧ ∀ i, ¬ OwnAt env σ i a := fun ⟨a, ws, es, h1, h2, h3, h4, h5, h6, _⟩ =>
      ⟨a, ws, es, h1, h2, h3, h4, h5, fun z => h6 (.inl z), fun i z => h6 (.inr ⟨i, trivial, z⟩)⟩
    obtain ⟨m, d⟩ := r
    cases m with
    | shr => exact rr
    | own => exact own rr
    | bor => exact own rr
def tCallG (sp : Sp) (W : WX) (t : TA) : TE := fun σ H Q => t σ H fun vs H1 => sp vs H1 Q (WE W σ)
theorem g_call {k : Nat} {f : Addr} {fd : FuncData} {ps : List Str} {sp : Sp} {x : Str} {e : Expr} {es : List Expr} {t : TA} {p pos : Pos} (F : GOk X.prog X.w X.K X.mg X.base k f fd ps sp) (hr : GRoom k X.A) (hg : Gl X x) (hm : X.mg x = some (.ref f)) (hk : PySem.W.keepIn X.K (.ref f) = true) (hb : Binds X.K fd ps []) (tk : Takes X W)
    (ha : PA X (e :: es) t) (hdb : (x == ("__debug__" : Str)) = false) (he : starEach (e :: es) X.env = (false, eval e X.env) :: starEach es X.env) (hpl : (backTo pos (starEach es X.env)).any (·.1) = false) :
    PE X (.Call (.Name x p) (e :: es) [] pos) (tCallG sp W t) := ⟨fun pins s σ H Q I h => by
  refine wpAny_Call_Name_kw (ld_glob I hg hm ?_ hdb)
  refine PySem.W.callWith_K (h₀ := X.base) I.ok.mod.kin hk (thn (ha.run pos pins s σ H _ I h) fun us s1 ⟨vs, H1, I1, r, q⟩ => ⟨I1.kIn, ?_⟩) he hpl
  have b := hb s1 us I1.kIn (by rw [List.append_nil, ← r.length]; exact F.len _ _ _ _ q)
  rw [List.append_nil] at b
  refine wpAny_call (codeAny_mono (g_run F hr tk I1 b r q) fun res s' hq => ?_)
  match res, hq with
  | .error e, hq => exact hq
  | .ok (.ret u), hq => exact hq⟩
/-- f(a, ..) -/
theorem e_call {k n : Nat} {f : Addr} {fd : FuncData} {ps : List Str} {fn : DFn} {x : Str} {e : Expr} {es : List Expr} {os : List Opd} {p pos : Pos} (F : GOk X.prog X.w X.K X.mg X.base k f fd ps (spD X.K X.mg false n fn)) (hr : GRoom k X.A) (hm : X.mg x = some (.ref f))
    (hk : PySem.W.keepIn X.K (.ref f) = true) (hb : Binds X.K fd ps []) (tk : Takes X W) (ha : DAs X W (e :: es) os) (hg : Gl X x := by rfl) (hv : allV os = true := by rfl) (hn : os.length = n := by rfl) (hdb : (x == ("__debug__" : Str)) = false := by decide)
    (he : starEach (e :: es) X.env = (false, eval e X.env) :: starEach es X.env := by rfl) (hpl : (backTo pos (starEach es X.env)).any (·.1) = false := by rfl) : DEv X W (.Call (.Name x p) (e :: es) [] pos) (dCall fn os) := by
  obtain ⟨t, h, s⟩ := ha
  refine ⟨_, g_call F hr hg hm hk hb tk h hdb he hpl, fun O F σ H env Q st g => ?_⟩
  refine s O F σ H env _ st ?_
  unfold dCall at g
  cases q : evOs os env with
  | bad => rw [q] at g; exact g.elim
  | err y e => rw [q] at g; exact g
  | ok avs env1 =>
    rw [q] at g
    simp only [R.bind] at g
    intro F1 H1 vs E1 s1 r1
    cases q2 : getAVs env1 avs with
    | none => rw [q2] at g; exact g.elim
    | some ds =>
      rw [q2] at g
      have rl := AVs.vals hv q r1 q2
      have hlen : ds.length = n := by
        rw [← hn]
        exact lenAV q q2
      exact call_core0 s1 rl hlen (EGoal.step E1 g)
end
end DL
/-! DL7: calls that change their first argument, calls by keywords, lists that are changed, errors raised. -/
namespace DL
open PySem PySem.Spec PyProof.Rows L2

section
variable {X : Cx} {W : WX} {B : Bs}
theorem s0v {K : PySem.W.Frag} {O F : Fz} {H : Hp} {σ : L2.St} {env : DEnv} {i : Nat} {e : Ent} (s : StOk K O F H σ env) (h : (env[i]? : Option (Option Ent)) = some (some e)) : ∃ v, σ[i]? = some (some v) ∧ RepT K F H e.d v := s.top h
theorem call_coreR {f : DFn} {n i : Nat} {O F : Fz} {H : Hp} {σ : L2.St} {env : DEnv} {ds : List D} {vs : List V} {v0 : V} {d0 : D} {Q : VK} (s : StOk X.K O F H σ env) (hi : env[i]? = some (some (Ent.mk Md.own d0))) (hv0 : σ[i]? = some (some v0)) (r : RepL X.K F H ds vs) (hn : ds.length + 1 = n)
    (g : EGoal X W O F σ H Q (afterR env i (f (⟨.own, d0⟩ :: shrs ds)))) : spD X.K X.mg true n f (v0 :: vs) H Q (WE W σ) := by
  obtain ⟨a0, ws0, es0, rfl, e2, h0, rl0, nF0, nO0⟩ := s.own i .own d0 hi nofun
  rw [hv0] at e2; cases e2
  have oi : OwnAt env σ i a0 := ⟨.own, _, hi, nofun, hv0⟩
  have nOc : ¬ Oc O env σ (fun j => j ≠ i) a0 := fun z => by
    rcases z with z | ⟨j, hj, z⟩
    · exact nO0 z
    · exact hj (s.inj j i a0 z oi)
  have sA := stOk_args (p := fun j => j ≠ i) s r
  have s1 : StOk X.K (Oc O env σ fun j => j ≠ i) F H ((V.ref a0 :: vs).map some) ((⟨.own, .lst es0⟩ :: shrs ds).map some) := by
    refine ⟨by simp [shrs, r.length], fun j d q => ?_, fun j m d q hm => ?_, fun j k a ⟨m, d, q1, q2, q3⟩ ⟨m', d', k1, k2, k3⟩ => ?_, s.fdom, sA.odom⟩
    · cases j with
      | zero => simp at q
      | succ j => exact sA.shr j d (by simpa using q)
    · cases j with
      | zero =>
        simp at q
        obtain ⟨rfl, rfl⟩ := q
        exact ⟨a0, ws0, es0, rfl, rfl, h0, rl0, nF0, nOc⟩
      | succ j => exact sA.own j m d (by simpa using q) hm
    · have z : ∀ {j : Nat} {m : Md} {d : D}, ((⟨.own, .lst es0⟩ :: shrs ds).map some)[j]? = some (some (Ent.mk m d)) → m ≠ Md.shr → j = 0 := fun {j m d} q hm => by
        cases j with
        | zero => rfl
        | succ j =>
          have q' : ((shrs ds).map some)[j]? = some (some (Ent.mk m d)) := by simpa using q
          obtain ⟨d', _, h2⟩ := shrs_get q'
          cases h2
          exact absurd rfl hm
      rw [z q1 q2, z k1 k2]
  refine ⟨_, F, ⟨.own, .lst es0⟩ :: shrs ds, by simp [shrs, hn], s1, ?_⟩
  have back : ∀ {F' H' o}, Ext (Oc O env σ fun j => j ≠ i) F H F' H' → StOk X.K (Oc O env σ fun j => j ≠ i) F' H' (outSt true (V.ref a0 :: vs)) (outEnv true o) → Ext O F H F' H' ∧ StOk X.K O F' H' σ (env.set i (some ⟨.own, o⟩)) := fun {F' H' o} e st => by
    refine ⟨e.mono fun a h => oc_sub h, ?_⟩
    obtain ⟨a, vs', es', rfl, k2, k3, k4, k5, k6⟩ := st.own 0 .own o rfl nofun
    cases k2
    have sd : StOk X.K O F H σ (env.set i none) := s.drop
    have e' : Ext (Oc O (env.set i none) σ fun j => j ≠ i) F H F' H' := e.mono fun a h => by
      rcases h with h | ⟨j, hj, m, d, q1, q2, q3⟩
      · exact .inl h
      · rw [List.getElem?_set_ne (Ne.symm hj)] at q1
        exact .inr ⟨j, hj, m, d, q1, q2, q3⟩
    have s2 : StOk X.K O F' H' σ (env.set i none) := stOk_over sd e' st.fdom fun j hj x q => by
      have : j = i := Classical.byContradiction fun z => hj z
      subst this
      have hl : j < env.length := (List.getElem?_eq_some_iff.mp hi).1
      rw [List.getElem?_set_self hl] at q; cases q
    have hl : i < σ.length := (List.getElem?_eq_some_iff.mp hv0).1
    have s3 := StOk.set (e := ⟨.own, .lst es'⟩) (v := .ref a0) (i := i) s2 ⟨a0, vs', es', rfl, rfl, k3, k4, k5, fun z => k6 (.inl z), fun j ⟨m, d, q1, q2, q3⟩ => by
      by_cases hj : j = i
      · subst hj
        have hl : j < env.length := (List.getElem?_eq_some_iff.mp hi).1
        rw [List.getElem?_set_self hl] at q1; cases q1
      · rw [List.getElem?_set_ne (Ne.symm hj)] at q1
        exact hj (s.inj j i a0 ⟨m, d, q1, q2, q3⟩ oi)⟩ hl
    rw [List.set_set] at s3
    have e3 : σ.set i (some (.ref a0)) = σ := by
      apply List.ext_getElem?
      intro j
      by_cases hj : j = i
      · subst hj; rw [List.getElem?_set_self hl, hv0]
      · rw [List.getElem?_set_ne (Ne.symm hj)]
    rw [e3] at s3
    exact s3
  cases q : f (⟨.own, .lst es0⟩ :: shrs ds) with
  | bad => rw [q] at g; exact g.elim
  | err x o =>
    rw [q] at g
    intro F' H' cls d e st x'
    obtain ⟨e', st'⟩ := back e st
    exact g F' H' cls d e' st' x'
  | ok r o =>
    rw [q] at g
    intro F' H' v e st rr
    obtain ⟨e', st'⟩ := back e st
    refine g F' H' v e' st' ?_
    have own : (∃ a vs1 ds, r.d = D.lst ds ∧ v = .ref a ∧ H' a = some (.lst vs1) ∧ RepL X.K F' H' ds vs1 ∧ ¬ F' a ∧ ¬ Oc O env σ (fun j => j ≠ i) a ∧ ∀ j, ¬ OwnAt (outEnv true o) (outSt true (V.ref a0 :: vs)) j a) →
        ∃ a vs ds, r.d = D.lst ds ∧ v = .ref a ∧ H' a = some (.lst vs) ∧ RepL X.K F' H' ds vs ∧ ¬ F' a ∧ ¬ O a ∧ ∀ j, ¬ OwnAt (env.set i (some ⟨.own, o⟩)) σ j a := fun ⟨a, ws, es, h1, h2, h3, h4, h5, h6, h7⟩ => by
      refine ⟨a, ws, es, h1, h2, h3, h4, h5, fun z => h6 (.inl z), fun j ⟨m, d, q1, q2, q3⟩ => ?_⟩
      by_cases hj : j = i
      · subst hj
        rw [hv0] at q3
        cases q3
        exact h7 0 ⟨.own, o, rfl, nofun, rfl⟩
      · rw [List.getElem?_set_ne (Ne.symm hj)] at q1
        exact h6 (.inr ⟨j, hj, m, d, q1, q2, q3⟩)
    obtain ⟨m, d⟩ := r
    cases m with
    | shr => exact rr
    | own => exact own rr
    | bor => exact own rr
/-- f(x, ..), x the list that a name owns, which f may change -/
theorem e_callR (i : Nat) {k n : Nat} {f : Addr} {fd : FuncData} {ps : List Str} {fn : DFn} {x y : Str} {es : List Expr} {os : List Opd} {p py pos : Pos} (F : GOk X.prog X.w X.K X.mg X.base k f fd ps (spD X.K X.mg true n fn)) (hr : GRoom k X.A) (hm : X.mg x = some (.ref f))
    (hk : PySem.W.keepIn X.K (.ref f) = true) (hb : Binds X.K fd ps []) (tk : Takes X W) (ha : DAs X W es os) (hg : Gl X x := by rfl) (hv : allV os = true := by rfl) (hn : os.length + 1 = n := by rfl) (hdb : (x == ("__debug__" : Str)) = false := by decide)
    (hN : X.N[i]? = some y := by rfl) (hvis : Vis X.env.scope y := by first | exact Or.inl rfl | exact Or.inr (Or.inl rfl) | exact Or.inr (Or.inr rfl)) (hd : (y == ("__debug__" : Str)) = false := by decide)
    (hcd : (y == ("__classdict__" : Str)) = false := by decide)
    (he : starEach (.Name y py :: es) X.env = (false, eval (.Name y py) X.env) :: starEach es X.env := by rfl) (hpl : (backTo pos (starEach es X.env)).any (·.1) = false := by rfl) : DEv X W (.Call (.Name x p) (.Name y py :: es) [] pos) (dCallR fn i os) := by
  obtain ⟨t, h, s⟩ := ha
  refine ⟨_, g_call F hr hg hm hk hb tk (pa_cons (pe_var hN hvis hd hcd) h he) hdb he hpl, fun O F σ H env Q st g => ?_⟩
  unfold dCallR at g
  split at g
  · rename_i d00 hi0
    obtain ⟨v0, hv0, _⟩ := s0v st hi0
    refine ⟨v0, hv0, s O F σ H env _ st ?_⟩
    cases q : evOs os env with
    | bad => rw [q] at g; exact g.elim
    | err y' e => rw [q] at g; exact g
    | ok avs env1 =>
      rw [q] at g
      simp only [R.bind] at g
      intro F1 H1 vs E1 s1 r1
      cases q2 : getAVs env1 avs with
      | none => rw [q2] at g; exact g.elim
      | some ds =>
        rw [q2] at g
        split at g
        · rename_i ds' d0 e1 hi1
          cases e1
          exact call_coreR s1 hi1 hv0 (AVs.vals hv q r1 q2) (by rw [← hn, lenAV q q2]) (EGoal.step E1 g)
        · exact g.elim
  · exact g.elim

/-! ### calls by keywords -/
@[simp] def pick {α : Type} (perm : List Nat) (l : List α) : List α := perm.filterMap fun i => l[i]?
theorem vals_pick {vs : List V} {us : List Value} (r : Vals vs us) : ∀ perm : List Nat, Vals (pick perm vs) (pick perm us)
  | [] => .nil
  | i :: perm => by
    have ih := vals_pick r perm
    unfold pick at ih ⊢
    rw [List.filterMap_cons, List.filterMap_cons]
    cases q : vs[i]? with
    | none => rw [r.none_of q]; exact ih
    | some v =>
      obtain ⟨u, h1, h2⟩ := r.get q
      rw [h1]
      exact .cons h2 ih
theorem repL_pick {K : PySem.W.Frag} {F : Fz} {H : Hp} {ds : List D} {vs : List V} (r : RepL K F H ds vs) : ∀ perm : List Nat, RepL K F H (pick perm ds) (pick perm vs)
  | [] => RepL.nil
  | i :: perm => by
    have ih := repL_pick r perm
    unfold pick at ih ⊢
    rw [List.filterMap_cons, List.filterMap_cons]
    cases q : vs[i]? with
    | none =>
      have : ds[i]? = none := by
        cases q2 : ds[i]? with
        | none => rfl
        | some d => obtain ⟨v, z, _⟩ := r.get q2; rw [q] at z; cases z
      rw [this]; exact ih
    | some v =>
      obtain ⟨d, h1, h2⟩ := r.get' q
      rw [h1]
      exact RepL.cons h2 ih
/-- n values by place, the names ks: in the parameters' order -/
structure KwB (K : PySem.W.Frag) (fd : FuncData) (ps : List Str) (n : Nat) (ks : List Str) (perm : List Nat) : Prop where
  to : ∀ (s : Shared) (us ws : List Value), K.In s.heap → us.length = n → ws.length = ks.length → BindsTo s fd ⟨us, ks.zip ws⟩ (ps.zip (pick perm (us ++ ws)))
theorem kw_mk {K : PySem.W.Frag} {fd : FuncData} {ps : List Str} {n : Nat} {ks : List Str} {perm : List Nat} (h : ∀ (us ws : List Value), us.length = n → ws.length = ks.length → bindArgs fd ⟨us, ks.zip ws⟩ = pure (ps.zip (pick perm (us ++ ws)))) : KwB K fd ps n ks perm := ⟨fun s us ws _ h1 h2 => .of_eq (h us ws h1 h2)⟩
/-- a def with defaults, all its arguments written by name -/
theorem kw_mkD {K : PySem.W.Frag} {x qual : Str} {st : Stmt} {T : Addr} {o : Obj} {its : Array Value} {n0 n : Nat} {kV doc pm : Value} {an : Option Addr} {cdv ct : Value} {ps ks : List Str} {perm : List Nat} (lT : K.lookup T = some o) (oT : o.data = .seq its n0)
    (h : ∀ (us ws : List Value), us.length = n → ws.length = ks.length → ∃ k, bindArgs (PySem.W.fnOf x qual (defArgs st) (defBody st) (defScope st) (.ref T) kV doc pm an cdv ct) ⟨us, ks.zip ws⟩ = seqItems? (.ref T) >>= k ∧ k (some its) = pure (ps.zip (pick perm (us ++ ws)))) :
    KwB K (PySem.W.fnOf x qual (defArgs st) (defBody st) (defScope st) (.ref T) kV doc pm an cdv ct) ps n ks perm := ⟨fun s us ws X h1 h2 => by
  obtain ⟨k, e1, e2⟩ := h us ws h1 h2
  refine BindsTo.of_looks fun M => ?_
  rw [e1]
  exact looks_items X lT oT (.of_pure e2)⟩
def DKs (X : Cx) (W : WX) (kws : List Keyword) (os : List Opd) : Prop := ∃ t, PK X kws t ∧ ASem X W t os
theorem k_nil : DKs X W [] [] := ⟨_, pk_nil, asem_nil⟩
theorem k_cons {nm : Option Str} {e : Expr} {kpos : Pos} {kws : List Keyword} {o : Opd} {os : List Opd} (ho : DOp X W e o) (ht : DKs X W kws os) : DKs X W (⟨nm, e, kpos⟩ :: kws) (o :: os) := by
  obtain ⟨te, he, se⟩ := ho
  obtain ⟨t, h, s⟩ := ht
  exact ⟨_, pk_cons he h, asem_cons se s⟩
theorem evOs_app : ∀ (os os' : List Opd) (env : DEnv), evOs (os ++ os') env = (evOs os env).bind fun a e1 => (evOs os' e1).bind fun b e2 => .ok (a ++ b) e2
  | [], os', env => by
    show evOs os' env = (evOs os' env).bind fun b e2 => .ok b e2
    cases evOs os' env <;> rfl
  | .v m :: os, os', env => by
    show (m env).bind _ = ((m env).bind _).bind _
    cases m env with
    | bad => rfl
    | err x e => rfl
    | ok r e1 =>
      simp only [R.bind]
      have ih : evOs (os.append os') e1 = _ := evOs_app os os' e1
      rw [ih]
      cases evOs os e1 with
      | bad => rfl
      | err x e => rfl
      | ok a e2 =>
        simp only [R.bind]
        cases evOs os' e2 <;> rfl
  | .s i :: os, os', env => by
    have ih := evOs_app os os' env
    show evOs (.s i :: (os ++ os')) env = (evOs (.s i :: os) env).bind _
    simp only [evOs]
    split
    · rw [ih]
      cases evOs os env with
      | bad => rfl
      | err x e => rfl
      | ok a e2 =>
        simp only [R.bind]
        cases evOs os' e2 <;> rfl
    · rfl
theorem allV_app : ∀ {os os' : List Opd}, allV os = true → allV os' = true → allV (os ++ os') = true
  | [], _, _, h => h
  | .v _ :: os, _, h, h' => allV_app (os := os) h h'
theorem AVs.app {K : PySem.W.Frag} {F : Fz} {H : Hp} {σ : L2.St} : ∀ {as bs : List AV} {vs ws : List V}, AVs K F H σ as vs → AVs K F H σ bs ws → AVs K F H σ (as ++ bs) (vs ++ ws)
  | [], _, _, _, h, k => by rw [show _ = ([] : List V) from h]; exact k
  | .d x :: as, bs, vs, ws, ⟨v, r, e1, h1, h2⟩, k => ⟨v, r ++ ws, by rw [e1]; rfl, h1, AVs.app h2 k⟩
  | .s i :: as, bs, vs, ws, ⟨v, r, e1, h1, h2⟩, k => ⟨v, r ++ ws, by rw [e1]; rfl, h1, AVs.app h2 k⟩
theorem AVs.length {K : PySem.W.Frag} {F : Fz} {H : Hp} {σ : L2.St} : ∀ {as : List AV} {vs : List V}, AVs K F H σ as vs → vs.length = as.length
  | [], _, h => by rw [show _ = ([] : List V) from h]; rfl
  | .d x :: as, vs, ⟨v, r, e1, h1, h2⟩ => by rw [e1, List.length_cons, List.length_cons, AVs.length h2]
  | .s i :: as, vs, ⟨v, r, e1, h1, h2⟩ => by rw [e1, List.length_cons, List.length_cons, AVs.length h2]
/-- the arguments by place, then the keywords' -/
def tKw (n m : Nat) (t tk : TA) (r : List V → Hp → VK → L2.St → Prop) : TE := fun σ H Q => t σ H fun vs H1 => tk σ H1 fun zs H2 => vs.length = n ∧ zs.length = m ∧ r (vs ++ zs) H2 Q σ
theorem run_kw {k : Nat} {f : Addr} {fd : FuncData} {ps ks : List Str} {n : Nat} {perm : List Nat} {sp : Sp} {pins : List (Addr × Obj)} {σ : L2.St} {H : Hp} {s : Shared} {Q : VK} {us ws : List Value} {vs zs : List V} (F : GOk X.prog X.w X.K X.mg X.base k f fd ps sp) (hr : GRoom k X.A)
    (hb : KwB X.K fd ps n ks perm) (tk : Takes X W) (I : L2.Inv X pins σ H s) (r : Vals vs us) (rz : Vals zs ws) (h1 : vs.length = n) (h2 : zs.length = ks.length) (h : sp (pick perm (vs ++ zs)) H Q (WE W σ)) :
    wpAny (model X.prog X.w) X.A (call (.ref f) us (ks.zip ws)) (EP X pins σ Q) X.xe s := by
  have r2 := vals_pick (r.append rz) perm
  refine wpAny_call (codeAny_mono (g_run (args := ⟨us, ks.zip ws⟩) F hr tk I ((hb.to s us ws I.kIn (by rw [← r.length]; exact h1) (by rw [← rz.length]; exact h2))) r2 h) fun res s' hq => ?_)
  match res, hq with
  | .error e, hq => exact hq
  | .ok (.ret u), hq => exact hq
theorem sem_kw {t tk : TA} {os os' : List Opd} {fn : DFn} {n m nn : Nat} {perm : List Nat} (s1 : ASem X W t os) (s2 : ASem X W tk os') (hn : os.length = n) (hm : os'.length = m) (hv : allV (os ++ os') = true) (hp : perm.length = nn) (hlt : ∀ i ∈ perm, i < n + m) :
    ESem X W (tKw n m t tk fun vs H Q σ => spD X.K X.mg false nn fn (pick perm vs) H Q (WE W σ)) (dCall (fun args => fn (pick perm args)) (os ++ os')) := fun O F σ H env Q st g => by
  refine s1 O F σ H env _ st ?_
  unfold dCall at g
  rw [evOs_app] at g
  cases q : evOs os env with
  | bad => rw [q] at g; exact g.elim
  | err y e => rw [q] at g; exact g
  | ok a env1 =>
    rw [q] at g
    simp only [R.bind] at g
    intro F1 H1 vs E1 st1 r1
    refine s2 O F1 σ H1 env1 _ st1 ?_
    cases q2 : evOs os' env1 with
    | bad => rw [q2] at g; exact g.elim
    | err y e => rw [q2] at g; exact fun F' H' c d e' s' r => g F' H' c d (E1.trans e') s' r
    | ok b env2 =>
      rw [q2] at g
      simp only [] at g
      intro F2 H2 zs E2 st2 r2
      have r12 := (r1.ext E2).app r2
      refine ⟨by rw [AVs.length r1, lenO q, hn], by rw [AVs.length r2, lenO q2, hm], ?_⟩
      have full : evOs (os ++ os') env = .ok (a ++ b) env2 := by rw [evOs_app, q]; simp only [R.bind]; rw [q2]
      cases q3 : getAVs env2 (a ++ b) with
      | none => rw [q3] at g; exact g.elim
      | some ds =>
        rw [q3] at g
        have rl := AVs.vals hv full r12 q3
        have hlen : ds.length = n + m := by rw [lenAV full q3, List.length_append, hn, hm]
        have pk : pick perm (shrs ds) = shrs (pick perm ds) := by
          unfold pick shrs
          rw [List.map_filterMap]
          congr 1
          funext i
          rw [List.getElem?_map]
        have pl : (pick perm ds).length = nn := by
          rw [← hp]
          clear g pk rl full q3 r12 hp
          induction perm with
          | nil => rfl
          | cons i perm ih =>
            unfold pick at ih ⊢
            rw [List.filterMap_cons]
            have hi : i < ds.length := by rw [hlen]; exact hlt i (by simp)
            rw [List.getElem?_eq_getElem hi]
            simp only [List.length_cons]
            rw [ih fun j hj => hlt j (List.mem_cons_of_mem _ hj)]
        simp only [] at g
        rw [pk] at g
        exact call_core0 st2 (repL_pick rl perm) pl (EGoal.step (E1.trans E2) g)
/-- f(a, .., k = v, ..) -/
theorem e_callK {k nn n : Nat} {f : Addr} {fd : FuncData} {ps ks : List Str} {perm : List Nat} {fn : DFn} {x : Str} {e : Expr} {es : List Expr} {kws : List Keyword} {os os' : List Opd} {p pos : Pos} (F : GOk X.prog X.w X.K X.mg X.base k f fd ps (spD X.K X.mg false nn fn)) (hr : GRoom k X.A) (hm : X.mg x = some (.ref f))
    (hk : PySem.W.keepIn X.K (.ref f) = true) (hb : KwB X.K fd ps n ks perm) (tk : Takes X W) (ha : DAs X W (e :: es) os) (hkw : DKs X W kws os') (hg : Gl X x := by rfl) (hn : os.length = n := by rfl) (hm' : os'.length = ks.length := by rfl) (hv : allV (os ++ os') = true := by rfl) (hp : perm.length = nn := by rfl) (hlt : ∀ i ∈ perm, i < n + ks.length := by decide)
    (hall : (backToKw pos (keywordEach kws X.env)).all (·.1.isSome) = true := by rfl) (hks : (backToKw pos (keywordEach kws X.env)).filterMap (·.1) = ks := by rfl)
    (hdb : (x == ("__debug__" : Str)) = false := by decide) (he : starEach (e :: es) X.env = (false, eval e X.env) :: starEach es X.env := by rfl)
    (hpl : ((backTo pos (starEach (e :: es) X.env)).any (·.1) || (backToKw pos (keywordEach kws X.env)).any (·.1.isNone)) = false := by rfl) :
    DEv X W (.Call (.Name x p) (e :: es) kws pos) (dCall (fun args => fn (pick perm args)) (os ++ os')) := by
  obtain ⟨t, h, s⟩ := ha
  obtain ⟨t2, h2, s2⟩ := hkw
  refine ⟨_, ⟨fun pins s0 σ H Q I h0 => ?_⟩, sem_kw s s2 hn hm' hv hp hlt⟩
  refine wpAny_Call_Name_kw (ld_glob I hg hm ?_ hdb)
  refine PySem.W.callWith_KW (h₀ := X.base) I.ok.mod.kin hk hall (thn (h.run pos pins s0 σ H _ I h0) fun us s1 ⟨vs, H1, I1, r, q⟩ => ?_) hpl he
  refine thn (h2.run pos pins s1 σ H1 _ I1 q) fun ws s2 ⟨zs, H2, I2, rz, q2⟩ => ⟨I2.kIn, ?_⟩
  rw [hks]
  exact run_kw F hr hb tk I2 r rz q2.1 q2.2.1 q2.2.2
/-- f(k = v, ..) -/
theorem e_callK0 {k nn : Nat} {f : Addr} {fd : FuncData} {ps ks : List Str} {perm : List Nat} {fn : DFn} {x : Str} {kws : List Keyword} {os' : List Opd} {p pos : Pos} (F : GOk X.prog X.w X.K X.mg X.base k f fd ps (spD X.K X.mg false nn fn)) (hr : GRoom k X.A) (hm : X.mg x = some (.ref f))
    (hk : PySem.W.keepIn X.K (.ref f) = true) (hb : KwB X.K fd ps 0 ks perm) (tk : Takes X W) (hkw : DKs X W kws os') (hg : Gl X x := by rfl) (hm' : os'.length = ks.length := by rfl) (hv : allV os' = true := by rfl) (hp : perm.length = nn := by rfl) (hlt : ∀ i ∈ perm, i < 0 + ks.length := by decide)
    (hall : (backToKw pos (keywordEach kws X.env)).all (·.1.isSome) = true := by rfl) (hks : (backToKw pos (keywordEach kws X.env)).filterMap (·.1) = ks := by rfl)
    (hdb : (x == ("__debug__" : Str)) = false := by decide)
    (hpl : ((backTo pos (starEach [] X.env)).any (·.1) || (backToKw pos (keywordEach kws X.env)).any (·.1.isNone)) = false := by rfl) :
    DEv X W (.Call (.Name x p) [] kws pos) (dCall (fun args => fn (pick perm args)) os') := by
  obtain ⟨t2, h2, s2⟩ := hkw
  refine ⟨_, ⟨fun pins s0 σ H Q I h0 => ?_⟩, sem_kw (os := []) asem_nil s2 rfl hm' hv hp hlt⟩
  refine wpAny_Call_Name_kw (ld_glob I hg hm ?_ hdb)
  refine PySem.W.callWith_KW0 (h₀ := X.base) I.ok.mod.kin hk hall ?_ hpl
  refine thn (h2.run pos pins s0 σ H _ I h0) fun ws s2 ⟨zs, H2, I2, rz, q2⟩ => ⟨I2.kIn, ?_⟩
  rw [hks]
  exact run_kw (us := []) F hr hb tk I2 .nil rz q2.1 q2.2.1 q2.2.2
end
end DL
/-! DL8: lists that are changed; errors raised. -/
namespace DL
open PySem PySem.Spec PyProof.Rows L2

/-- extend by a tuple -/
theorem ext_tuple (l : Addr) (items : Array Value) (n : Nat) (b : Addr) (items2 : Array Value) (n2 : Nat) (dd : Option Addr) (sl : Array (Option Value)) (hs0 : ¬(!items.isEmpty && Builtin.List.listTooLong (items.size + items2.size)) = true) (hs1 : items.size ≤ sizeLine) (hs2 : items.size + items2.size ≤ sizeLine + 1) :
    Meets (Builtin.«list.extend» ⟨[.ref l, .ref b], []⟩) (fun _ R s => s.heap.get? l = some { cls := .type "list", dict := none, data := .seq items n, slots := #[] } ∧ s.heap.get? b = some { cls := .type "tuple", dict := dd, data := .seq items2 n2, slots := sl } ∧ R (.ok (.ret Value.none)) { s with heap := s.heap.update l (Obj.mapSeq fun x => x ++ items2), toks := s.toks }) :=
  .of_wp fun prog w A R s h => by
    obtain ⟨hp, g, d, tk, os⟩ := s
    obtain ⟨hl, hb, h⟩ := h
    have f3 := AutoSeq1.sub_list_list
    have f4 := AutoSeq1.sub_tuple_list
    have f2 := AutoSeq1.sub_tuple_tuple
    have f5 := AutoSeq1.sub_list_tuple
    have hz' : (items ++ items2).size ≤ sizeLine + 1 := by rw [Array.size_append]; exact hs2
    wp_walk using (wpAny_updateSeq hl rfl (hz := hs1) (_hz' := hz')), wpAny_loadPart' hl, wpAny_loadPart' hb
    exact ⟨_, rfl, h⟩

section
variable {X : Cx} {W : WX} {B : Bs}
def rExtT (K : PySem.W.Frag) : V → List V → Hp → VK → Prop := fun x vs H Q => ∃ l b xs zs, x = .ref l ∧ vs = [.ref b] ∧ H l = some (.lst xs) ∧ SqT K H b zs ∧ xs.length + zs.length ≤ sizeLine ∧ Q .non (upd H l (.lst (xs ++ zs)))
theorem mt_extT : MtR X "list.extend" (rExtT X.K) := by
  intro pins s σ H x vs v us Q I rx rv h
  obtain ⟨l, b, xs, zs, rfl, rfl, hH, hB, hz, q⟩ := h
  cases rx
  obtain ⟨u, rfl, ru⟩ := rv.one
  cases ru
  obtain ⟨z, its, n, r, hl, e⟩ := I.lstM hH
  obtain ⟨its2, r2, ⟨o2, e2, c2, n2, d2⟩, _⟩ := I.tuple hB
  have hl2 := r2.length
  have hsz : its.length + its2.length ≤ sizeLine := by omega
  have hlong : ¬ (!its.toArray.isEmpty && Builtin.List.listTooLong (its.toArray.size + its2.toArray.size)) = true := by
    rw [notLongL (by simpa using hsz), Bool.and_false]
    exact Bool.false_ne_true
  obtain ⟨oc, od, odat, osl⟩ := o2
  subst c2 d2
  refine call_meets F.slot_list_extend ⟨_, e, rfl⟩ F.entry_list_extend (F.args_list_extend_2 _ _)
    (ext_tuple l its.toArray n b its2.toArray n2 od osl hlong (by simp; omega) (by simp; omega)) ⟨e, e2, ?_⟩
  refine ⟨.non, _, I.lset (its' := its ++ its2) hH e (by simp) (r.append r2) ?_, rfl, q⟩
  rw [List.length_append]
  omega

/-! ### a method that changes the list that a name owns -/
/-- op: from the list and the argument to the list behind and the answer -/
def dMut (op : List D → List D → Option (List D × D)) (i : Nat) (os : List Opd) : DE := fun env => match (env[i]? : Option (Option Ent)) with
  | some (some (Ent.mk Md.own (.lst _))) => (evOs os env).bind fun avs env1 => match getAVs env1 avs, (env1[i]? : Option (Option Ent)) with
    | some ds, some (some (Ent.mk Md.own (.lst xs))) => (match op xs ds with
      | some (ys, r) => .ok ⟨.shr, r⟩ (env1.set i (some ⟨.own, .lst ys⟩))
      | none => .bad)
    | _, _ => .bad
  | _ => .bad
/-- the rule of the values -/
def MutR (K : PySem.W.Frag) (op : List D → List D → Option (List D × D)) (r : V → List V → Hp → VK → Prop) : Prop := ∀ (F : Fz) (H : Hp) (a : Addr) (xs : List D) (us : List V) (ds : List D) (vs : List V) (ys : List D) (d : D) (Q : VK),
  H a = some (.lst us) → RepL K F H xs us → RepL K F H ds vs → op xs ds = some (ys, d) →
  (∀ ws v, RepL K F H ys ws → Rep K F H d v → Q v (upd H a (.lst ws))) → r (.ref a) vs H Q
theorem sem_mut {i : Nat} {os : List Opd} {t : TA} {op : List D → List D → Option (List D × D)} {r : V → List V → Hp → VK → Prop} (s : ASem X W t os) (hv : allV os = true) (hr : MutR X.K op r) :
    ESem X W (fun σ H Q => ∃ v, σ[i]? = some (some v) ∧ (tyV X.K "list" v H ∧ t σ H fun xs H2 => r v xs H2 Q)) (dMut op i os) := fun O F σ H env Q st g => by
  unfold dMut at g
  split at g
  · rename_i l0 hi0
    obtain ⟨a, us0, es0, e0, hσ, hH, _, _, _⟩ := st.own i .own _ hi0 nofun
    refine ⟨.ref a, hσ, .inl ⟨rfl, us0, .inl (.inl hH)⟩, s O F σ H env _ st ?_⟩
    cases q : evOs os env with
    | bad => rw [q] at g; exact g.elim
    | err y' e => rw [q] at g; exact g
    | ok avs env1 =>
      rw [q] at g
      simp only [R.bind] at g
      intro F1 H1 vs E1 s1 r1
      cases q2 : getAVs env1 avs with
      | none => rw [q2] at g; exact g.elim
      | some ds =>
        rw [q2] at g
        split at g
        · rename_i ds' xs e1 hi1
          cases e1
          cases q3 : op xs ds with
          | none => rw [q3] at g; exact g.elim
          | some yr =>
            obtain ⟨ys, d⟩ := yr
            rw [q3] at g
            obtain ⟨a', us, es, e2, hσ', hH1, rl, nF, nO⟩ := s1.own i .own _ hi1 nofun
            cases e2
            rw [hσ] at hσ'
            cases hσ'
            refine hr F1 H1 a xs us ds vs ys d Q hH1 rl (AVs.vals hv q r1 q2) q3 fun ws v rw' rd => ?_
            obtain ⟨s2, E2⟩ := s1.write hi1 nofun hσ hH1 nF nO rw'
            exact g F1 _ v (E1.trans E2) s2 (Rep.ext E2 d v rd)
        · exact g.elim
  · exact g.elim
def mApp : List D → List D → Option (List D × D) := fun xs ds => match ds with
  | [d] => if xs.length < sizeLine then some (xs ++ [d], .non) else none
  | _ => none
def mExt : List D → List D → Option (List D × D) := fun xs ds => match ds with
  | [.lst ys] => if xs.length + ys.length ≤ sizeLine then some (xs ++ ys, .non) else none
  | [.tup ys] => if xs.length + ys.length ≤ sizeLine then some (xs ++ ys, .non) else none
  | _ => none
def mPop : List D → List D → Option (List D × D) := fun xs ds => match ds, xs[xs.length - 1]? with
  | [], some d => some (xs.dropLast, d)
  | _, _ => none
theorem mr_app {K : PySem.W.Frag} : MutR K mApp rAppend := fun F H a xs us ds vs ys d Q h r rd e q => by
  unfold mApp at e
  split at e
  · split at e
    · rename_i x hl
      cases e
      obtain ⟨v, _, rfl, h1, rfl⟩ := rd
      exact ⟨a, us, v, rfl, rfl, h, by rw [r.length]; exact hl, q _ _ (r.append (RepL.cons h1 RepL.nil)) rfl⟩
    · cases e
  · cases e
theorem mr_ext {K : PySem.W.Frag} : MutR K mExt (fun x xs H Q => rExtend x xs H Q ∨ rExtT K x xs H Q) := fun F H a xs us ds vs ys d Q h r rd e q => by
  unfold mExt at e
  split at e
  · split at e
    · rename_i x hl
      cases e
      obtain ⟨v, _, rfl, ⟨b, ws, rfl, fb, hb, rb⟩, rfl⟩ := rd
      exact .inl ⟨a, b, us, ws, rfl, rfl, h, hb, by rw [r.length, rb.length]; exact hl, q _ _ (r.append rb) rfl⟩
    · cases e
  · split at e
    · rename_i x hl
      cases e
      obtain ⟨v, _, rfl, ⟨b, ws, rfl, hb, rb⟩, rfl⟩ := rd
      exact .inr ⟨a, b, us, ws, rfl, rfl, h, hb.sq, by rw [r.length, rb.length]; exact hl, q _ _ (r.append rb) rfl⟩
    · cases e
  · cases e
theorem mr_pop {K : PySem.W.Frag} : MutR K mPop rPop := fun F H a xs us ds vs ys d Q h r rd e q => by
  unfold mPop at e
  split at e
  · rename_i d' hx
    cases e
    obtain ⟨v, hv, rv⟩ := r.get hx
    obtain rfl : vs = [] := rd
    exact ⟨a, us, v, rfl, rfl, h, by rw [r.length]; exact hv, q _ _ r.dropLast rv⟩
  · cases e
/-- what pe_bm asks of the arguments' number -/
abbrev Few (X : Cx) (e : Expr) (cpos : Pos) : Prop := ((backTo cpos (starEach (e :: []) X.env)).all (fun x => !x.1) && (backToKw cpos (keywordEach [] X.env)).all (fun x => x.1.isSome) && decide ((e :: ([] : List Expr)).length + ([] : List Keyword).length + (if ([] : List Keyword).isEmpty then 0 else 1) < 30)) = true
/-- x.m(e), x a name that owns its list -/
theorem e_mut (i : Nat) {op : List D → List D → Option (List D × D)} {r : V → List V → Hp → VK → Prop} {name : Str} {id : String} {y : Str} {e : Expr} {os : List Opd} {py apos cpos : Pos} (hr : MutR X.K op r) (slot : Slot "list" name id) (hty : typeOf (.builtin id) = pure (.type "method_descriptor")) (hm : MtR X id r) (ha : DAs X W [e] os) (hv : allV os = true := by rfl)
    (hN : X.N[i]? = some y := by rfl) (hvis : Vis X.env.scope y := by first | exact Or.inl rfl | exact Or.inr (Or.inl rfl) | exact Or.inr (Or.inr rfl)) (hd : (y == ("__debug__" : Str)) = false := by decide) (hcd : (y == ("__classdict__" : Str)) = false := by decide)
    (hb : attributeBase (.Name y py) name X.env (eval (.Name y py) X.env) = eval (.Name y py) X.env := by rfl) (hf : Few X e cpos := by rfl) (hl : (apos.endLine == cpos.line) = true := by rfl)
    (he : starEach (e :: []) X.env = (false, eval e X.env) :: starEach [] X.env := by rfl) (hpl : (backTo cpos (starEach [] X.env)).any (·.1) = false := by rfl) : DEv X W (.Call (.Attribute (.Name y py) name apos) [e] [] cpos) (dMut op i os) := by
  obtain ⟨t, h, s⟩ := ha
  exact ⟨_, pe_bm (cpos := cpos) (apos := apos) PySem.F.plainAttrs_list slot hty hm (pe_var (pos := py) hN hvis hd hcd) h hb hf hl he hpl, sem_mut s hv hr⟩
theorem e_mut0 (i : Nat) {op : List D → List D → Option (List D × D)} {r : V → List V → Hp → VK → Prop} {name : Str} {id : String} {y : Str} {py apos cpos : Pos} (hr : MutR X.K op r) (slot : Slot "list" name id) (hty : typeOf (.builtin id) = pure (.type "method_descriptor")) (hm : MtR X id r)
    (hN : X.N[i]? = some y := by rfl) (hvis : Vis X.env.scope y := by first | exact Or.inl rfl | exact Or.inr (Or.inl rfl) | exact Or.inr (Or.inr rfl)) (hd : (y == ("__debug__" : Str)) = false := by decide) (hcd : (y == ("__classdict__" : Str)) = false := by decide)
    (hb : attributeBase (.Name y py) name X.env (eval (.Name y py) X.env) = eval (.Name y py) X.env := by rfl) (hl : (apos.endLine == cpos.line) = true := by rfl) : DEv X W (.Call (.Attribute (.Name y py) name apos) [] [] cpos) (dMut op i []) :=
  ⟨_, pe_bm0 (cpos := cpos) (apos := apos) PySem.F.plainAttrs_list slot hty hm (pe_var (pos := py) hN hvis hd hcd) hb hl, sem_mut (os := []) asem_nil rfl hr⟩
theorem MtR.orM {id : String} {r r' : V → List V → Hp → VK → Prop} (h : MtR X id r) (h' : MtR X id r') : MtR X id (fun x xs H Q => r x xs H Q ∨ r' x xs H Q) := h.or h'
theorem e_append (i : Nat) {y : Str} {e : Expr} {os : List Opd} {py apos cpos : Pos} (ha : DAs X W [e] os) (hv : allV os = true := by rfl)
    (hN : X.N[i]? = some y := by rfl) (hvis : Vis X.env.scope y := by first | exact Or.inl rfl | exact Or.inr (Or.inl rfl) | exact Or.inr (Or.inr rfl)) (hd : (y == ("__debug__" : Str)) = false := by decide) (hcd : (y == ("__classdict__" : Str)) = false := by decide)
    (hb : attributeBase (.Name y py) "append" X.env (eval (.Name y py) X.env) = eval (.Name y py) X.env := by rfl) (hf : Few X e cpos := by rfl) (hl : (apos.endLine == cpos.line) = true := by rfl)
    (he : starEach (e :: []) X.env = (false, eval e X.env) :: starEach [] X.env := by rfl) (hpl : (backTo cpos (starEach [] X.env)).any (·.1) = false := by rfl) : DEv X W (.Call (.Attribute (.Name y py) "append" apos) [e] [] cpos) (dMut mApp i os) :=
  e_mut i mr_app PySem.F.slot_list_append PySem.F.type_list_append mt_append ha hv hN hvis hd hcd hb hf hl he hpl
theorem e_extend (i : Nat) {y : Str} {e : Expr} {os : List Opd} {py apos cpos : Pos} (ha : DAs X W [e] os) (hv : allV os = true := by rfl)
    (hN : X.N[i]? = some y := by rfl) (hvis : Vis X.env.scope y := by first | exact Or.inl rfl | exact Or.inr (Or.inl rfl) | exact Or.inr (Or.inr rfl)) (hd : (y == ("__debug__" : Str)) = false := by decide) (hcd : (y == ("__classdict__" : Str)) = false := by decide)
    (hb : attributeBase (.Name y py) "extend" X.env (eval (.Name y py) X.env) = eval (.Name y py) X.env := by rfl) (hf : Few X e cpos := by rfl) (hl : (apos.endLine == cpos.line) = true := by rfl)
    (he : starEach (e :: []) X.env = (false, eval e X.env) :: starEach [] X.env := by rfl) (hpl : (backTo cpos (starEach [] X.env)).any (·.1) = false := by rfl) : DEv X W (.Call (.Attribute (.Name y py) "extend" apos) [e] [] cpos) (dMut mExt i os) :=
  e_mut i mr_ext PySem.F.slot_list_extend PySem.F.type_list_extend (MtR.orM mt_extend mt_extT) ha hv hN hvis hd hcd hb hf hl he hpl
theorem e_pop (i : Nat) {y : Str} {py apos cpos : Pos}
    (hN : X.N[i]? = some y := by rfl) (hvis : Vis X.env.scope y := by first | exact Or.inl rfl | exact Or.inr (Or.inl rfl) | exact Or.inr (Or.inr rfl)) (hd : (y == ("__debug__" : Str)) = false := by decide) (hcd : (y == ("__classdict__" : Str)) = false := by decide)
    (hb : attributeBase (.Name y py) "pop" X.env (eval (.Name y py) X.env) = eval (.Name y py) X.env := by rfl) (hl : (apos.endLine == cpos.line) = true := by rfl) : DEv X W (.Call (.Attribute (.Name y py) "pop" apos) [] [] cpos) (dMut mPop i []) :=
  e_mut0 i mr_pop PySem.F.slot_list_pop PySem.F.type_list_pop mt_pop hN hvis hd hcd hb hl

/-! ### x[k] = e -/
def dSetIx (i : Nat) (os : List Opd) (m : DE) : DS := fun env => (m env).bind fun r env1 => match (env1[i]? : Option (Option Ent)) with
  | some (some (Ent.mk Md.own (.lst _))) => (evOs os env1).bind fun avs env2 => match getAVs env2 avs, (env2[i]? : Option (Option Ent)) with
    | some [.int k], some (some (Ent.mk Md.own (.lst xs))) => (match ixN xs.length k with
      | some j => .ok .nx (env2.set i (some ⟨.own, .lst (xs.set j r.d)⟩))
      | none => .bad)
    | _, _ => .bad
  | _ => .bad
theorem s_setIx (i : Nat) {y : Str} {idx e : Expr} {m : DE} {o : Opd} {py tpos pos : Pos} (hm : DEv X W e m) (hx : DOp X W idx o)
    (hN : X.N[i]? = some y := by rfl) (hvis : Vis X.env.scope y := by first | exact Or.inl rfl | exact Or.inr (Or.inl rfl) | exact Or.inr (Or.inr rfl)) (hd : (y == ("__debug__" : Str)) = false := by decide) (hcd : (y == ("__classdict__" : Str)) = false := by decide)
    (hs : swapsWithSole [.Subscript (.Name y py) idx tpos] e pos.line X.env = pure false := by rfl) (hw : swappedStores [.Subscript (.Name y py) idx tpos] e X.env = pure none := by rfl)
    (hasg : ∀ v, assign (.Subscript (.Name y py) idx tpos) X.env v = (do
      let ov ← holding [v] (eval (.Name y py) X.env)
      let iv ← holding [v, ov] (eval idx X.env)
      standAt tpos
      holding [v, ov, iv] (setItem ov iv v)
      release [v, ov, iv] []) := by intro _; rfl) :
    DSt X W B (.Assign [.Subscript (.Name y py) idx tpos] e pos) (dSetIx i [o] m) := by
  obtain ⟨te, h1, s1⟩ := hm
  obtain ⟨ti, h2, s2⟩ := hx
  refine ⟨_, ps_asg h1 (pg_sub (pe_var hN hvis hd hcd) h2 set_list hasg) hs hw, fun O F σ H env Dn st g => ?_⟩
  refine s1 O F σ H env _ st ?_
  unfold dSetIx at g
  cases q : m env with
  | bad => rw [q] at g; exact g.elim
  | err y' e => rw [q] at g; exact fun F' H' c d e' s' r => g F' H' σ c d e' s' Keeps.refl r
  | ok r env1 =>
    rw [q] at g
    simp only [R.bind] at g
    intro F1 H1 v E1 st1 r1
    obtain ⟨F2, E2, st2, r2⟩ := freeze st1 r1
    split at g
    · rename_i l0 hi0
      obtain ⟨a, us0, es0, e0, hσ, hH, _, _, _⟩ := st2.own i .own _ hi0 nofun
      refine ⟨.ref a, hσ, ?_⟩
      have m2 := asem1 s2 O F2 σ H1 env1 (fun vs H4 => match vs with
        | [w'] => rSetL (.ref a) w' v H4 fun H6 => Dn.nx σ H6
        | _ => False) st2
      refine m2 ?_
      clear m2
      cases q4 : evOs [o] env1 with
      | bad => rw [q4] at g; exact g.elim
      | err x e => rw [q4] at g; exact fun F' H' c d e' s' r => g F' H' σ c d ((E1.trans E2).trans e') s' Keeps.refl r
      | ok avs env4 =>
        rw [q4] at g
        simp only [] at g
        intro F5 H5 vs5 E5 st5 r5
        split at g
        · rename_i k xs hk hi5
          have tops := AVs.tops st5 r5 hk
          obtain ⟨w, _, rfl, rw', rfl⟩ := tops
          cases rw'
          obtain ⟨a', us, es, e2, hσ', hH5, rl, nF, nO⟩ := st5.own i .own _ hi5 nofun
          cases e2
          rw [hσ] at hσ'
          cases hσ'
          cases hj : ixN xs.length k with
          | none => rw [hj] at g; exact g.elim
          | some j =>
            rw [hj] at g
            obtain ⟨st6, E6⟩ := st5.write hi5 nofun hσ hH5 nF nO (RepL.set (Rep.ext E5 _ _ r2) j rl)
            exact ⟨a, us, k, j, rfl, rfl, hH5, by rw [rl.length]; exact hj, g F5 _ σ (((E1.trans E2).trans E5).trans E6) st6 Keeps.refl⟩
        · exact g.elim
    · exact g.elim

/-! ### x += e, numbers -/
def dAug (i : Nat) (f : Int → Int → Int) (m : DE) : DS := fun env => match (env[i]? : Option (Option Ent)) with
  | some (some (Ent.mk Md.shr (.int a))) => (m env).bind fun r env1 => match r with
    | ⟨.shr, .int b⟩ => .ok .nx (env1.set i (some ⟨.shr, .int (f a b)⟩))
    | _ => .bad
  | _ => .bad
theorem s_aug (i : Nat) {f : Int → Int → Int} {op : Operator} {x : Str} {e : Expr} {m : DE} {pos' pos : Pos} (hN : X.N.Nodup) (ho : PIp X op (ipI f)) (hm : DEv X W e m) (hi : X.N[i]? = some x := by rfl) (hx : Loc X.env.scope x := by first | exact Or.inl rfl | exact Or.inr rfl) (hB : B i = false := by rfl)
    (hf : X.fn x = true ∨ X.env.scope.names.lookup x = some .local := by first | exact .inl rfl | exact .inr rfl | assumption) : DSt X W B (.AugAssign (.Name x pos') op e pos) (dAug i f m) := by
  obtain ⟨te, h1, s1⟩ := hm
  refine ⟨_, ps_aug hN hi hx h1 ho hf, fun O F σ H env Dn st g => ?_⟩
  unfold dAug at g
  split at g
  · rename_i a ha
    obtain ⟨v, hv, rv⟩ := st.shr i _ ha
    cases rv
    refine ⟨_, hv, s1 O F σ H env _ st ?_⟩
    cases q : m env with
    | bad => rw [q] at g; exact g.elim
    | err y' e => rw [q] at g; exact fun F' H' c d e' s' r => g F' H' σ c d e' s' Keeps.refl r
    | ok r env1 =>
      rw [q] at g
      simp only [R.bind] at g
      intro F1 H1 v E1 st1 r1
      split at g
      · rename_i b
        cases r1
        exact ⟨a, b, rfl, rfl, g F1 H1 _ E1 (st1.store (e := ⟨.shr, .int (f a b)⟩) rfl) (keeps_set hB)⟩
      · exact g.elim
  · exact g.elim

/-! ### raise X('..') -/
def dRaise (c : Str) : DS := fun env => .err ⟨c, []⟩ env
theorem s_raise {x : Str} {C : Addr} {m : Str} {j : Nat} {p p2 cp pos : Pos} (hc : X.calm = true) (tk : Takes X W) (q : PySem.W.excIn X.K C [.type "ValueError", .type "Exception", .type "BaseException", .type "object"] "ValueError.__new__" = true) (gC : X.mg x = some (.ref C)) (kC : PySem.W.keepIn X.K (.ref C) = true)
    (r1 : PySem.W.subIn X.K (.ref C) (.type "BaseException") = some true) (r2 : PySem.W.typeIn X.K (.ref C) = some (.type "type")) (hg : Gl X x := by rfl) (hdb : (x == ("__debug__" : Str)) = false := by decide) :
    DSt X W B (.Raise (some (.Call (.Name x p) [.Constant (.str m) j p2] [] cp)) none pos) (dRaise x) :=
  ⟨_, ps_raise hc tk (pmk_own PySem.F.excBase_ValueError q gC kC (raises_own r1 r2) hg hdb), fun O F σ H env Dn st g => g F H σ (.ref C) none Ext.refl st Keeps.refl ⟨C, gC, rfl, rfl, rfl⟩⟩
end
end DL
/-! DL9: the operations on data, each with its rule. -/
namespace DL
open PySem PySem.Spec PyProof.Rows L2

/-! ### data as the library's data -/
mutual
def toP : D → PyData
  | .non => .none
  | .bl b => .bool b
  | .int i => .int i
  | .str x => .str x
  | .lst ds => .list (toPs ds)
  | .tup ds => .tuple (toPs ds)
  | .fz ds => .list (toPs ds)
  | .exc _ _ => .none
  | .pr _ _ => .none
  | .rng _ _ => .none
def toPs : List D → List PyData
  | [] => []
  | d :: ds => toP d :: toPs ds
end
mutual
def plain : D → Bool
  | .lst ds => plains ds
  | .tup ds => plains ds
  | .fz ds => plains ds
  | .exc _ _ => false
  | .pr _ _ => false
  | .rng _ _ => false
  | _ => true
def plains : List D → Bool
  | [] => true
  | d :: ds => plain d && plains ds
end
mutual
theorem dp_of {K : PySem.W.Frag} {F : Fz} {H : Hp} : ∀ (d : D) (v : V), plain d = true → Rep K F H d v → Dp K H v (toP d)
  | .non, v, _, h => by rw [show v = V.non from h]; exact .non
  | .bl b, v, _, h => by rw [show v = V.bl b from h]; exact .bl b
  | .int i, v, _, h => by rw [show v = V.int i from h]; exact .int i
  | .str x, v, _, h => by rw [show v = V.str x from h]; exact .str x
  | .lst ds, v, p, h => by
    obtain ⟨a, vs, rfl, _, ha, r⟩ := h
    exact .lst (SqL.of ha) (dps_of ds vs p r)
  | .tup ds, v, p, h => by
    obtain ⟨a, vs, rfl, ha, r⟩ := h
    exact .tup ha.sq (dps_of ds vs p r)
  | .fz ds, v, p, h => by
    obtain ⟨a, vs, rfl, ha, r⟩ := h
    exact .lst ha.sq (dps_of ds vs p r)
  | .exc _ _, _, p, _ => by cases p
  | .pr _ _, _, p, _ => by cases p
  | .rng _ _, _, p, _ => by cases p
theorem dps_of {K : PySem.W.Frag} {F : Fz} {H : Hp} : ∀ (ds : List D) (vs : List V), plains ds = true → RepL K F H ds vs → DpAll K H vs (toPs ds)
  | [], vs, _, h => by rw [show vs = [] from h]; exact .nil
  | d :: ds, vs, p, h => by
    obtain ⟨v, r, rfl, h1, h2⟩ := h
    have q := Bool.and_eq_true_iff.mp (show (plain d && plains ds) = true from p)
    exact .cons (dp_of d v q.1 h1) (dps_of ds r q.2 h2)
end
theorem dp_top {K : PySem.W.Frag} {F : Fz} {H : Hp} {d : D} {v : V} (p : plain d = true) (h : RepT K F H d v) : Dp K H v (toP d) := by
  cases d with
  | lst ds =>
    obtain ⟨a, vs, rfl, ha, r⟩ := h
    exact .lst (SqL.of ha) (dps_of ds vs p r)
  | non => exact dp_of (F := F) _ _ p h
  | bl b => exact dp_of (F := F) _ _ p h
  | int i => exact dp_of (F := F) _ _ p h
  | str x => exact dp_of (F := F) _ _ p h
  | tup ds => exact dp_of (F := F) _ _ p h
  | fz ds => exact dp_of (F := F) _ _ p h
  | exc c fs => exact dp_of (F := F) _ _ p h
  | pr x y => exact dp_of (F := F) _ _ p h
  | rng x y => exact dp_of (F := F) _ _ p h
def okD (d : D) : Bool := plain d && SeqAt.shaped (toP d)
def deq (a b : D) : Bool := PyData.eqv (toP a) (toP b)

section
variable {X : Cx} {W : WX}
/-! ### whole numbers -/
def pInt2 (f : Int → Int → Option D) : Pr := fun ds => match ds with
  | [.int a, .int b] => (f a b).map PR.d
  | _ => none
theorem pr_int2 {K : PySem.W.Frag} {f : Int → Int → Option D} {r : R2} (h : ∀ a b d H (Q : VK), f a b = some d → (∀ v, (∀ K F H, Rep K F H d v) → Q v H) → r (.int a) (.int b) H Q) : PrimR K (pInt2 f) (two r) := fun F H ds vs Q pr fd rt e q => by
  unfold pInt2 at e
  split at e
  · rename_i a b
    obtain ⟨v, _, rfl, h1, w, _, rfl, h2, rfl⟩ := rt
    cases h1
    cases h2
    cases hf : f a b with
    | none => rw [hf] at e; cases e
    | some d =>
      rw [hf] at e
      cases e
      exact h a b d H Q hf fun v hv => q H v (Same.refl _) (hv _ _ _)
  · cases e
def pSub : Pr := pInt2 fun a b => some (.int (a - b))
theorem pr_sub {K : PySem.W.Frag} : PrimR K pSub (two (rI0 fun i j => .int (i - j))) := pr_int2 fun a b d H Q e q => by cases e; exact ⟨a, b, rfl, rfl, q _ fun _ _ _ => rfl⟩
def wideMul (a b : Int) : Bool := decide (a.natAbs.log2 + b.natAbs.log2 < 1000000)
def pFdiv : Pr := pInt2 fun a b => if 0 < b ∧ b.natAbs.log2 < 9000 then some (.int (a / b)) else none
theorem pr_fdiv {K : PySem.W.Frag} : PrimR K pFdiv (two (rI CDivW fun i j => .int (i / j))) := pr_int2 fun a b d H Q e q => by
  split at e
  · rename_i hb
    cases e
    exact ⟨a, b, rfl, rfl, hb, q _ fun _ _ _ => rfl⟩
  · cases e
def pMod : Pr := pInt2 fun a b => if 0 < b then some (.int (a % b)) else none
theorem pr_mod {K : PySem.W.Frag} : PrimR K pMod (two (rI (fun _ j => 0 < j) fun i j => .int (i % j))) := pr_int2 fun a b d H Q e q => by
  split at e
  · rename_i hb
    cases e
    exact ⟨a, b, rfl, rfl, hb, q _ fun _ _ _ => rfl⟩
  · cases e
def pPow : Pr := pInt2 fun a b => if 0 ≤ b ∧ b ≤ 1000000 ∧ a.natAbs < 2 ^ 64 then some (.int (a ^ b.toNat)) else none
theorem pr_pow {K : PySem.W.Frag} : PrimR K pPow (two (rI CPow fun i j => .int (i ^ j.toNat))) := pr_int2 fun a b d H Q e q => by
  split at e
  · rename_i hb
    cases e
    exact ⟨a, b, rfl, rfl, hb, q _ fun _ _ _ => rfl⟩
  · cases e
def pCmp (p : Int → Int → Bool) : Pr := pInt2 fun a b => some (.bl (p a b))
abbrev pLt : Pr := pCmp fun a b => decide (a < b)
abbrev pLe : Pr := pCmp fun a b => decide (a ≤ b)
abbrev pGt : Pr := pCmp fun a b => decide (b < a)
abbrev pGe : Pr := pCmp fun a b => decide (b ≤ a)
theorem pr_cmp {K : PySem.W.Frag} {p : Int → Int → Bool} : PrimR K (pCmp p) (two (rI0 fun i j => .bl (p i j))) := pr_int2 fun a b d H Q e q => by cases e; exact ⟨a, b, rfl, rfl, q _ fun _ _ _ => rfl⟩
def pNeg : Pr := fun ds => match ds with
  | [.int a] => some (.d (.int (-a)))
  | _ => none
theorem pr_neg {K : PySem.W.Frag} : PrimR K pNeg (one (rU fun i => .int (-i))) := fun F H ds vs Q pr fd rt e q => by
  unfold pNeg at e
  split at e
  · rename_i a
    obtain ⟨v, _, rfl, h1, rfl⟩ := rt
    cases h1
    cases e
    exact ⟨a, rfl, q H _ (Same.refl _) rfl⟩
  · cases e

/-! ### + -/
def pAdd : Pr := fun ds => match ds with
  | [.int a, .int b] => some (.d (.int (a + b)))
  | [.str a, .str b] => if a.length + b.length ≤ sizeLine then some (.d (.str (a ++ b))) else none
  | [.tup a, .tup b] => if a.length + b.length ≤ sizeLine then some (.d (.tup (a ++ b))) else none
  | [.lst a, .lst b] => if a.length + b.length ≤ sizeLine then some (.nl (a ++ b)) else none
  | _ => none
def rAddS : R2 := fun x y H Q => ∃ i j, x = .str i ∧ y = .str j ∧ i.length + j.length ≤ sizeLine ∧ Q (.str (i ++ j)) H
def rAddAll (K : PySem.W.Frag) : R2 := fun x y H Q => (rI0 fun i j => .int (i + j)) x y H Q ∨ rAddS x y H Q ∨ rCatL K x y H Q ∨ rCat x y H Q
theorem op_addAll : OpR X (binaryOp .Add) (rAddAll X.K) := op_add.or (OpR.or op_add_str (op_catL.or op_cat))
theorem pr_add {K : PySem.W.Frag} : PrimR K pAdd (two (rAddAll K)) := fun F H ds vs Q pr fd rt e q => by
  unfold pAdd at e
  split at e
  · rename_i a b
    obtain ⟨v, _, rfl, h1, w, _, rfl, h2, rfl⟩ := rt
    cases h1
    cases h2
    cases e
    exact .inl ⟨a, b, rfl, rfl, q H _ (Same.refl _) rfl⟩
  · rename_i a b
    obtain ⟨v, _, rfl, h1, w, _, rfl, h2, rfl⟩ := rt
    cases h1
    cases h2
    split at e
    · rename_i hl
      cases e
      exact .inr (.inl ⟨a, b, rfl, rfl, hl, q H _ (Same.refl _) rfl⟩)
    · cases e
  · rename_i a b
    obtain ⟨v, _, rfl, ⟨p, us, rfl, hp, r1⟩, w, _, rfl, ⟨p2, ws, rfl, hp2, r2⟩, rfl⟩ := rt
    split at e
    · rename_i hl
      cases e
      refine .inr (.inr (.inl ⟨p, p2, us, ws, rfl, rfl, hp.sq, hp2.sq, by rw [r1.length, r2.length]; exact hl, fun z => ?_, fun _ z => ?_, fun _ _ c o hd hc => ?_⟩))
      · subst z
        have : a = [] := List.eq_nil_of_length_eq_zero (by rw [← r1.length]; rfl)
        subst this
        exact q H _ (Same.refl _) ⟨p2, ws, rfl, hp2, r2⟩
      · subst z
        have : b = [] := List.eq_nil_of_length_eq_zero (by rw [← r2.length]; rfl)
        subst this
        refine q H _ (Same.refl _) ⟨p, us, rfl, hp, ?_⟩
        rw [List.append_nil]
        exact r1
      · exact q _ _ (same_new hc) ⟨c, us ++ ws, rfl, ⟨o, hd, upd_same⟩, repL_same (same_new hc) (r1.append r2)⟩
    · cases e
  · rename_i a b
    obtain ⟨v, _, rfl, ⟨p, us, rfl, hp, r1⟩, w, _, rfl, ⟨p2, ws, rfl, hp2, r2⟩, rfl⟩ := rt
    split at e
    · rename_i hl
      cases e
      refine .inr (.inr (.inr ⟨p, p2, us, ws, rfl, rfl, hp, hp2, by rw [r1.length, r2.length]; exact hl, fun c hc => ?_⟩))
      exact q _ _ (same_new hc) ⟨c, us ++ ws, rfl, hc, upd_same, repL_same (same_new hc) (r1.append r2)⟩
    · cases e
  · cases e
/-! ### * -/
def pMul : Pr := fun ds => match ds with
  | [.int a, .int b] => if wideMul a b = true then some (.d (.int (a * b))) else none
  | [.lst a, .int k] => if -(2 ^ 63) ≤ k ∧ k < 2 ^ 63 ∧ a.length * k.toNat ≤ sizeLine then some (.nl (List.replicate k.toNat a).flatten) else none
  | [.tup a, .int k] => if a ≠ [] ∧ 0 ≤ k ∧ k ≤ 1000 ∧ a.length ≤ 1000 then some (.d (.tup (List.replicate k.toNat a).flatten)) else none
  | _ => none
def rMulAll (K : PySem.W.Frag) : R2 := fun x y H Q => (rI CMulW fun i j => .int (i * j)) x y H Q ∨ rRep x y H Q ∨ rRepL K x y H Q
theorem op_mulAll : OpR X (binaryOp .Mult) (rMulAll X.K) := op_mulW.or (OpR.or op_rep op_repL)
theorem pr_mul {K : PySem.W.Frag} : PrimR K pMul (two (rMulAll K)) := fun F H ds vs Q pr fd rt e q => by
  unfold pMul at e
  split at e
  · rename_i a b
    obtain ⟨v, _, rfl, h1, w, _, rfl, h2, rfl⟩ := rt
    cases h1
    cases h2
    split at e
    · rename_i hw
      cases e
      exact .inl ⟨a, b, rfl, rfl, (show a.natAbs.log2 + b.natAbs.log2 < 1000000 by unfold wideMul at hw; exact of_decide_eq_true hw), q H _ (Same.refl _) rfl⟩
    · cases e
  · rename_i a k
    obtain ⟨v, _, rfl, ⟨p, us, rfl, hp, r1⟩, w, _, rfl, h2, rfl⟩ := rt
    cases h2
    split at e
    · rename_i hl
      cases e
      refine .inr (.inl ⟨p, k, us, rfl, rfl, hp, hl.1, hl.2.1, by rw [r1.length]; exact hl.2.2, fun c hc => ?_⟩)
      exact q _ _ (same_new hc) ⟨c, _, rfl, hc, upd_same, repL_same (same_new hc) (r1.rep k.toNat)⟩
    · cases e
  · rename_i a k
    obtain ⟨v, _, rfl, ⟨p, us, rfl, hp, r1⟩, w, _, rfl, h2, rfl⟩ := rt
    cases h2
    split at e
    · rename_i hl
      cases e
      refine .inr (.inr ⟨p, k, us, rfl, rfl, hp.sq, fun z => ?_, hl.2.1, hl.2.2.1, by rw [r1.length]; exact hl.2.2.2, fun hk => ?_, fun _ c o hd hc => ?_⟩)
      · subst z
        exact hl.1 (List.eq_nil_of_length_eq_zero (by rw [← r1.length]; rfl))
      · subst hk
        refine q H _ (Same.refl _) ⟨p, us, rfl, hp, ?_⟩
        have := r1.rep 1
        simpa using this
      · exact q _ _ (same_new hc) ⟨c, _, rfl, ⟨o, hd, upd_same⟩, repL_same (same_new hc) (r1.rep k.toNat)⟩
    · cases e
  · cases e
/-! ### ==, != of data; is -/
def pEq : Pr := fun ds => match ds with
  | [a, b] => if (okD a && okD b) = true then some (.d (.bl (deq a b))) else none
  | _ => none
def pNe : Pr := fun ds => match ds with
  | [a, b] => if (okD a && okD b) = true then some (.d (.bl (!deq a b))) else none
  | _ => none
theorem okD_and {a b : D} (h : (okD a && okD b) = true) : (plain a = true ∧ SeqAt.shaped (toP a) = true) ∧ plain b = true ∧ SeqAt.shaped (toP b) = true := by
  have h1 := Bool.and_eq_true_iff.mp h
  exact ⟨Bool.and_eq_true_iff.mp h1.1, Bool.and_eq_true_iff.mp h1.2⟩
theorem pr_eq {K : PySem.W.Frag} : PrimR K pEq (two (rEqD K)) := fun F H ds vs Q pr fd rt e q => by
  unfold pEq at e
  split at e
  · rename_i a b
    obtain ⟨v, _, rfl, h1, w, _, rfl, h2, rfl⟩ := rt
    split at e
    · rename_i hk
      cases e
      obtain ⟨⟨p1, s1⟩, p2, s2⟩ := okD_and hk
      exact ⟨toP a, toP b, dp_top p1 h1, dp_top p2 h2, s1, s2, q H _ (Same.refl _) rfl⟩
    · cases e
  · cases e
theorem pr_ne {K : PySem.W.Frag} : PrimR K pNe (two (rNeD K)) := fun F H ds vs Q pr fd rt e q => by
  unfold pNe at e
  split at e
  · rename_i a b
    obtain ⟨v, _, rfl, h1, w, _, rfl, h2, rfl⟩ := rt
    split at e
    · rename_i hk
      cases e
      obtain ⟨⟨p1, s1⟩, p2, s2⟩ := okD_and hk
      exact ⟨toP a, toP b, dp_top p1 h1, dp_top p2 h2, s1, s2, q H _ (Same.refl _) rfl⟩
    · cases e
  · cases e
def isNonD : D → Bool
  | .non => true
  | _ => false
@[simp] theorem isNonD_non : isNonD .non = true := rfl
@[simp] theorem isNonD_bl (b : Bool) : isNonD (.bl b) = false := rfl
@[simp] theorem isNonD_int (b : Int) : isNonD (.int b) = false := rfl
@[simp] theorem isNonD_str (b : Str) : isNonD (.str b) = false := rfl
@[simp] theorem isNonD_lst (b : List D) : isNonD (.lst b) = false := rfl
@[simp] theorem isNonD_tup (b : List D) : isNonD (.tup b) = false := rfl
@[simp] theorem isNonD_fz (b : List D) : isNonD (.fz b) = false := rfl
theorem isNonD_v {K : PySem.W.Frag} {F : Fz} {H : Hp} : ∀ {d : D} {v : V}, RepT K F H d v → decide (v = V.non) = isNonD d
  | .non, _, h => by rw [show _ = V.non from h]; rfl
  | .bl b, _, h => by rw [show _ = V.bl b from h]; exact decide_eq_false nofun
  | .int b, _, h => by rw [show _ = V.int b from h]; exact decide_eq_false nofun
  | .str b, _, h => by rw [show _ = V.str b from h]; exact decide_eq_false nofun
  | .lst _, _, ⟨a, _, e, _⟩ => by rw [e]; exact decide_eq_false nofun
  | .tup _, _, ⟨a, _, e, _⟩ => by rw [e]; exact decide_eq_false nofun
  | .pr _ _, _, ⟨a, _, _, e, _⟩ => by rw [e]; exact decide_eq_false nofun
  | .rng _ _, _, ⟨a, _, e, _⟩ => by rw [e]; exact decide_eq_false nofun
  | .fz _, _, ⟨a, _, e, _⟩ => by rw [e]; exact decide_eq_false nofun
  | .exc _ _, _, h => by
    obtain ⟨_, a, o, u, C, _, _, _, rfl, _⟩ := h
    simp [isNonD]
def pIsN : Pr := fun ds => match ds with
  | [a, .non] => some (.d (.bl (isNonD a)))
  | _ => none
def pNotN : Pr := fun ds => match ds with
  | [a, .non] => some (.d (.bl (!isNonD a)))
  | _ => none
def rIsN0 : R2 := fun x y H Q => y = .non ∧ Q (.bl (decide (x = .non))) H
def rNotN0 : R2 := fun x y H Q => y = .non ∧ Q (.bl (!decide (x = .non))) H
theorem pr_isN {K : PySem.W.Frag} : PrimR K pIsN (two rIsN0) := fun F H ds vs Q pr fd rt e q => by
  unfold pIsN at e
  split at e
  · rename_i a
    obtain ⟨v, _, rfl, h1, w, _, rfl, h2, rfl⟩ := rt
    cases h2
    cases e
    refine ⟨rfl, ?_⟩
    rw [isNonD_v h1]
    exact q H _ (Same.refl _) rfl
  · cases e
theorem pr_notN {K : PySem.W.Frag} : PrimR K pNotN (two rNotN0) := fun F H ds vs Q pr fd rt e q => by
  unfold pNotN at e
  split at e
  · rename_i a
    obtain ⟨v, _, rfl, h1, w, _, rfl, h2, rfl⟩ := rt
    cases h2
    cases e
    refine ⟨rfl, ?_⟩
    rw [isNonD_v h1]
    exact q H _ (Same.refl _) rfl
  · cases e
def pIsB : Pr := fun ds => match ds with
  | [.bl a, .bl b] => some (.d (.bl (decide (a = b))))
  | _ => none
def pNotB : Pr := fun ds => match ds with
  | [.bl a, .bl b] => some (.d (.bl (!decide (a = b))))
  | _ => none
theorem pr_isB {K : PySem.W.Frag} : PrimR K pIsB (two rIsB) := fun F H ds vs Q pr fd rt e q => by
  unfold pIsB at e
  split at e
  · rename_i a b
    obtain ⟨v, _, rfl, h1, w, _, rfl, h2, rfl⟩ := rt
    cases h1
    cases h2
    cases e
    exact ⟨a, b, rfl, rfl, q H _ (Same.refl _) rfl⟩
  · cases e
theorem pr_notB {K : PySem.W.Frag} : PrimR K pNotB (two rNotB) := fun F H ds vs Q pr fd rt e q => by
  unfold pNotB at e
  split at e
  · rename_i a b
    obtain ⟨v, _, rfl, h1, w, _, rfl, h2, rfl⟩ := rt
    cases h1
    cases h2
    cases e
    exact ⟨a, b, rfl, rfl, q H _ (Same.refl _) rfl⟩
  · cases e
/-! ### in, not in: flat things -/
def flatD : D → Bool
  | .non => true
  | .bl _ => true
  | .int _ => true
  | .str _ => true
  | _ => false
theorem flatD_v {K : PySem.W.Frag} {F : Fz} {H : Hp} : ∀ {d : D} {v : V}, Rep K F H d v → flatD d = true → flatV v = true
  | .non, _, h, _ => by rw [show _ = V.non from h]; rfl
  | .bl b, _, h, _ => by rw [show _ = V.bl b from h]; rfl
  | .int b, _, h, _ => by rw [show _ = V.int b from h]; rfl
  | .str b, _, h, _ => by rw [show _ = V.str b from h]; rfl
  | .lst _, _, _, f => by cases f
  | .tup _, _, _, f => by cases f
  | .fz _, _, _, f => by cases f
  | .exc _ _, _, _, f => by cases f
  | .pr _ _, _, _, f => by cases f
  | .rng _ _, _, _, f => by cases f
theorem eqV_d {K : PySem.W.Frag} {F : Fz} {H : Hp} {a b : D} {v w : V} (fa : flatD a = true) (fb : flatD b = true) (ha : Rep K F H a v) (hb : Rep K F H b w) : eqV v w = deq a b := by
  cases a with
  | lst _ => cases fa
  | tup _ => cases fa
  | fz _ => cases fa
  | exc _ _ => cases fa
  | pr _ _ => cases fa
  | rng _ _ => cases fa
  | _ =>
    cases b with
    | lst _ => cases fb
    | tup _ => cases fb
    | fz _ => cases fb
    | exc _ _ => cases fb
    | pr _ _ => cases fb
    | rng _ _ => cases fb
    | _ =>
      cases ha
      cases hb
      first | rfl | simp [eqV, deq, toP, PyData.eqv]
def inD (x : D) (xs : List D) : Bool := xs.any fun y => deq y x
theorem inV_d {K : PySem.W.Frag} {F : Fz} {H : Hp} {x : D} {v : V} (fx : flatD x = true) (hx : Rep K F H x v) : ∀ {xs : List D} {vs : List V}, xs.all flatD = true → RepL K F H xs vs → inV v vs = inD x xs ∧ vs.all flatV = true
  | [], vs, _, h => by rw [show vs = [] from h]; exact ⟨rfl, rfl⟩
  | d :: ds, vs, f, h => by
    obtain ⟨w, r, rfl, h1, h2⟩ := h
    have q := Bool.and_eq_true_iff.mp (show (flatD d && ds.all flatD) = true from f)
    obtain ⟨i1, i2⟩ := inV_d fx hx q.2 h2
    refine ⟨?_, ?_⟩
    · show (eqV w v || inV v r) = (deq d x || inD x ds)
      rw [eqV_d q.1 fx h1 hx, i1]
    · show (flatV w && r.all flatV) = true
      rw [flatD_v h1 q.1, i2]
      rfl
def flat_all (x : D) (xs : List D) : Bool := flatD x && xs.all flatD
def pInN (neg : Bool) : Pr := fun ds => match ds with
  | [x, .lst xs] => if flat_all x xs = true then some (.d (.bl (if neg then !inD x xs else inD x xs))) else none
  | [x, .tup xs] => if flat_all x xs = true then some (.d (.bl (if neg then !inD x xs else inD x xs))) else none
  | _ => none
theorem repT_flat {K : PySem.W.Frag} {F : Fz} {H : Hp} {x : D} {v : V} (h : RepT K F H x v) (f : flatD x = true) : Rep K F H x v := by
  cases x with
  | lst _ => cases f
  | _ => exact h
theorem pr_in {K : PySem.W.Frag} {neg : Bool} : PrimR K (pInN neg) (two (rIn K neg)) := fun F H ds vs Q pr fd rt e q => by
  unfold pInN at e
  split at e
  · rename_i x xs
    obtain ⟨v, _, rfl, h1, w, _, rfl, ⟨p, us, rfl, hp, r1⟩, rfl⟩ := rt
    split at e
    · rename_i hf
      cases e
      have qf := Bool.and_eq_true_iff.mp hf
      obtain ⟨i1, i2⟩ := inV_d qf.1 (repT_flat h1 qf.1) qf.2 r1
      refine ⟨p, us, rfl, .inl (SqL.of hp), flatD_v (repT_flat h1 qf.1) qf.1, i2, ?_⟩
      rw [i1]
      exact q H _ (Same.refl _) rfl
    · cases e
  · rename_i x xs
    obtain ⟨v, _, rfl, h1, w, _, rfl, ⟨p, us, rfl, hp, r1⟩, rfl⟩ := rt
    split at e
    · rename_i hf
      cases e
      have qf := Bool.and_eq_true_iff.mp hf
      obtain ⟨i1, i2⟩ := inV_d qf.1 (repT_flat h1 qf.1) qf.2 r1
      refine ⟨p, us, rfl, .inr (hp.sq), flatD_v (repT_flat h1 qf.1) qf.1, i2, ?_⟩
      rw [i1]
      exact q H _ (Same.refl _) rfl
    · cases e
  · cases e
/-! ### items -/
def pIx : Pr := fun ds => match ds with
  | [.lst xs, .int i] => (atI xs i).map PR.d
  | [.tup xs, .int i] => (atI xs i).map PR.d
  | [.fz xs, .int i] => (atI xs i).map PR.d
  | [.str z, .int i] => if z.length ≤ sizeLine then (atI z.cps.toList i).map fun c => PR.d (.str ⟨#[c]⟩) else none
  | _ => none
theorem repL_at {K : PySem.W.Frag} {F : Fz} {H : Hp} {xs : List D} {vs : List V} {i : Int} {d : D} (r : RepL K F H xs vs) (h : atI xs i = some d) : ∃ v, atI vs i = some v ∧ Rep K F H d v := by
  unfold atI at h ⊢
  rw [r.length]
  cases q : ixN xs.length i with
  | none => rw [q] at h; cases h
  | some j =>
    rw [q] at h
    exact r.get h
theorem pr_ix {K : PySem.W.Frag} : PrimR K pIx (two (rIx K)) := fun F H ds vs Q pr fd rt e q => by
  unfold pIx at e
  split at e
  · rename_i xs i
    obtain ⟨v, _, rfl, ⟨p, us, rfl, hp, r1⟩, w, _, rfl, h2, rfl⟩ := rt
    cases h2
    cases hx : atI xs i with
    | none => rw [hx] at e; cases e
    | some d =>
      rw [hx] at e
      cases e
      obtain ⟨u, hu, ru⟩ := repL_at r1 hx
      exact .inl ⟨p, us, i, u, rfl, rfl, SqL.of hp, hu, q H _ (Same.refl _) ru⟩
  · rename_i xs i
    obtain ⟨v, _, rfl, ⟨p, us, rfl, hp, r1⟩, w, _, rfl, h2, rfl⟩ := rt
    cases h2
    cases hx : atI xs i with
    | none => rw [hx] at e; cases e
    | some d =>
      rw [hx] at e
      cases e
      obtain ⟨u, hu, ru⟩ := repL_at r1 hx
      exact .inr (.inl ⟨p, us, i, u, rfl, rfl, hp.sq, hu, q H _ (Same.refl _) ru⟩)
  · rename_i xs i
    obtain ⟨v, _, rfl, ⟨p, us, rfl, hp, r1⟩, w, _, rfl, h2, rfl⟩ := rt
    cases h2
    cases hx : atI xs i with
    | none => rw [hx] at e; cases e
    | some d =>
      rw [hx] at e
      cases e
      obtain ⟨u, hu, ru⟩ := repL_at r1 hx
      exact .inl ⟨p, us, i, u, rfl, rfl, hp.sq, hu, q H _ (Same.refl _) ru⟩
  · rename_i z i
    obtain ⟨v, _, rfl, h1, w, _, rfl, h2, rfl⟩ := rt
    cases h1
    cases h2
    split at e
    · rename_i hz
      cases hx : atI z.cps.toList i with
      | none => rw [hx] at e; cases e
      | some c =>
        rw [hx] at e
        cases e
        exact .inr (.inr ⟨z, i, c, rfl, rfl, hz, hx, q H _ (Same.refl _) rfl⟩)
    · cases e
  · cases e
/-! ### built-ins -/
def pLen : Pr := fun ds => match ds with
  | [.lst xs] => some (.d (.int xs.length))
  | [.tup xs] => some (.d (.int xs.length))
  | [.fz xs] => some (.d (.int xs.length))
  | [.str z] => if z.length ≤ sizeLine then some (.d (.int z.length)) else none
  | _ => none
def rLen1 (K : PySem.W.Frag) : Rl := fun xs H Q => ∃ x n, xs = [x] ∧ LenV K x H n ∧ Q (.int n) H
theorem pr_len {K : PySem.W.Frag} : PrimR K pLen (rLen1 K) := fun F H ds vs Q pr fd rt e q => by
  unfold pLen at e
  split at e
  · obtain ⟨v, _, rfl, ⟨p, us, rfl, hp, r1⟩, rfl⟩ := rt
    cases e
    exact ⟨.ref p, us.length, rfl, .inl ⟨us, SqL.of hp, rfl⟩, by rw [r1.length]; exact q H _ (Same.refl _) rfl⟩
  · obtain ⟨v, _, rfl, ⟨p, us, rfl, hp, r1⟩, rfl⟩ := rt
    cases e
    exact ⟨.ref p, us.length, rfl, .inr ⟨us, hp.sq, rfl⟩, by rw [r1.length]; exact q H _ (Same.refl _) rfl⟩
  · obtain ⟨v, _, rfl, ⟨p, us, rfl, hp, r1⟩, rfl⟩ := rt
    cases e
    exact ⟨.ref p, us.length, rfl, .inl ⟨us, hp.sq, rfl⟩, by rw [r1.length]; exact q H _ (Same.refl _) rfl⟩
  · rename_i z
    obtain ⟨v, _, rfl, h1, rfl⟩ := rt
    cases h1
    split at e
    · rename_i hz
      cases e
      exact ⟨.str z, z.length, rfl, ⟨hz, rfl⟩, q H _ (Same.refl _) rfl⟩
    · cases e
  · cases e
def pIntOf : Pr := fun ds => match ds with
  | [.int a] => some (.d (.int a))
  | [.bl b] => some (.d (.int (if b then 1 else 0)))
  | _ => none
def rInt1 : Rl := fun xs H Q => (∃ i, xs = [.int i] ∧ Q (.int i) H) ∨ ∃ k, xs = [.bl k] ∧ Q (.int (if k then 1 else 0)) H
theorem pr_intOf {K : PySem.W.Frag} : PrimR K pIntOf rInt1 := fun F H ds vs Q pr fd rt e q => by
  unfold pIntOf at e
  split at e
  · obtain ⟨v, _, rfl, h1, rfl⟩ := rt
    cases h1
    cases e
    exact .inl ⟨_, rfl, q H _ (Same.refl _) rfl⟩
  · obtain ⟨v, _, rfl, h1, rfl⟩ := rt
    cases h1
    cases e
    exact .inr ⟨_, rfl, q H _ (Same.refl _) rfl⟩
  · cases e
def pMax : Pr := fun ds => match ds with
  | [.int i, .int j] => some (.d (.int (if j > i then j else i)))
  | _ => none
def pMin : Pr := fun ds => match ds with
  | [.int i, .int j] => some (.d (.int (if j < i then j else i)))
  | _ => none
def rMax2' : Rl := fun xs H Q => ∃ i j, xs = [.int i, .int j] ∧ Q (.int (if j > i then j else i)) H
def rMin2' : Rl := fun xs H Q => ∃ i j, xs = [.int i, .int j] ∧ Q (.int (if j < i then j else i)) H
theorem pr_max {K : PySem.W.Frag} : PrimR K pMax rMax2' := fun F H ds vs Q pr fd rt e q => by
  unfold pMax at e
  split at e
  · obtain ⟨v, _, rfl, h1, w, _, rfl, h2, rfl⟩ := rt
    cases h1
    cases h2
    cases e
    exact ⟨_, _, rfl, q H _ (Same.refl _) rfl⟩
  · cases e
theorem pr_min {K : PySem.W.Frag} : PrimR K pMin rMin2' := fun F H ds vs Q pr fd rt e q => by
  unfold pMin at e
  split at e
  · obtain ⟨v, _, rfl, h1, w, _, rfl, h2, rfl⟩ := rt
    cases h1
    cases h2
    cases e
    exact ⟨_, _, rfl, q H _ (Same.refl _) rfl⟩
  · cases e
def pTupOf : Pr := fun ds => match ds with
  | [.lst xs] => some (.d (.tup xs))
  | [.tup xs] => some (.d (.tup xs))
  | _ => none
theorem pr_tupOf {K : PySem.W.Frag} : PrimR K pTupOf (rTupOfL K) := fun F H ds vs Q pr fd rt e q => by
  unfold pTupOf at e
  split at e
  · obtain ⟨v, _, rfl, ⟨p, us, rfl, hp, r1⟩, rfl⟩ := rt
    cases e
    exact ⟨p, us, rfl, .inl ⟨SqL.of hp, fun c o hd hc => q _ _ (same_new hc) ⟨c, us, rfl, ⟨o, hd, upd_same⟩, repL_same (same_new hc) r1⟩⟩⟩
  · obtain ⟨v, _, rfl, ⟨p, us, rfl, hp, r1⟩, rfl⟩ := rt
    cases e
    exact ⟨p, us, rfl, .inr ⟨hp.sq, q H _ (Same.refl _) ⟨p, us, rfl, hp, r1⟩⟩⟩
  · cases e
def pLstOf : Pr := fun ds => match ds with
  | [.lst xs] => some (.nl xs)
  | [.tup xs] => some (.nl xs)
  | [.fz xs] => some (.nl xs)
  | _ => none
def rLstOf (K : PySem.W.Frag) : Rl := fun xs H Q => ∃ p ys, xs = [.ref p] ∧ (SqL K H p ys ∨ SqT K H p ys) ∧ ∀ l, H l = none → Q (.ref l) (upd H l (.lst ys))
theorem pr_lstOf {K : PySem.W.Frag} : PrimR K pLstOf (rLstOf K) := fun F H ds vs Q pr fd rt e q => by
  unfold pLstOf at e
  split at e
  · obtain ⟨v, _, rfl, ⟨p, us, rfl, hp, r1⟩, rfl⟩ := rt
    cases e
    exact ⟨p, us, rfl, .inl (SqL.of hp), fun c hc => q _ _ (same_new hc) ⟨c, us, rfl, hc, upd_same, repL_same (same_new hc) r1⟩⟩
  · obtain ⟨v, _, rfl, ⟨p, us, rfl, hp, r1⟩, rfl⟩ := rt
    cases e
    exact ⟨p, us, rfl, .inr hp.sq, fun c hc => q _ _ (same_new hc) ⟨c, us, rfl, hc, upd_same, repL_same (same_new hc) r1⟩⟩
  · obtain ⟨v, _, rfl, ⟨p, us, rfl, hp, r1⟩, rfl⟩ := rt
    cases e
    exact ⟨p, us, rfl, .inl (hp.sq), fun c hc => q _ _ (same_new hc) ⟨c, us, rfl, hc, upd_same, repL_same (same_new hc) r1⟩⟩
  · cases e
def blsOf : List D → Option (List Bool)
  | [] => some []
  | .bl b :: ds => (blsOf ds).map (b :: ·)
  | _ :: _ => none
theorem blsOf_v {K : PySem.W.Frag} {F : Fz} {H : Hp} : ∀ {ds : List D} {vs : List V} {bs : List Bool}, RepL K F H ds vs → blsOf ds = some bs → vs = bs.map V.bl
  | [], vs, bs, h, e => by cases e; exact h
  | d :: ds, vs, bs, h, e => by
    obtain ⟨v, r, rfl, h1, h2⟩ := h
    cases d with
    | bl b =>
      cases q : blsOf ds with
      | none => simp [blsOf, q] at e
      | some cs =>
        simp [blsOf, q] at e
        subst e
        rw [show v = V.bl b from h1, blsOf_v h2 q]
        rfl
    | _ => cases e
def pAll : Pr := fun ds => match ds with
  | [.lst xs] => (blsOf xs).map fun bs => PR.d (.bl (bs.all id))
  | _ => none
def pAny : Pr := fun ds => match ds with
  | [.lst xs] => (blsOf xs).map fun bs => PR.d (.bl (bs.any id))
  | _ => none
theorem pr_all {K : PySem.W.Frag} : PrimR K pAll (rAll K) := fun F H ds vs Q pr fd rt e q => by
  unfold pAll at e
  split at e
  · rename_i xs
    obtain ⟨v, _, rfl, ⟨p, us, rfl, hp, r1⟩, rfl⟩ := rt
    cases hb : blsOf xs with
    | none => rw [hb] at e; cases e
    | some bs =>
      rw [hb] at e
      cases e
      have := blsOf_v r1 hb
      subst this
      exact ⟨p, bs, rfl, SqL.of hp, q H _ (Same.refl _) rfl⟩
  · cases e
theorem pr_any {K : PySem.W.Frag} : PrimR K pAny (rAny K) := fun F H ds vs Q pr fd rt e q => by
  unfold pAny at e
  split at e
  · rename_i xs
    obtain ⟨v, _, rfl, ⟨p, us, rfl, hp, r1⟩, rfl⟩ := rt
    cases hb : blsOf xs with
    | none => rw [hb] at e; cases e
    | some bs =>
      rw [hb] at e
      cases e
      have := blsOf_v r1 hb
      subst this
      exact ⟨p, bs, rfl, SqL.of hp, q H _ (Same.refl _) rfl⟩
  · cases e
def intsOf : List D → Option (List Int)
  | [] => some []
  | .int b :: ds => (intsOf ds).map (b :: ·)
  | _ :: _ => none
theorem intsOf_v {K : PySem.W.Frag} {F : Fz} {H : Hp} : ∀ {ds : List D} {vs : List V} {bs : List Int}, RepL K F H ds vs → intsOf ds = some bs → vs = bs.map V.int
  | [], vs, bs, h, e => by cases e; exact h
  | d :: ds, vs, bs, h, e => by
    obtain ⟨v, r, rfl, h1, h2⟩ := h
    cases d with
    | int b =>
      cases q : intsOf ds with
      | none => simp [intsOf, q] at e
      | some cs =>
        simp [intsOf, q] at e
        subst e
        rw [show v = V.int b from h1, intsOf_v h2 q]
        rfl
    | _ => cases e
def pSum : Pr := fun ds => match ds with
  | [.lst xs] => (intsOf xs).map fun bs => PR.d (.int bs.sum)
  | _ => none
theorem pr_sum {K : PySem.W.Frag} : PrimR K pSum (rSum K) := fun F H ds vs Q pr fd rt e q => by
  unfold pSum at e
  split at e
  · rename_i xs
    obtain ⟨v, _, rfl, ⟨p, us, rfl, hp, r1⟩, rfl⟩ := rt
    cases hb : intsOf xs with
    | none => rw [hb] at e; cases e
    | some bs =>
      rw [hb] at e
      cases e
      have := intsOf_v r1 hb
      subst this
      exact ⟨p, bs, rfl, SqL.of hp, q H _ (Same.refl _) rfl⟩
  · cases e
end
end DL
/-! DL10: kinds of values, repr, slices; the rules by name. -/
namespace DL
open PySem PySem.Spec PyProof.Rows L2

section
variable {X : Cx} {W : WX} {B : Bs}
/-! ### isinstance of a built-in class; type(x) == T -/
def tyOf : D → Option String
  | .non => some "NoneType"
  | .bl _ => some "bool"
  | .int _ => some "int"
  | .str _ => some "str"
  | .lst _ => some "list"
  | .fz _ => none
  | .tup _ => some "tuple"
  | .exc _ _ => none
  | .pr _ _ => none
  | .rng _ _ => none
theorem tyX_of {K : PySem.W.Frag} {F : Fz} {H : Hp} : ∀ {d : D} {v : V} {n : String}, RepT K F H d v → tyOf d = some n → TyX K H v (.type n)
  | .non, _, _, h, e => by cases e; rw [show _ = V.non from h]; exact .base .non
  | .bl b, _, _, h, e => by cases e; rw [show _ = V.bl b from h]; exact .base (.bl b)
  | .int b, _, _, h, e => by cases e; rw [show _ = V.int b from h]; exact .base (.int b)
  | .str b, _, _, h, e => by cases e; rw [show _ = V.str b from h]; exact .base (.str b)
  | .lst _, _, _, h, e => by
    cases e
    obtain ⟨a, vs, rfl, ha, _⟩ := h
    exact .base (.lst ha)
  | .tup _, _, _, h, e => by
    cases e
    obtain ⟨a, vs, rfl, ⟨o, _, ha⟩, _⟩ := h
    exact .fTuple ha
  | .fz _, _, _, _, e => by cases e
  | .exc _ _, _, _, _, e => by cases e
  | .pr _ _, _, _, _, e => by cases e
  | .rng _ _, _, _, _, e => by cases e
def pIsI (T : String) : Pr := fun ds => match ds with
  | [d] => ((tyOf d).bind fun a => kitB a T).map fun b => PR.d (.bl b)
  | _ => none
def rIsI1 (K : PySem.W.Frag) (T : String) : Rl := fun vs H Q => match vs with
  | [x] => rIsi K [x, .ty T] H Q
  | _ => False
theorem pr_isI {K : PySem.W.Frag} {T : String} : PrimR K (pIsI T) (rIsI1 K T) := fun F H ds vs Q pr fd rt e q => by
  unfold pIsI at e
  split at e
  · rename_i d
    obtain ⟨v, _, rfl, h1, rfl⟩ := rt
    cases ht : tyOf d with
    | none => rw [ht] at e; cases e
    | some a =>
      rw [ht] at e
      cases hk : kitB a T with
      | none => simp [hk] at e
      | some b =>
        simp [hk] at e
        subst e
        exact ⟨v, .ty T, .type a, .type T, b, rfl, .ty T, tyX_of h1 ht, kit_ty hk, q H _ (Same.refl _) rfl⟩
  · cases e
theorem e_isI {T : String} {y : Str} {e : Expr} {o : Opd} {p py pos : Pos} (ha : DOp X W e o) (hm : X.mg "isinstance" = none) (hm2 : X.mg y = none) (hv2 : bootBuiltins y = some (.type T)) (hg : Gl X "isinstance" := by rfl) (hg2 : Gl X y := by rfl)
    (hn : y ≠ "__name__" := by decide) (hd : (y == ("__debug__" : Str)) = false := by decide)
    (h1 : starEach [e, .Name y py] X.env = (false, eval e X.env) :: starEach [.Name y py] X.env := by rfl) (h2 : starEach [.Name y py] X.env = (false, eval (.Name y py) X.env) :: starEach [] X.env := by rfl)
    (hpl : (backTo pos (starEach [.Name y py] X.env)).any (·.1) = false := by rfl) : DEv X W (.Call (.Name "isinstance" p) [e, .Name y py] [] pos) (dPrim (pIsI T) [o]) := by
  obtain ⟨t, h, s⟩ := ha
  refine ⟨_, pe_callB call_isi hg hm (by decide +kernel) (pa_cons h (pa_cons (pe_bltn (v := .ty T) hg2 hm2 hv2 rfl hn hd) pa_nil h2) h1) (he := h1) (hpl := hpl), ?_⟩
  exact fun O F σ H env Q st g => sem_prim (asem1 s) (pr_isI (T := T)) O F σ H env Q st g
/-- the built-in classes that == tells apart -/
def metaN : List String := ["NoneType", "bool", "int", "str", "list", "tuple"]
theorem meta_of {n : String} (h : metaN.contains n = true) : ∀ s' : Shared, s'.TypeIs (.type n) "type" := by
  have h' : n ∈ metaN := by simpa using h
  simp only [metaN, List.mem_cons, List.not_mem_nil, or_false] at h'
  rcases h' with rfl | rfl | rfl | rfl | rfl | rfl
  · exact PySem.TypeEq.meta_NoneType
  · exact PySem.TypeEq.meta_bool
  · exact PySem.TypeEq.meta_int
  · exact PySem.TypeEq.meta_str
  · exact PySem.TypeEq.meta_list
  · exact PySem.TypeEq.meta_tuple
def rTyEq : R2 := fun x y H Q => ∃ m n, x = .ty m ∧ y = .ty n ∧ metaN.contains m = true ∧ metaN.contains n = true ∧ Q (.bl (decide (m = n))) H
theorem op_tyEq : OpR X (compareOp .Eq) rTyEq := by
  intro pins s σ H x y v u Q I rx ry h
  obtain ⟨m, n, rfl, rfl, h1, h2, q⟩ := h
  cases (show v = Value.type m from rx)
  cases (show u = Value.type n from ry)
  by_cases e : m = n
  · subst e
    rw [decide_eq_true rfl] at q
    exact PySem.TypeEq.eq_type_same (meta_of h1) ⟨.bl true, H, I, rfl, q⟩
  · rw [decide_eq_false e] at q
    exact PySem.TypeEq.eq_type_other (meta_of h1) (meta_of h2) (by rw [ty_beq]; exact decide_eq_false e) ⟨.bl false, H, I, rfl, q⟩
def pTyIs (T : String) : Pr := fun ds => match ds with
  | [d] => if metaN.contains T = true then (tyOf d).map fun a => PR.d (.bl (decide (a = T))) else none
  | _ => none
theorem tyOf_meta : ∀ {d : D} {n : String}, tyOf d = some n → metaN.contains n = true
  | .non, _, e => by cases e; decide
  | .bl b, _, e => by cases e; decide
  | .int b, _, e => by cases e; decide
  | .str b, _, e => by cases e; decide
  | .lst _, _, e => by cases e; decide
  | .tup _, _, e => by cases e; decide
  | .fz _, _, e => by cases e
  | .exc _ _, _, e => by cases e
  | .pr _ _, _, e => by cases e
  | .rng _ _, _, e => by cases e
theorem tyB_of {K : PySem.W.Frag} {F : Fz} {H : Hp} : ∀ {d : D} {v : V} {n : String}, RepT K F H d v → tyOf d = some n → TyB K H v n
  | .non, _, _, h, e => by cases e; rw [show _ = V.non from h]; exact .non
  | .bl b, _, _, h, e => by cases e; rw [show _ = V.bl b from h]; exact .bl b
  | .int b, _, _, h, e => by cases e; rw [show _ = V.int b from h]; exact .int b
  | .str b, _, _, h, e => by cases e; rw [show _ = V.str b from h]; exact .str b
  | .lst _, _, _, h, e => by
    cases e
    obtain ⟨a, vs, rfl, ha, _⟩ := h
    exact .lst (SqL.of ha)
  | .tup _, _, _, h, e => by
    cases e
    obtain ⟨a, vs, rfl, ha, _⟩ := h
    exact .tup ha.sq
  | .fz _, _, _, _, e => by cases e
  | .exc _ _, _, _, _, e => by cases e
  | .pr _ _, _, _, _, e => by cases e
  | .rng _ _, _, _, _, e => by cases e
def rTyIs (K : PySem.W.Frag) (T : String) : Rl := fun vs H Q => rTyp K vs H fun x H' => rTyEq x (.ty T) H' Q
theorem pr_tyIs {K : PySem.W.Frag} {T : String} : PrimR K (pTyIs T) (rTyIs K T) := fun F H ds vs Q pr fd rt e q => by
  unfold pTyIs at e
  split at e
  · rename_i d
    obtain ⟨v, _, rfl, h1, rfl⟩ := rt
    split at e
    · rename_i hT
      cases ht : tyOf d with
      | none => rw [ht] at e; cases e
      | some a =>
        rw [ht] at e
        cases e
        exact ⟨_, a, rfl, tyB_of h1 ht, a, T, rfl, rfl, tyOf_meta ht, hT, q H _ (Same.refl _) rfl⟩
    · cases e
  · cases e
theorem e_tyIs {T : String} {y : Str} {e : Expr} {o : Opd} {p py cp pos : Pos} (ha : DOp X W e o) (hm : X.mg "type" = none) (hm2 : X.mg y = none) (hv2 : bootBuiltins y = some (.type T)) (hg : Gl X "type" := by rfl) (hg2 : Gl X y := by rfl)
    (hn : y ≠ "__name__" := by decide) (hd : (y == ("__debug__" : Str)) = false := by decide)
    (h1 : starEach [e] X.env = (false, eval e X.env) :: starEach [] X.env := by rfl) : DEv X W (.Compare (.Call (.Name "type" p) [e] [] cp) [.Eq] [.Name y py] pos) (dPrim (pTyIs T) [o]) := by
  obtain ⟨t, h, s⟩ := ha
  refine ⟨_, pe_cmpR op_tyEq (pe_callTy call_type1 hg hm (by decide +kernel) (pa_cons h pa_nil h1) (by decide) (by decide) h1 (by rfl)) (pe_bltn (v := .ty T) hg2 hm2 hv2 rfl hn hd) (nomark _), ?_⟩
  exact fun O F σ H env Q st g => sem_prim (asem1 s) (pr_tyIs (T := T)) O F σ H env Q st g
theorem t_tyIs {T : String} {y : Str} {e : Expr} {o : Opd} {p py cp pos : Pos} (ha : DOp X W e o) (hm : X.mg "type" = none) (hm2 : X.mg y = none) (hv2 : bootBuiltins y = some (.type T)) (hg : Gl X "type" := by rfl) (hg2 : Gl X y := by rfl)
    (hn : y ≠ "__name__" := by decide) (hd : (y == ("__debug__" : Str)) = false := by decide)
    (h1 : starEach [e] X.env = (false, eval e X.env) :: starEach [] X.env := by rfl) : DTst X W (.Compare (.Call (.Name "type" p) [e] [] cp) [.Eq] [.Name y py] pos) (dTst (dPrim (pTyIs T) [o])) := by
  obtain ⟨t, h, s⟩ := ha
  refine ⟨_, pt_cmpR op_tyEq (pe_callTy call_type1 hg hm (by decide +kernel) (pa_cons h pa_nil h1) (by decide) (by decide) h1 (by rfl)) (pe_bltn (v := .ty T) hg2 hm2 hv2 rfl hn hd) (nomark _), ?_⟩
  exact sem_tst (t := tOp rTyEq (tCB (rTyp X.K) (tCons t tNil)) (tC (.ty T))) (fun O F σ H env Q st g => sem_prim (asem1 s) (pr_tyIs (T := T)) O F σ H env Q st g) fun σ H Q q => q

/-! ### repr -/
def okR (d : D) : Bool := plain d && SeqAt.shaped (toP d) && (toP d).showable && decide ((toP d).shown.length ≤ sizeLine)
def pRepr : Pr := fun ds => match ds with
  | [d] => if okR d = true then some (.d (.str (toP d).shown)) else none
  | _ => none
def rRepr (K : PySem.W.Frag) : Rl := fun vs H Q => ∃ x d, vs = [x] ∧ Dp K H x d ∧ SeqAt.shaped d = true ∧ d.showable = true ∧ d.shown.length ≤ sizeLine ∧ Q (.str d.shown) H
theorem pr_repr {K : PySem.W.Frag} : PrimR K pRepr (rRepr K) := fun F H ds vs Q pr fd rt e q => by
  unfold pRepr at e
  split at e
  · rename_i d
    obtain ⟨v, _, rfl, h1, rfl⟩ := rt
    split at e
    · rename_i hk
      cases e
      have k1 := Bool.and_eq_true_iff.mp hk
      have k2 := Bool.and_eq_true_iff.mp k1.1
      have k3 := Bool.and_eq_true_iff.mp k2.1
      exact ⟨v, toP d, rfl, dp_top k3.1 h1, k3.2, k2.2, of_decide_eq_true k1.2, q H _ (Same.refl _) rfl⟩
    · cases e
  · cases e
theorem call_repr {k : Nat} (hr : GRoom k X.A) : CallR X (.builtin "repr") (rRepr X.K) := by
  intro pins s σ H xs us Q I r h
  obtain ⟨x, d, rfl, dp, sh, sw, sz, q⟩ := h
  obtain ⟨u, rfl, ru⟩ := vals1 r
  have fin : ∀ (h' : Heap) (y : Tok) (tk : Nat), (∀ b o, s.heap.get? b = some o → h'.get? b = some o) → EP X pins σ Q (.str d.shown y) { s with heap := h', toks := tk } := fun h' y tk hk => ⟨.str d.shown, H, I.kept (t' := tk) hk, ⟨y, rfl⟩, q⟩
  have fin0 : ∀ (y : Tok) (tk : Nat), EP X pins σ Q (.str d.shown y) { s with toks := tk } := fun y tk => fin s.heap y tk fun _ _ e => e
  obtain ⟨as, rd⟩ := Dp.reads I d x u dp ru
  cases dp with
  | non => cases ru; exact PySem.P.repr_of_none (fin0 _ _)
  | bl b => cases ru; exact PySem.P.repr_of_bool (fin0 _ _)
  | int i =>
    obtain ⟨t, rfl⟩ := ru
    exact PySem.P.repr_of_int (by simpa [PyData.showable] using sw) (fin0 _ _)
  | str x =>
    obtain ⟨t, rfl⟩ := ru
    exact PySem.P.repr_of_str (fin0 _ _) sz
  | lst hs ha =>
    cases ru
    have hd := SeqAt.depth_of_shaped sh
    refine repr_of_reads' rd sw (PyData.noDict_hsm (PyData.hasDict_of_canLay _ (SeqAt.canLay_of_shaped sh))) hr.gd ?_ (fun _ _ e => e) (fun h' y tk hk => fin h' y tk hk) sz
    have := hr.room.un
    omega
  | tup hs ha =>
    cases ru
    have hd := SeqAt.depth_of_shaped sh
    refine repr_of_reads' rd sw (PyData.noDict_hsm (PyData.hasDict_of_canLay _ (SeqAt.canLay_of_shaped sh))) hr.gd ?_ (fun _ _ e => e) (fun h' y tk hk => fin h' y tk hk) sz
    have := hr.room.un
    omega

/-! ### slices -/
def dPart (m : Option DE) : DEnv → R (Option Int) := fun env => match m with
  | none => .ok none env
  | some m => (m env).bind fun r env1 => match r with
    | ⟨.shr, .int i⟩ => .ok (some i) env1
    | _ => .bad
def PoSem (X : Cx) (W : WX) (t : TO) (m : Option DE) : Prop := ∀ O F σ H env (Q : Option Int → Hp → Prop), StOk X.K O F H σ env → (match dPart m env with
  | .ok o env' => ∀ F' H', Ext O F H F' H' → StOk X.K O F' H' σ env' → Q o H'
  | .err x env' => ∀ F' H' cls d, Ext O F H F' H' → StOk X.K O F' H' σ env' → ExcRep X.mg F' H' x cls d → W cls d σ H'
  | .bad => False) → t σ H Q
def DPo (X : Cx) (W : WX) (e : Option Expr) (m : Option DE) : Prop := ∃ t, PO X e t ∧ PoSem X W t m
theorem p_none : DPo X W none none := ⟨_, po_none, fun O F σ H env Q st g => g F H Ext.refl st⟩
theorem p_some {e : Expr} {m : DE} (h : DEv X W e m) : DPo X W (some e) (some m) := by
  obtain ⟨t, p, s⟩ := h
  refine ⟨_, po_some p, fun O F σ H env Q st g => s O F σ H env _ st ?_⟩
  simp only [dPart] at g
  cases q : m env with
  | bad => rw [q] at g; exact g.elim
  | err x e => rw [q] at g; exact g
  | ok r env1 =>
    rw [q] at g
    simp only [R.bind] at g
    intro F1 H1 v E1 s1 r1
    obtain ⟨md, d⟩ := r
    cases md with
    | shr =>
      cases d with
      | int i => exact ⟨i, r1, g F1 H1 E1 s1⟩
      | _ => exact g.elim
    | _ => exact g.elim
abbrev Ps := D → Option Int → Option Int → Option PR
def dSlice (p : Ps) (o : Opd) (lo hi : Option DE) : DE := fun env => (evOs [o] env).bind fun avs env1 => (dPart lo env1).bind fun l env2 => (dPart hi env2).bind fun u env3 => match getAVs env3 avs with
  | some [d] => (match p d l u with
    | some r => .ok r.ent env3
    | none => .bad)
  | _ => .bad
def SliceR (K : PySem.W.Frag) (p : Ps) (r : V → Option Int → Option Int → Hp → VK → Prop) : Prop := ∀ (F : Fz) (H : Hp) (d : D) (v : V) (l u : Option Int) (Q : VK) (pr : PR), (∀ a, F a → H a ≠ none) → RepT K F H d v → p d l u = some pr → (∀ H' v, Same H H' → PRep K F H H' pr v → Q v H') → r v l u H Q
theorem e_slice {p : Ps} {r : V → Option Int → Option Int → Hp → VK → Prop} {e : Expr} {lo hi : Option Expr} {o : Opd} {ml mh : Option DE} {p2 pos : Pos} (hr : SlR X r) (hp : SliceR X.K p r) (he : DOp X W e o) (hl : DPo X W lo ml) (hh : DPo X W hi mh) : DEv X W (.Subscript e (.Slice lo hi none p2) pos) (dSlice p o ml mh) := by
  obtain ⟨te, h1, s1⟩ := he
  obtain ⟨tl, h2, s2⟩ := hl
  obtain ⟨th, h3, s3⟩ := hh
  refine ⟨_, pe_slice hr h1 h2 h3, fun O F σ H env Q st g => ?_⟩
  have main := asem1 s1 O F σ H env (fun vs H1 => match vs with
    | [x] => tl σ H1 fun l H2 => th σ H2 fun u H3 => r x l u H3 Q
    | _ => False) st
  refine main ?_
  clear main
  unfold dSlice at g
  cases q : evOs [o] env with
  | bad => rw [q] at g; exact g.elim
  | err x e => rw [q] at g; exact g
  | ok avs env1 =>
    rw [q] at g
    simp only [R.bind] at g
    intro F1 H1 vs E1 st1 r1
    have lv : vs.length = 1 := by rw [AVs.length r1, lenO q]; rfl
    obtain ⟨v, rfl⟩ : ∃ v, vs = [v] := by
      cases vs with
      | nil => cases lv
      | cons v r =>
        cases r with
        | nil => exact ⟨v, rfl⟩
        | cons _ _ => simp at lv
    refine s2 O F1 σ H1 env1 _ st1 ?_
    cases q2 : dPart ml env1 with
    | bad => rw [q2] at g; exact g.elim
    | err x e => rw [q2] at g; exact fun F' H' c d e' s' r => g F' H' c d (E1.trans e') s' r
    | ok l env2 =>
      rw [q2] at g
      simp only [] at g
      intro F2 H2 E2 st2
      refine s3 O F2 σ H2 env2 _ st2 ?_
      cases q3 : dPart mh env2 with
      | bad => rw [q3] at g; exact g.elim
      | err x e => rw [q3] at g; exact fun F' H' c d e' s' r => g F' H' c d ((E1.trans E2).trans e') s' r
      | ok u env3 =>
        rw [q3] at g
        simp only [] at g
        intro F3 H3 E3 st3
        have r3 := (r1.ext E2).ext E3
        split at g
        · rename_i d hd
          obtain ⟨_, _, e1, rt, e2⟩ := AVs.tops st3 r3 hd
          cases e1
          split at g
          · rename_i pr hpr
            exact hp F3 H3 d v l u Q pr st3.fdom rt hpr fun H' w sm pv => g F3 H' w (((E1.trans E2).trans E3).trans (Ext.same sm st3.odom)) (st3.same sm) (prep_ent st3 pv)
          · exact g.elim
        · exact g.elim
/-- the part of a list of data -/
def cutD (xs : List D) (lo hi : Option Int) : List D := (xs.drop (HT.sIx xs.length 0 lo)).take (HT.sIx xs.length xs.length hi - HT.sIx xs.length 0 lo)
theorem cutD_v {K : PySem.W.Frag} {F : Fz} {H : Hp} {xs : List D} {vs : List V} (r : RepL K F H xs vs) (lo hi : Option Int) : RepL K F H (cutD xs lo hi) (cutV vs lo hi) := by
  unfold cutD cutV
  rw [r.length]
  exact (r.drop _).take _
def pSlice : Ps := fun d l u => match d with
  | .lst xs => some (.nl (cutD xs l u))
  | .fz xs => some (.nl (cutD xs l u))
  | .tup xs => some (.d (.tup (cutD xs l u)))
  | _ => none
def rSlAll (K : PySem.W.Frag) : V → Option Int → Option Int → Hp → VK → Prop := fun x lo hi H Q => rSlL K x lo hi H Q ∨ rSlTL K x lo hi H Q
theorem sl_all : SlR X (rSlAll X.K) := sl_list.or sl_tupL
theorem sr_all {K : PySem.W.Frag} : SliceR K pSlice (rSlAll K) := fun F H d v l u Q pr fd rt e q => by
  unfold pSlice at e
  split at e
  · rename_i xs
    cases e
    obtain ⟨a, vs, rfl, ha, r⟩ := rt
    exact .inl ⟨a, vs, rfl, SqL.of ha, fun c hc => q _ _ (same_new hc) ⟨c, _, rfl, hc, upd_same, repL_same (same_new hc) (cutD_v r l u)⟩⟩
  · rename_i xs
    cases e
    obtain ⟨a, vs, rfl, ha, r⟩ := rt
    exact .inl ⟨a, vs, rfl, ha.sq, fun c hc => q _ _ (same_new hc) ⟨c, _, rfl, hc, upd_same, repL_same (same_new hc) (cutD_v r l u)⟩⟩
  · rename_i xs
    cases e
    obtain ⟨a, vs, rfl, ha, r⟩ := rt
    refine .inr ⟨a, vs, rfl, ha.sq, fun z => ?_, fun _ c o hd hc => q _ _ (same_new hc) ⟨c, _, rfl, ⟨o, hd, upd_same⟩, repL_same (same_new hc) (cutD_v r l u)⟩⟩
    refine q H _ (Same.refl _) ⟨a, vs, rfl, ha, ?_⟩
    have hw : cutD xs l u = xs := by
      unfold cutD
      rw [r.length] at z
      rw [z.1, z.2, List.drop_zero, Nat.sub_zero, List.take_length]
    rw [hw]
    exact r
  · cases e
end
end DL
/-! DL11: the rules by short names. -/
namespace DL
open PySem PySem.Spec PyProof.Rows L2

section
variable {X : Cx} {W : WX} {B : Bs} {a b : Expr} {oa ob : Opd} {pos : Pos}
theorem x_add (ha : DOp X W a oa) (hb : DOp X W b ob) : DEv X W (.BinOp a .Add b pos) (dPrim pAdd [oa, ob]) := e_op op_addAll pr_add ha hb
theorem x_sub (ha : DOp X W a oa) (hb : DOp X W b ob) : DEv X W (.BinOp a .Sub b pos) (dPrim pSub [oa, ob]) := e_op op_sub pr_sub ha hb
theorem x_mul (ha : DOp X W a oa) (hb : DOp X W b ob) : DEv X W (.BinOp a .Mult b pos) (dPrim pMul [oa, ob]) := e_op op_mulAll pr_mul ha hb
theorem x_fdiv (ha : DOp X W a oa) (hb : DOp X W b ob) : DEv X W (.BinOp a .FloorDiv b pos) (dPrim pFdiv [oa, ob]) := e_op op_fdivW pr_fdiv ha hb
theorem x_mod (ha : DOp X W a oa) (hb : DOp X W b ob) : DEv X W (.BinOp a .Mod b pos) (dPrim pMod [oa, ob]) := e_op op_mod pr_mod ha hb
theorem x_pow (ha : DOp X W a oa) (hb : DOp X W b ob) : DEv X W (.BinOp a .Pow b pos) (dPrim pPow [oa, ob]) := e_op op_pow pr_pow ha hb
theorem x_neg (ha : DOp X W a oa) : DEv X W (.UnaryOp .USub a pos) (dPrim pNeg [oa]) := e_un un_neg pr_neg ha
theorem x_lt (ha : DOp X W a oa) (hb : DOp X W b ob) : DEv X W (.Compare a [.Lt] [b] pos) (dPrim pLt [oa, ob]) := e_cmp op_lt pr_cmp ha hb (nomark _)
theorem x_le (ha : DOp X W a oa) (hb : DOp X W b ob) : DEv X W (.Compare a [.LtE] [b] pos) (dPrim pLe [oa, ob]) := e_cmp op_le pr_cmp ha hb (nomark _)
theorem x_gt (ha : DOp X W a oa) (hb : DOp X W b ob) : DEv X W (.Compare a [.Gt] [b] pos) (dPrim pGt [oa, ob]) := e_cmp op_gt pr_cmp ha hb (nomark _)
theorem x_ge (ha : DOp X W a oa) (hb : DOp X W b ob) : DEv X W (.Compare a [.GtE] [b] pos) (dPrim pGe [oa, ob]) := e_cmp op_ge pr_cmp ha hb (nomark _)
theorem y_lt (ha : DOp X W a oa) (hb : DOp X W b ob) : DTst X W (.Compare a [.Lt] [b] pos) (dTst (dPrim pLt [oa, ob])) := t_cmp op_lt pr_cmp ha hb (nomark _)
theorem y_le (ha : DOp X W a oa) (hb : DOp X W b ob) : DTst X W (.Compare a [.LtE] [b] pos) (dTst (dPrim pLe [oa, ob])) := t_cmp op_le pr_cmp ha hb (nomark _)
theorem y_gt (ha : DOp X W a oa) (hb : DOp X W b ob) : DTst X W (.Compare a [.Gt] [b] pos) (dTst (dPrim pGt [oa, ob])) := t_cmp op_gt pr_cmp ha hb (nomark _)
theorem y_ge (ha : DOp X W a oa) (hb : DOp X W b ob) : DTst X W (.Compare a [.GtE] [b] pos) (dTst (dPrim pGe [oa, ob])) := t_cmp op_ge pr_cmp ha hb (nomark _)
variable {k : Nat}
theorem units_of (hr : GRoom k X.A) : X.A.units + 64 < cLine := by have := hr.room.un; omega
theorem x_eq (hr : GRoom k X.A) (ha : DOp X W a oa) (hb : DOp X W b ob) : DEv X W (.Compare a [.Eq] [b] pos) (dPrim pEq [oa, ob]) := e_cmp (op_eqD (units_of hr)) pr_eq ha hb (nomark _)
theorem x_ne (hr : GRoom k X.A) (ha : DOp X W a oa) (hb : DOp X W b ob) : DEv X W (.Compare a [.NotEq] [b] pos) (dPrim pNe [oa, ob]) := e_cmp (op_neD (units_of hr)) pr_ne ha hb (nomark _)
theorem y_eq (hr : GRoom k X.A) (ha : DOp X W a oa) (hb : DOp X W b ob) : DTst X W (.Compare a [.Eq] [b] pos) (dTst (dPrim pEq [oa, ob])) := t_cmp (op_eqD (units_of hr)) pr_eq ha hb (nomark _)
theorem y_ne (hr : GRoom k X.A) (ha : DOp X W a oa) (hb : DOp X W b ob) : DTst X W (.Compare a [.NotEq] [b] pos) (dTst (dPrim pNe [oa, ob])) := t_cmp (op_neD (units_of hr)) pr_ne ha hb (nomark _)
theorem x_isN (ha : DOp X W a oa) (hb : DOp X W b ob) : DEv X W (.Compare a [.Is] [b] pos) (dPrim pIsN [oa, ob]) := e_cmp op_isN pr_isN ha hb (nomark _)
theorem x_notN (ha : DOp X W a oa) (hb : DOp X W b ob) : DEv X W (.Compare a [.IsNot] [b] pos) (dPrim pNotN [oa, ob]) := e_cmp op_notN pr_notN ha hb (nomark _)
theorem y_isN (ha : DOp X W a oa) (hb : DOp X W b ob) : DTst X W (.Compare a [.Is] [b] pos) (dTst (dPrim pIsN [oa, ob])) := t_cmp op_isN pr_isN ha hb (nomark _)
theorem y_notN (ha : DOp X W a oa) (hb : DOp X W b ob) : DTst X W (.Compare a [.IsNot] [b] pos) (dTst (dPrim pNotN [oa, ob])) := t_cmp op_notN pr_notN ha hb (nomark _)
theorem x_isB (ha : DOp X W a oa) (hb : DOp X W b ob) : DEv X W (.Compare a [.Is] [b] pos) (dPrim pIsB [oa, ob]) := e_cmp op_isBl pr_isB ha hb (nomark _)
theorem x_notB (ha : DOp X W a oa) (hb : DOp X W b ob) : DEv X W (.Compare a [.IsNot] [b] pos) (dPrim pNotB [oa, ob]) := e_cmp op_notBl pr_notB ha hb (nomark _)
theorem y_isB (ha : DOp X W a oa) (hb : DOp X W b ob) : DTst X W (.Compare a [.Is] [b] pos) (dTst (dPrim pIsB [oa, ob])) := t_cmp op_isBl pr_isB ha hb (nomark _)
theorem y_notB (ha : DOp X W a oa) (hb : DOp X W b ob) : DTst X W (.Compare a [.IsNot] [b] pos) (dTst (dPrim pNotB [oa, ob])) := t_cmp op_notBl pr_notB ha hb (nomark _)
theorem x_in (hm : behindInMarks .In b = false) (ha : DOp X W a oa) (hb : DOp X W b ob) : DEv X W (.Compare a [.In] [b] pos) (dPrim (pInN false) [oa, ob]) := e_cmp op_in_seq pr_in ha hb hm
theorem x_notIn (hm : behindInMarks .NotIn b = false) (ha : DOp X W a oa) (hb : DOp X W b ob) : DEv X W (.Compare a [.NotIn] [b] pos) (dPrim (pInN true) [oa, ob]) := e_cmp op_notIn_seq pr_in ha hb hm
theorem y_in (hm : behindInMarks .In b = false) (ha : DOp X W a oa) (hb : DOp X W b ob) : DTst X W (.Compare a [.In] [b] pos) (dTst (dPrim (pInN false) [oa, ob])) := t_cmp op_in_seq pr_in ha hb hm
theorem y_notIn (hm : behindInMarks .NotIn b = false) (ha : DOp X W a oa) (hb : DOp X W b ob) : DTst X W (.Compare a [.NotIn] [b] pos) (dTst (dPrim (pInN true) [oa, ob])) := t_cmp op_notIn_seq pr_in ha hb hm
theorem x_ix (ha : DOp X W a oa) (hb : DOp X W b ob) (hs : PlainIx b) : DEv X W (.Subscript a b pos) (dPrim pIx [oa, ob]) := e_ix ix_seq pr_ix ha hb hs
theorem x_slice {lo hi : Option Expr} {ml mh : Option DE} {p2 : Pos} (ha : DOp X W a oa) (hl : DPo X W lo ml) (hh : DPo X W hi mh) : DEv X W (.Subscript a (.Slice lo hi none p2) pos) (dSlice pSlice oa ml mh) := e_slice sl_all sr_all ha hl hh
variable {p : Pos} {e : Expr} {o : Opd}
/-- one argument of a built-in -/
abbrev S1 (X : Cx) (e : Expr) : Prop := starEach (e :: []) X.env = (false, eval e X.env) :: starEach [] X.env
theorem a1 (ha : DOp X W e o) (hs : S1 X e) : DAs X W [e] [o] := a_cons ha a_nil hs
theorem x_len (hm : X.mg "len" = none) (ha : DOp X W e o) (hg : Gl X "len" := by rfl) (hs : S1 X e := by rfl) (hpl : (backTo pos (starEach [] X.env)).any (·.1) = false := by rfl) : DEv X W (.Call (.Name "len" p) [e] [] pos) (dPrim pLen [o]) := e_callB call_len pr_len hg hm PySem.boot_len (a1 ha hs) (he := hs) (hpl := hpl)
theorem x_repr (hr : GRoom k X.A) (hm : X.mg "repr" = none) (ha : DOp X W e o) (hg : Gl X "repr" := by rfl) (hs : S1 X e := by rfl) (hpl : (backTo pos (starEach [] X.env)).any (·.1) = false := by rfl) : DEv X W (.Call (.Name "repr" p) [e] [] pos) (dPrim pRepr [o]) := e_callB (call_repr hr) pr_repr hg hm (by decide +kernel) (a1 ha hs) (he := hs) (hpl := hpl)
theorem x_all (hc : X.calm = true) (hm : X.mg "all" = none) (ha : DOp X W e o) (hg : Gl X "all" := by rfl) (hs : S1 X e := by rfl) (hpl : (backTo pos (starEach [] X.env)).any (·.1) = false := by rfl) : DEv X W (.Call (.Name "all" p) [e] [] pos) (dPrim pAll [o]) := e_callB (cr_all hc) pr_all hg hm (by decide +kernel) (a1 ha hs) (he := hs) (hpl := hpl)
theorem x_any (hc : X.calm = true) (hm : X.mg "any" = none) (ha : DOp X W e o) (hg : Gl X "any" := by rfl) (hs : S1 X e := by rfl) (hpl : (backTo pos (starEach [] X.env)).any (·.1) = false := by rfl) : DEv X W (.Call (.Name "any" p) [e] [] pos) (dPrim pAny [o]) := e_callB (cr_any hc) pr_any hg hm (by decide +kernel) (a1 ha hs) (he := hs) (hpl := hpl)
theorem x_sum (hc : X.calm = true) (hm : X.mg "sum" = none) (ha : DOp X W e o) (hg : Gl X "sum" := by rfl) (hs : S1 X e := by rfl) (hpl : (backTo pos (starEach [] X.env)).any (·.1) = false := by rfl) : DEv X W (.Call (.Name "sum" p) [e] [] pos) (dPrim pSum [o]) := e_callB (cr_sum hc) pr_sum hg hm (by decide +kernel) (a1 ha hs) (he := hs) (hpl := hpl)
theorem x_int (hm : X.mg "int" = none) (ha : DOp X W e o) (hg : Gl X "int" := by rfl) (hs : S1 X e := by rfl) (hpl : (backTo pos (starEach [] X.env)).any (·.1) = false := by rfl) : DEv X W (.Call (.Name "int" p) [e] [] pos) (dPrim pIntOf [o]) := e_callTy call_int1 pr_intOf hg hm (by decide +kernel) (a1 ha hs) (he := hs) (hpl := hpl)
theorem x_tuple (hm : X.mg "tuple" = none) (ha : DOp X W e o) (hg : Gl X "tuple" := by rfl) (hs : S1 X e := by rfl) (hpl : (backTo pos (starEach [] X.env)).any (·.1) = false := by rfl) : DEv X W (.Call (.Name "tuple" p) [e] [] pos) (dPrim pTupOf [o]) := e_callTy call_tuple_ofL pr_tupOf hg hm (by decide +kernel) (a1 ha hs) (he := hs) (hpl := hpl)
theorem x_list (hm : X.mg "list" = none) (ha : DOp X W e o) (hg : Gl X "list" := by rfl) (hs : S1 X e := by rfl) (hpl : (backTo pos (starEach [] X.env)).any (·.1) = false := by rfl) : DEv X W (.Call (.Name "list" p) [e] [] pos) (dPrim pLstOf [o]) := e_callTy call_list_of pr_lstOf hg hm (by decide +kernel) (a1 ha hs) (he := hs) (hpl := hpl)
theorem x_max (hc : X.calm = true) (hm : X.mg "max" = none) (ha : DAs X W [a, b] [oa, ob]) (hg : Gl X "max" := by rfl) (hs : starEach [a, b] X.env = (false, eval a X.env) :: starEach [b] X.env := by rfl) (hpl : (backTo pos (starEach [b] X.env)).any (·.1) = false := by rfl) : DEv X W (.Call (.Name "max" p) [a, b] [] pos) (dPrim pMax [oa, ob]) := e_callB (call_max2 hc) pr_max hg hm (by decide +kernel) ha (he := hs) (hpl := hpl)
theorem x_min (hc : X.calm = true) (hm : X.mg "min" = none) (ha : DAs X W [a, b] [oa, ob]) (hg : Gl X "min" := by rfl) (hs : starEach [a, b] X.env = (false, eval a X.env) :: starEach [b] X.env := by rfl) (hpl : (backTo pos (starEach [b] X.env)).any (·.1) = false := by rfl) : DEv X W (.Call (.Name "min" p) [a, b] [] pos) (dPrim pMin [oa, ob]) := e_callB (call_min2 hc) pr_min hg hm (by decide +kernel) ha (he := hs) (hpl := hpl)
/-- a target that is not a name alone -/
def dAsg (g : DG) (m : DE) : DS := fun env => (m env).bind fun r env1 => match g r.d env1 with
  | some env2 => .ok .nx env2
  | none => .bad
theorem s_asg {tg : Expr} {g : DG} {m : DE} (hm : DEv X W e m) (hg : DTg X B tg g) (hs : swapsWithSole [tg] e pos.line X.env = pure false := by rfl) (hw : swappedStores [tg] e X.env = pure none := by rfl) (hz : (assignEach [tg] X.env).map (·.2) = [assign tg X.env] := by rfl) : DSt X W B (.Assign [tg] e pos) (dAsg g m) := by
  obtain ⟨te, h1, s1⟩ := hm
  obtain ⟨tg', h2, s2⟩ := hg
  refine ⟨_, ps_asg h1 h2 hs hw hz, fun O F σ H env Dn st g0 => s1 O F σ H env _ st ?_⟩
  unfold dAsg at g0
  cases q : m env with
  | bad => rw [q] at g0; exact g0.elim
  | err x e => rw [q] at g0; exact fun F' H' c d e' s' r => g0 F' H' σ c d e' s' Keeps.refl r
  | ok r env1 =>
    rw [q] at g0
    simp only [R.bind] at g0
    intro F1 H1 v E1 st1 r1
    obtain ⟨F2, E2, st2, r2⟩ := freeze st1 r1
    cases q2 : g r.d env1 with
    | none => rw [q2] at g0; exact g0.elim
    | some env2 =>
      rw [q2] at g0
      exact s2 O F2 σ H1 env1 r.d v env2 _ st2 r2 q2 fun σ' st' k' => g0 F2 H1 σ' (E1.trans E2) st' k'
end
end DL
/-! DL12: the law's end; the data's own rules for reckoning. -/
namespace DL
open PySem PySem.Spec PyProof.Rows L2
def dInts (ns : List Int) : List D := ns.map D.int
theorem repL_ints {K : PySem.W.Frag} {F : Fz} {H : Hp} : ∀ ns : List Int, RepL K F H (dInts ns) (ns.map V.int)
  | [] => RepL.nil
  | n :: ns => RepL.cons rfl (repL_ints ns)
theorem law_end {K : PySem.W.Frag} {mg : Str → Option Value} {H : Hp} {a : Addr} {ns : List Int} {f : DFn} (hS : SqF K H a (ns.map V.int)) (h : ∃ o, f [⟨.shr, .fz (dInts ns)⟩] = .ok ⟨.shr, .bl true⟩ o) : spD K mg false 1 f [.ref a] H (fun v _ => v = .bl true) fun _ _ _ => False := by
  obtain ⟨o, h⟩ := h
  refine ⟨fun _ => False, fun _ => False, [⟨.shr, .fz (dInts ns)⟩], rfl, ⟨rfl, fun i d q => ?_, fun i m d q hm => ?_, fun i j b ⟨m, d, q, hm, _⟩ => ?_, fun _ z => z.elim, fun _ z => z.elim⟩, ?_⟩
  · cases i with
    | zero =>
      simp at q
      subst q
      exact ⟨.ref a, rfl, a, _, rfl, hS, repL_ints ns⟩
    | succ i => simp at q
  · cases i with
    | zero =>
      simp at q
      exact absurd q.1.symm hm
    | succ i => simp at q
  · cases i with
    | zero =>
      simp at q
      exact absurd q.1.symm hm
    | succ i => simp at q
  · rw [h]
    intro F' H' v _ _ r
    exact r
end DL
/-! DLQ: comprehensions of two clauses. -/
namespace DL
open PySem PySem.Spec PyProof.Rows L2
def tOfI (X : Cx) (W : WX) (m : DI) : TI := fun σ H R' => ∃ O F env, StOk X.K O F H σ env ∧ (match m env with
  | .ok xs env' => ∀ F' H' J, Ext O F H F' H' → StOk X.K O F' H' σ env' → Walks X.K O F' H' J xs → R' J H'
  | .err x env' => ∀ F' H' cls d, Ext O F H F' H' → StOk X.K O F' H' σ env' → ExcRep X.mg F' H' x cls d → W cls d σ H'
  | .bad => False)
theorem DIt.pi {X : Cx} {W : WX} {tg iter : Expr} {m : DI} (h : DIt X W tg iter m) : PI X tg iter (tOfI X W m) := by
  obtain ⟨wi, p, s⟩ := h
  exact ⟨fun pins s0 σ H R' I ⟨O, F, env, st, g⟩ => p.run pins s0 σ H R' I (s O F σ H env R' st g)⟩
def dLoop2 (vs vs1 : List Nat) (g : DG) (c : DT) (it1 : DI) (g1 : DG) (c1 : DT) (e : DE) : List D → List D → DEnv → R (List D)
  | [], acc, env => .ok acc env
  | x :: xs, acc, env => match g x env with
    | none => .bad
    | some env1 => match c env1 with
      | .ok true env2 => (match it1 env2 with
        | .ok ys env3 => (match dLoop vs1 g1 c1 e ys acc (wipeD env3 vs1) with
          | .ok acc' env4 => dLoop2 vs vs1 g c it1 g1 c1 e xs acc' (wipeD env4 vs)
          | _ => .bad)
        | _ => .bad)
      | .ok false env2 => dLoop2 vs vs1 g c it1 g1 c1 e xs acc (wipeD env2 vs)
      | _ => .bad
def dComp2 (vs vs1 : List Nat) (it : DI) (g : DG) (c : DT) (it1 : DI) (g1 : DG) (c1 : DT) (e : DE) : DE := fun env => (it env).bind fun xs env1 => match dLoop2 vs vs1 g c it1 g1 c1 e xs [] (wipeD env1 vs) with
  | .ok acc env2 => .ok ⟨.own, .lst acc⟩ (backD env1 env2 vs)
  | _ => .bad
theorem wipe_sub {σ : L2.St} {vs vs1 : List Nat} (h : ∀ i ∈ vs1, i ∈ vs) : wipe (wipe σ vs1) vs = wipe σ vs := by
  apply List.ext_getElem?
  intro i
  by_cases hi : i ∈ vs
  · have none_at : ∀ τ : L2.St, (wipe τ vs)[i]? = none ∨ (wipe τ vs)[i]? = some none := fun τ => by
      cases q : (wipe τ vs)[i]? with
      | none => exact .inl rfl
      | some o =>
        cases o with
        | none => exact .inr rfl
        | some x => exact absurd hi (wipe_some q).2
    by_cases hlt : i < σ.length
    · have h1 : i < (wipe σ vs).length := by rw [wipe_length]; exact hlt
      have h2 : i < (wipe (wipe σ vs1) vs).length := by rw [wipe_length, wipe_length]; exact hlt
      rcases none_at σ with a | a
      · rw [List.getElem?_eq_getElem h1] at a; cases a
      · rcases none_at (wipe σ vs1) with b | b
        · rw [List.getElem?_eq_getElem h2] at b; cases b
        · rw [a, b]
    · rw [List.getElem?_eq_none (by rw [wipe_length, wipe_length]; omega), List.getElem?_eq_none (by rw [wipe_length]; omega)]
  · rw [wipe_get hi, wipe_get hi, wipe_get fun z => hi (h i z)]
section
variable {X : Cx} {W : WX} {B : Bs}
theorem sem_comp2 {vs vs1 : List Nat} {wi : TI} {mi mi1 : DI} {g g1 : DG} {mc mc1 : DT} {me : DE} (hv : ∀ i ∈ vs1, i ∈ vs) (hi : ISem X W wi mi) :
    ESem X W (tLc2 wi (tOfG X (notIn vs) g) (tOfT X W0 mc) (tOfI X W0 mi1) (tOfG X (notIn vs1) g1) (tOfT X W0 mc1) (tOfE X W0 me) vs vs1) (dComp2 vs vs1 mi g mc mi1 g1 mc1 me) := fun O F σ H env Q st g0 => by
  refine hi O F σ H env _ st ?_
  unfold dComp2 at g0
  cases q : mi env with
  | bad => rw [q] at g0; exact g0.elim
  | err x e => rw [q] at g0; exact g0
  | ok xs env1 =>
    rw [q] at g0
    simp only [R.bind] at g0
    intro F1 H1 J E1 st1 wk Dl hD
    cases q2 : dLoop2 vs vs1 g mc mi1 g1 mc1 me xs [] (wipeD env1 vs) with
    | bad => rw [q2] at g0; exact g0.elim
    | err x e => rw [q2] at g0; exact g0.elim
    | ok acc env2 =>
      rw [q2] at g0
      simp only [] at g0
      have smD : Same H1 (upd H1 Dl (.lst [])) := same_new hD
      have stD : StOk X.K O F1 (upd H1 Dl (.lst [])) σ env1 := st1.same smD
      have ED : Ext O F1 H1 F1 (upd H1 Dl (.lst [])) := Ext.same smD st1.odom
      have nF1 : ¬ F1 Dl := fun f => st1.fdom Dl f hD
      have nO : ¬ O Dl := fun f => st1.odom Dl f hD
      have nOw : ∀ i, ¬ OwnAt env1 σ i Dl := fun i ⟨m, d, h1, h2, h3⟩ => by
        obtain ⟨a, ws, _, _, e2, e3, _⟩ := st1.own i m d h1 h2
        rw [h3] at e2; cases e2
        rw [hD] at e3; cases e3
      let O' : Fz := fun a => O a ∨ a = Dl
      have EO : ∀ a, O a → O' a := fun a h => .inl h
      have stI : StOk X.K O' F1 (upd H1 Dl (.lst [])) (wipe σ vs) (wipeD env1 vs) := by
        have s2 := stD.wiped vs
        refine ⟨s2.len, s2.shr, fun i m d q n => ?_, s2.inj, s2.fdom, fun a h => ?_⟩
        · obtain ⟨a, ws, ds, h1, h2, h3, h4, h5, h6⟩ := s2.own i m d q n
          refine ⟨a, ws, ds, h1, h2, h3, h4, h5, fun z => ?_⟩
          rcases z with z | z
          · exact h6 z
          · subst z
            obtain ⟨q1, q2⟩ := wipeD_get q
            rw [wipe_get q2] at h2
            exact nOw i ⟨m, d, q1, n, h2⟩
        · rcases h with h | h
          · exact s2.odom a h
          · subst h; rw [upd_same]; exact nofun
      refine ⟨fun i m H' => ∃ F' env' accD accV, m = xs.length - i ∧ i ≤ xs.length ∧ Ext O F1 H1 F' H' ∧ StOk X.K O' F' H' (wipe σ vs) env' ∧ H' Dl = some (.lst accV) ∧ RepL X.K F' H' accD accV ∧ ¬ F' Dl ∧
          (∀ i ∈ vs, ∀ x, env'[i]? ≠ some (some x)) ∧ dLoop2 vs vs1 g mc mi1 g1 mc1 me (xs.drop i) accD env' = .ok acc env2,
        ⟨xs.length, F1, wipeD env1 vs, [], [], by simp, Nat.zero_le _, ED, stI, upd_same, RepL.nil, nF1, wipeD_none, by rw [List.drop_zero]; exact q2⟩, ?_⟩
      rintro i m H' ⟨F', env', accD, accV, rfl, hi', E', st', hDl, rl, nF', nv, hl⟩
      obtain ⟨w1, w2⟩ := wk F' H' (E'.mono fun _ z => z.elim) (st'.weak (O' := O) fun a h => .inl h).odom i
      cases hx : xs[i]? with
      | none =>
        left
        refine ⟨w2 hx, ?_⟩
        rw [List.drop_eq_nil_of_le (List.getElem?_eq_none_iff.mp hx)] at hl
        cases hl
        have sto := st'.weak (O' := O) fun a h => .inl h
        have sb := StOk.back st1 sto E' nv
        refine g0 F' H' (.ref Dl) (E1.trans E') sb ⟨Dl, accV, acc, rfl, rfl, hDl, rl, nF', nO, fun j ⟨m, d, h1, h2, h3⟩ => ?_⟩
        rcases backD_get h1 with ⟨q1, q2⟩ | ⟨q1, z, q2⟩
        · obtain ⟨a, ws, ds, _, k2, _, _, _, k6⟩ := st'.own j m d q2 h2
          rw [wipe_get q1, h3] at k2
          cases k2
          exact k6 (.inr rfl)
        · exact h2 z
      | some d =>
        right
        obtain ⟨go, yl⟩ := w1 d hx
        have hlt : i < xs.length := (List.getElem?_eq_some_iff.mp hx).1
        have hdrop : xs.drop i = d :: xs.drop (i + 1) := by
          rw [List.drop_eq_getElem_cons hlt]
          rw [List.getElem?_eq_getElem hlt] at hx
          rw [Option.some.inj hx]
        rw [hdrop] at hl
        unfold dLoop2 at hl
        refine ⟨go, fun H3 => ∃ F3 env3 accD accV, Ext O F1 H1 F3 H3 ∧ StOk X.K O' F3 H3 (wipe σ vs) env3 ∧ H3 Dl = some (.lst accV) ∧ RepL X.K F3 H3 accD accV ∧ ¬ F3 Dl ∧
            (∀ i ∈ vs, ∀ x, env3[i]? ≠ some (some x)) ∧ dLoop2 vs vs1 g mc mi1 g1 mc1 me (xs.drop (i + 1)) accD env3 = .ok acc env2, ?_, fun x H2 hy => ?_⟩
        · rintro H3 ⟨F3, env3, aD, aV, E3, st3, h3, r3, n3, v3, l3⟩
          exact ⟨xs.length - (i + 1), by omega, F3, env3, aD, aV, rfl, hlt, E3, st3, h3, r3, n3, v3, l3⟩
        · obtain ⟨sm, rx⟩ := yl x H2 hy
          have E2 : Ext O' F' H' F' H2 := Ext.same sm st'.odom
          have st2 := st'.same sm
          cases q3 : g d env' with
          | none => rw [q3] at hl; cases hl
          | some env3 =>
            rw [q3] at hl
            simp only [] at hl
            refine ⟨O', F', env', d, env3, st2, rx, q3, fun σ2 s3 k3 => ?_⟩
            have hw2 : wipe σ2 vs = wipe σ vs := by rw [keeps_wipe k3, wipe_wipe]
            refine ⟨hw2, ?_⟩
            have hD2 : H2 Dl = some (.lst accV) := sm _ _ hDl
            have rl2 : RepL X.K F' H2 accD accV := repL_same sm rl
            refine ⟨O', F', env3, s3, ?_⟩
            cases q4 : mc env3 with
            | bad => rw [q4] at hl; cases hl
            | err x e => rw [q4] at hl; cases hl
            | ok b env4 =>
              rw [q4] at hl
              intro F4 H4 E4 s4
              have hD4 : H4 Dl = some (.lst accV) := (E4.out Dl (.inr rfl)).trans hD2
              have nF4 : ¬ F4 Dl := fun z => nF' (E4.outF Dl (.inr rfl) z)
              have E14 : Ext O F1 H1 F4 H4 := (E'.trans (E2.mono EO)).trans (E4.mono EO)
              cases b with
              | false =>
                refine iteF ?_
                have s5 := s4.wiped vs
                rw [hw2] at s5
                exact ⟨F4, wipeD env4 vs, accD, accV, E14, s5, hD4, RepL.ext E4 accD accV rl2, nF4, wipeD_none, hl⟩
              | true =>
                refine iteT ?_
                simp only [] at hl
                refine ⟨O', F4, env4, s4, ?_⟩
                cases q5 : mi1 env4 with
                | bad => rw [q5] at hl; cases hl
                | err x e => rw [q5] at hl; cases hl
                | ok ys env5 =>
                  rw [q5] at hl
                  simp only [] at hl
                  intro F5 H5 J1 E5 s5 wk1
                  cases q6 : dLoop vs1 g1 mc1 me ys accD (wipeD env5 vs1) with
                  | bad => rw [q6] at hl; cases hl
                  | err x e => rw [q6] at hl; cases hl
                  | ok acc1 env6 =>
                    rw [q6] at hl
                    simp only [] at hl
                    have hD5 : H5 Dl = some (.lst accV) := (E5.out Dl (.inr rfl)).trans hD4
                    have nF5 : ¬ F5 Dl := fun z => nF4 (E5.outF Dl (.inr rfl) z)
                    have E15 : Ext O F1 H1 F5 H5 := E14.trans (E5.mono EO)
                    have rl5 : RepL X.K F5 H5 accD accV := RepL.ext (E4.trans E5) accD accV rl2
                    refine ⟨fun j k H' => ∃ F' env' accD accV, k = ys.length - j ∧ j ≤ ys.length ∧ Ext O F5 H5 F' H' ∧ StOk X.K O' F' H' (wipe σ2 vs1) env' ∧ H' Dl = some (.lst accV) ∧ RepL X.K F' H' accD accV ∧ ¬ F' Dl ∧
                        (∀ i ∈ vs1, ∀ x, env'[i]? ≠ some (some x)) ∧ dLoop vs1 g1 mc1 me (ys.drop j) accD env' = .ok acc1 env6,
                      ⟨ys.length, F5, wipeD env5 vs1, accD, accV, by simp, Nat.zero_le _, Ext.refl, s5.wiped vs1, hD5, rl5, nF5, wipeD_none, by rw [List.drop_zero]; exact q6⟩, ?_⟩
                    rintro j k Hj ⟨Fj, envj, aDj, aVj, rfl, hj', Ej, stj, hDj, rlj, nFj, nvj, hlj⟩
                    obtain ⟨v1, v2⟩ := wk1 Fj Hj (Ej.mono fun _ z => z.elim) stj.odom j
                    cases hy1 : ys[j]? with
                    | none =>
                      left
                      refine ⟨v2 hy1, ?_⟩
                      rw [List.drop_eq_nil_of_le (List.getElem?_eq_none_iff.mp hy1)] at hlj
                      cases hlj
                      have s6 := stj.wiped vs
                      rw [wipe_sub hv, hw2] at s6
                      exact ⟨Fj, wipeD _ vs, _, aVj, E15.trans Ej, s6, hDj, rlj, nFj, wipeD_none, hl⟩
                    | some dj =>
                      right
                      obtain ⟨goj, ylj⟩ := v1 dj hy1
                      have hltj : j < ys.length := (List.getElem?_eq_some_iff.mp hy1).1
                      have hdropj : ys.drop j = dj :: ys.drop (j + 1) := by
                        rw [List.drop_eq_getElem_cons hltj]
                        rw [List.getElem?_eq_getElem hltj] at hy1
                        rw [Option.some.inj hy1]
                      rw [hdropj] at hlj
                      unfold dLoop at hlj
                      refine ⟨goj, fun H3 => ∃ F3 env3 accD accV, Ext O F5 H5 F3 H3 ∧ StOk X.K O' F3 H3 (wipe σ2 vs1) env3 ∧ H3 Dl = some (.lst accV) ∧ RepL X.K F3 H3 accD accV ∧ ¬ F3 Dl ∧
                          (∀ i ∈ vs1, ∀ x, env3[i]? ≠ some (some x)) ∧ dLoop vs1 g1 mc1 me (ys.drop (j + 1)) accD env3 = .ok acc1 env6, ?_, fun x H2 hy => ?_⟩
                      · rintro H3 ⟨F3, env3, aD, aV, E3, st3, h3, r3, n3, v3, l3⟩
                        exact ⟨ys.length - (j + 1), by omega, F3, env3, aD, aV, rfl, hltj, E3, st3, h3, r3, n3, v3, l3⟩
                      · obtain ⟨smj, rxj⟩ := ylj x H2 hy
                        have E2j : Ext O' Fj Hj Fj H2 := Ext.same smj stj.odom
                        have st2j := stj.same smj
                        cases q7 : g1 dj envj with
                        | none => rw [q7] at hlj; cases hlj
                        | some env7 =>
                          rw [q7] at hlj
                          simp only [] at hlj
                          refine ⟨O', Fj, envj, dj, env7, st2j, rxj, q7, fun σ3 s7 k7 => ?_⟩
                          have hw3 : wipe σ3 vs1 = wipe σ2 vs1 := by rw [keeps_wipe k7, wipe_wipe]
                          refine ⟨hw3, ?_⟩
                          have hD7 : H2 Dl = some (.lst aVj) := smj _ _ hDj
                          have rl7 : RepL X.K Fj H2 aDj aVj := repL_same smj rlj
                          refine ⟨O', Fj, env7, s7, ?_⟩
                          cases q8 : mc1 env7 with
                          | bad => rw [q8] at hlj; cases hlj
                          | err x e => rw [q8] at hlj; cases hlj
                          | ok b env8 =>
                            rw [q8] at hlj
                            intro F8 H8 E8 s8
                            have hD8 : H8 Dl = some (.lst aVj) := (E8.out Dl (.inr rfl)).trans hD7
                            have nF8 : ¬ F8 Dl := fun z => nFj (E8.outF Dl (.inr rfl) z)
                            cases b with
                            | false =>
                              refine iteF ?_
                              have s9 := s8.wiped vs1
                              rw [hw3] at s9
                              exact ⟨F8, wipeD env8 vs1, aDj, aVj, (Ej.trans (E2j.mono EO)).trans (E8.mono EO), s9, hD8, RepL.ext E8 aDj aVj rl7, nF8, wipeD_none, hlj⟩
                            | true =>
                              refine iteT ?_
                              refine ⟨O', F8, env8, s8, ?_⟩
                              simp only [] at hlj
                              cases q9 : me env8 with
                              | bad => rw [q9] at hlj; cases hlj
                              | err x e => rw [q9] at hlj; cases hlj
                              | ok r env9 =>
                                rw [q9] at hlj
                                simp only [] at hlj
                                intro F9 H9 v E9 s9 r9
                                split at hlj
                                · rename_i hsz
                                  obtain ⟨F6, E6, s6, r6⟩ := freeze s9 r9
                                  have hD9 : H9 Dl = some (.lst aVj) := (E9.out Dl (.inr rfl)).trans hD8
                                  have nF6 : ¬ F6 Dl := fun z => nF8 (E9.outF Dl (.inr rfl) (E6.outF Dl (.inr rfl) z))
                                  have rl6 : RepL X.K F6 H9 aDj aVj := RepL.ext (E8.trans (E9.trans E6)) aDj aVj rl7
                                  have hlen : aVj.length = aDj.length := rl6.length
                                  obtain ⟨s10, E10⟩ := s6.outw (ws := aVj ++ [v]) (.inr rfl) nF6 hD9
                                  have E10' := E10 O fun a h z => nO (z ▸ h)
                                  have s11 := s10.wiped vs1
                                  rw [hw3] at s11
                                  have rl8 : RepL X.K F6 (upd H9 Dl (.lst (aVj ++ [v]))) (aDj ++ [r.d]) (aVj ++ [v]) := RepL.ext E10' _ _ (rl6.append (RepL.cons r6 RepL.nil))
                                  refine ⟨aVj, hD9, by rw [hlen]; exact hsz, F6, wipeD env9 vs1, aDj ++ [r.d], aVj ++ [v], ?_, s11, upd_same, rl8, nF6, wipeD_none, hlj⟩
                                  exact (((Ej.trans (E2j.mono EO)).trans (E8.mono EO)).trans ((E9.trans E6).mono EO)).trans E10'
                                · cases hlj
theorem pts_yes {Y : Cx} : PTs Y [] (tOfT Y W0 dYes) := ⟨fun pins s0 σ H' Q I ⟨O, F, env, st, g0⟩ => pts_nil.run pins s0 σ H' Q I (g0 F H' Ext.refl st)⟩
theorem e_comp2 {elt tg iter tg1 iter1 : Expr} {scope : Scope} {own : List (Str × Nat)} {vs vs1 : List Nat} {pos : Pos} {mi mi1 : DI} {g g1 : DG} {me : DE} (hc : X.calm = true) (hN : X.N.Nodup) (ok : BlkOk X.N X.env.scope scope own) (hi : DIt X W tg iter mi)
    (hg : InBlk X scope fun Y => DTg Y (notIn vs) tg g) (hi1 : InBlk X scope fun Y => DIt Y W0 tg1 iter1 mi1) (hg1 : InBlk X scope fun Y => DTg Y (notIn vs1) tg1 g1) (he : InBlk X scope fun Y => DEv Y W0 elt me) (hv : ∀ i ∈ vs1, i ∈ vs := by decide)
    (hs : ∀ x, foldedSetIterable iter X.env x = pure x := by intro _; rfl) (hs1 : ∀ env x, foldedSetIterable iter1 env x = pure x := by intro _ _; rfl) (hvs : own.map (·.2) = vs := by rfl) :
    DEv X W (.ListComp elt [⟨tg, iter, [], 0⟩, ⟨tg1, iter1, [], 0⟩] scope pos) (dComp2 vs vs1 mi g dYes mi1 g1 dYes me) := by
  subst hvs
  obtain ⟨wi, p, s⟩ := hi
  exact ⟨_, pe_lc2 hc hN p ok hv (fun s H C cl fp => (hg s H C cl fp).pg) (fun s H C cl fp => pts_yes) (fun s H C cl fp => (hi1 s H C cl fp).pi) (fun s H C cl fp => (hg1 s H C cl fp).pg) (fun s H C cl fp => pts_yes) (fun s H C cl fp => (he s H C cl fp).pe) hs hs1, sem_comp2 hv s⟩
end
end DL
/-! DLS: t[::-1] of a tuple. -/
namespace DL
open PySem PySem.Spec PyProof.Rows L2
section
variable {prog : Program} {w : World} {A : Around} {E : Value → Shared → Prop} {s : Shared}
theorem places_back (n : Nat) : Builtin.Slice.slicePlaces ((n : Int) - 1) (-1) (-1) = n := by
  unfold Builtin.Slice.slicePlaces
  rw [if_neg (by omega)]
  split
  · rw [show ((n : Int) - 1 - -1 - 1) / (- -1) + 1 = (n : Int) by
      rw [show (- -1 : Int) = 1 by decide, Int.ediv_one]; omega]
    omega
  · omega
theorem applied_back {sl : Addr} {vk : Value} {n : Nat} {Q : Int × Int × Nat → Shared → Prop} (hs : s.heap.IsSliceOf sl .none .none vk) (pk : IsPart vk (some (-1))) (h : Q ((n : Int) - 1, -1, n) s) :
    wpAny (model prog w) A (Builtin.Slice.sliceApplied (.ref sl) (pure (n : Int))) Q E s := by
  obtain ⟨os, hos, hcs, hds⟩ := id hs
  unfold Builtin.Slice.sliceApplied Builtin.Slice.sliceFields
  refine wpAny_bind (wpAny_bind (wpAny_field hos hds (x := .none) rfl (wpAny_bind (wpAny_field hos hds (x := .none) rfl (wpAny_bind (wpAny_field hos hds (x := vk) rfl (wpAny_pure ?_)))))))
  refine wpAny_bind (HT.slicePart_ pk ?_)
  show wpAny _ _ (if ((-1 : Int) == 0) = true then _ else _) _ _ s
  rw [if_neg (by decide)]
  refine wpAny_bind (slicePart_none (wpAny_bind (slicePart_none (wpAny_bind (wpAny_pure ?_)))))
  show wpAny _ _ (pure ((n : Int) - 1, (-1 : Int), Builtin.Slice.slicePlaces ((n : Int) - 1) (-1) (-1))) _ _ s
  rw [places_back]
  exact wpAny_pure h
theorem pick_back (xs : Array Value) : ((List.range xs.size).filterMap fun (m : Nat) => xs[((xs.size : Int) - 1 + (m : Int) * (-1)).toNat]?).toArray = xs.toList.reverse.toArray := by
  have e : (List.range xs.size).filterMap (fun (m : Nat) => xs[((xs.size : Int) - 1 + (m : Int) * (-1)).toNat]?) = ((List.range xs.size).map (fun k => xs.size - 1 - k)).filterMap (xs[·]?) := by
    rw [List.filterMap_map]
    congr 1
    funext m
    have : ((xs.size : Int) - 1 + (m : Int) * (-1)).toNat = xs.size - 1 - m := by omega
    rw [this]
    rfl
  rw [e, PySem.W.krv_range, List.filterMap_reverse, PySem.W.krv_all]
theorem getItem_back {t sl : Addr} {items : Array Value} {vk : Value} {Q : Value → Shared → Prop} (ht : IsTup s.heap t items) (hs : s.heap.IsSliceOf sl .none .none vk) (pk : IsPart vk (some (-1)))
    (h : Q (.ref s.heap.objs.size) { s with heap := s.heap.push { cls := .type "tuple", data := .seq items.toList.reverse.toArray } })
    (hsz : items.size ≤ sizeLine) : wpAny (model prog w) A (getItem (.ref t) (.ref sl)) Q E s := by
  have htake : sizeOk (.seq items.toList.reverse.toArray) := by
    show items.toList.reverse.toArray.size ≤ sizeLine
    rw [List.size_toArray, List.length_reverse, Array.length_toList]
    exact hsz
  obtain ⟨os, hos, hcs, hds⟩ := id hs
  have hTs : s.TypeIs (.ref sl) "slice" := ⟨os, hos, hcs⟩
  unfold getItem
  try with_reducible refine wpAny_holding ?_
  first | refine wpAny_bind (wpAny_pure ?_) | skip
  refine wpAny_bind (wpAny_sequenceKey ht.typeIs (by decide) ?_)
  refine wpAny_bind (wpAny_callSpecial?_slot (name := Str.ofString "__getitem__") ht.typeIs PyProof.Rows.slot_tuple_getitem
    (wpAny_call_entry PyProof.Rows.slot_tuple_getitem ht.typeIs entry_tuple_getitem ?_ (args_tuple_getitem _ _)))
  show wpAny _ _ (Builtin.Tuple.tupleItemsOf (.ref t) >>= _) _ _ s
  refine wpAny_bind (tupleItemsOf_ ht ?_)
  refine wpAny_bind (wpAny_typeOf hTs ?_)
  rw [if_pos (by decide)]
  refine wpAny_bind (applied_back hs pk ?_)
  have hno : ¬ ((((items.size : Int) - 1 == 0) && ((-1 : Int) == 1) && (items.size == items.size)) = true) := by simp
  show wpAny _ _ (if (((items.size : Int) - 1 == 0) && ((-1 : Int) == 1) && (items.size == items.size)) = true then _ else _) _ _ s
  rw [if_neg hno, pick_back]
  first
    | exact wpAny_bind (m := Builtin.Tuple.tupleExact _) (wpAny_newObj_type (wpAny_pure ⟨_, rfl, wpAny_pure h⟩) htake)
    | exact wpAny_bind (m := Builtin.Tuple.tupleExact _) (wpAny_newObj_type (wpAny_bind (wpAny_pure (wpAny_pure ⟨_, rfl, wpAny_pure h⟩))) htake)
    | exact wpAny_bind (wpAny_bind (m := Builtin.Tuple.tupleExact _) (wpAny_newObj_type (wpAny_pure (wpAny_pure ⟨_, rfl, wpAny_pure h⟩)) htake))
    | exact wpAny_bind (wpAny_bind (m := Builtin.Tuple.tupleExact _) (wpAny_newObj_type (wpAny_pure ⟨_, rfl, wpAny_pure h⟩) htake))
end
section
variable {X : Cx} {W : WX}
/-- t[::k], k being -1 -/
def rBack (K : PySem.W.Frag) : R2 := fun x y H Q => y = .int (-1) ∧ ∃ a xs, x = .ref a ∧ SqT K H a xs ∧ NewT xs.reverse H Q
theorem pe_back {e k : Expr} {te tk : TE} {p2 pos : Pos} (he : PE X e te) (hk : PE X k tk) (hs : ∀ v u : Value, subscripted (.Slice none none (some k) p2) false v u = operate [v, u] (getItem v u)) : PE X (.Subscript e (.Slice none none (some k) p2) pos) (tOp (rBack X.K) te tk) := by
  refine ⟨fun pins s σ H Q I h => ?_⟩
  refine Subscript_ (thn (he.run pins s σ H _ I h) fun v s1 ⟨x, H1, I1, r1, q1⟩ => ?_)
  refine wpAny_Slice ?_
  refine wpAny_pure (wpAny_pure ?_)
  rw [evalPart_some]
  refine thn (hk.run pins s1 σ H1 _ I1 q1) fun u s2 ⟨y, H2, I2, r2, q2⟩ => ?_
  obtain ⟨rfl, a, xs, rfl, hx, q⟩ := q2
  obtain ⟨t, rfl⟩ := r2
  cases r1
  have I4 : Inv X pins σ H2 { s2 with heap := s2.heap.push { cls := .type "slice", data := .fields #[.none, .none, .int (-1) t] } } := I2.kept (t' := s2.toks) fun b ob q => Heap.get?_push_of_some _ q
  obtain ⟨its, r, ht, hz⟩ := I4.tuple hx
  have hg := getItem_back (prog := X.prog) (w := X.w) (A := X.A) (E := X.xe) (Q := EP X pins σ Q) ht (Heap.IsSliceOf.new ..) (.int (-1) t) (lay_tup I4 r.reverse (by rw [List.length_reverse]; exact hz) q) (by rw [List.size_toArray, ← r.length]; exact hz)
  exact tail_any (ops := [.ref a, .ref s2.heap.objs.size]) ht.typeIs PyProof.Rows.slot_tuple_getitem.lookup hg (hs _ _)
def pBack : Pr := fun ds => match ds with
  | [.tup xs, .int i] => if i = -1 then some (.d (.tup xs.reverse)) else none
  | _ => none
theorem pr_back {K : PySem.W.Frag} : PrimR K pBack (two (rBack K)) := fun F H ds vs Q pr fd rt e q => by
  unfold pBack at e
  split at e
  · split at e
    · rename_i hi
      subst hi
      obtain ⟨v, _, rfl, ⟨p, us, rfl, hp, r1⟩, v2, _, rfl, h2, rfl⟩ := rt
      cases e
      rw [show v2 = V.int (-1) from h2]
      exact ⟨rfl, p, us, rfl, hp.sq, fun c o hd hc => q _ _ (same_new hc) ⟨c, _, rfl, ⟨o, hd, upd_same⟩, repL_same (same_new hc) (RepL.reverse r1)⟩⟩
    · cases e
  · cases e
theorem e_back {a b : Expr} {oa ob : Opd} {p2 pos : Pos} (ha : DOp X W a oa) (hb : DOp X W b ob) (hs : ∀ v u : Value, subscripted (.Slice none none (some b) p2) false v u = operate [v, u] (getItem v u) := by exact fun _ _ => by with_unfolding_all rfl) : DEv X W (.Subscript a (.Slice none none (some b) p2) pos) (dPrim pBack [oa, ob]) := by
  obtain ⟨ta, h1, s1⟩ := ha
  obtain ⟨tb, h2, s2⟩ := hb
  exact ⟨_, pe_back h1 h2 hs, sem_prim (asem2 s1 s2) pr_back⟩
end
end DL
/-! DLE: enumerate(t) of a tuple. -/
namespace DL
open PySem PySem.Spec PyProof.Rows L2
/-- the tuple at a, each item in a new pair with its place -/
def EnT (K : PySem.W.Frag) (a : Addr) : It where
  go i H := ∃ (xs : List V) (x : V), SqT K H a xs ∧ xs[i]? = some x
  yld i H v H' := ∃ T x, v = .ref T ∧ H T = none ∧ H' = upd H T (.tup [.int (i : Nat), x]) ∧ ∀ xs, SqT K H a xs → xs[i]? = some x
  stop i H := ∃ xs : List V, SqT K H a xs ∧ xs.length ≤ i
section
theorem enum_new1 {v : Value} {o : Obj} {G : Heap → Prop} (B : PySem.Begins v o G) :
    Meets (Builtin.«enumerate.__new__» ⟨[.type "enumerate", v], []⟩) (fun _ R s => G s.heap ∧
      R (.ok (.ret (.ref (s.heap.push o).objs.size))) { s with heap := (s.heap.push o).push { cls := .type "enumerate", data := .fields #[.none, .bool false, .ref s.heap.objs.size, rawInt 0, .none, .none] } }) :=
  .of_wp fun prog w A R s hh => by
    obtain ⟨hp, g, d, tk, os⟩ := s
    obtain ⟨gg, hh⟩ := hh
    have sub := sub_enumerate
    have it : ∀ {A' : Around} {E' : Value → Shared → Prop} {Q' : Value → Shared → Prop}, Q' (.ref hp.objs.size) ⟨hp.push o, g, d, tk, os⟩ → wpAny (model prog w) A' (pyIter v) Q' E' ⟨hp, g, d, tk, os⟩ :=
      fun q => B.iter prog w _ _ ⟨hp, g, d, tk, os⟩ _ gg q
    wp_walk using it
    refine wpAny_stack_any fun _ => (wpAny_pure ?_)
    split
    · rename_i c _ _ _ _ _
      cases (c == Value.type "enumerate") <;> (wp_walk using it; exact ⟨_, rfl, hh⟩)
    · wp_walk using it
      exact ⟨_, rfl, hh⟩
theorem enum_call1 {prog : Program} {w : World} {A : Around} {E : Value → Shared → Prop} {s : Shared} {v : Value} {o : Obj} {G : Heap → Prop} {Q : Value → Shared → Prop} (B : PySem.Begins v o G) (g : G s.heap)
    (q : ∀ h', IsEnum h' (s.heap.objs.size + 1) s.heap.objs.size 0 .none → h'.get? s.heap.objs.size = some o → h'.objs.size = s.heap.objs.size + 2 → (∀ b z, s.heap.get? b = some z → h'.get? b = some z) → Q (.ref (s.heap.objs.size + 1)) { s with heap := h' }) :
    wpAny (model prog w) A (call (.type "enumerate") [v]) Q E s := by
  refine callType_new F.called_enumerate (by decide) (F.typeCall_enumerate_1 _) (F.newCall_enumerate_1 _) (fun obj => F.args_object_init_2 obj _) F.entry_enumerate_new (enum_new1 B) ⟨g, ?_⟩
  have sz : (s.heap.push o).objs.size = s.heap.objs.size + 1 := Heap.size_push ..
  show _ ∧ _
  rw [sz]
  have at_ : IsEnum ((s.heap.push o).push { cls := .type "enumerate", data := .fields #[.none, .bool false, .ref s.heap.objs.size, rawInt 0, .none, .none] }) (s.heap.objs.size + 1) s.heap.objs.size 0 .none := by
    have z := Heap.get?_push_size (s.heap.push o) (o := { cls := .type "enumerate", data := .fields #[.none, .bool false, .ref s.heap.objs.size, rawInt 0, .none, .none] }) rfl
    rw [sz] at z
    exact z
  exact ⟨⟨_, at_, rfl⟩, q _ at_ (Heap.get?_push_of_some _ (Heap.get?_push_size _ B.free)) (by rw [Heap.size_push, sz]) fun b z y => Heap.get?_push_of_some _ (Heap.get?_push_of_some _ y)⟩
theorem enT_turn {P : Program} {w : World} {K : PySem.W.Frag} {elts : List Expr} {kk : Nat} {tpos : Pos} (a e it : Addr) :
    Turn P w K (.Tuple elts kk tpos) (EnT K a) [e, it] e (fun i h => (∃ old, IsEnum h e it ((i : Nat) : Int) old) ∧ h.IsTupleIter it a i ∧ e ≠ it) where
  mem := by simp
  obj i h st b hb := by
    obtain ⟨⟨old, he⟩, ⟨o, ho, _, hd⟩, _⟩ := st
    have z : b = e ∨ b = it := by simpa using hb
    rcases z with rfl | rfl
    · exact ⟨_, he, fun v q => nomatch q⟩
    · exact ⟨o, ho, fun v q => by rw [hd] at q; cases q⟩
  keep i h h' st k := let ⟨⟨old, he⟩, hi, hne⟩ := st; ⟨⟨old, k e (by simp) _ he⟩, hi.at fun o q => k it (by simp) o q, hne⟩
  self A i s Q E st h := let ⟨⟨_, he⟩, _⟩ := st; wpAny_pyIter_enum he h
  item := by
    intro X eP ew eK calm i pins s σ H E I hf st go
    subst eP ew eK
    obtain ⟨⟨old, he⟩, hit, hne⟩ := st
    obtain ⟨xs, x, hq, hx⟩ := go
    obtain ⟨its, rv, p, hz⟩ := I.tuple hq
    obtain ⟨u, hu, ru⟩ := rv.get hx
    have la : a ≠ it := fun z => by
      subst z
      obtain ⟨o1, g1, c1, _⟩ := hit
      obtain ⟨o2, g2, c2, _⟩ := p
      rw [g1] at g2; cases g2
      rw [c1] at c2; exact absurd c2 (by decide)
    have lb : e ≠ a := fun z => by
      subst z
      obtain ⟨o2, g2, c2, _⟩ := p
      have he' : s.heap.get? e = _ := he
      rw [he'] at g2; cases g2
      exact absurd c2 (by simp)
    have ui : its.toArray[i]? = some u := by simpa using hu
    have il : i < its.toArray.size := (Array.getElem?_eq_some_iff.mp ui).1
    have e_lt : e < s.heap.objs.size := Heap.lt_size he
    have i_lt : it < s.heap.objs.size := by obtain ⟨_, q, _⟩ := hit; exact Heap.lt_size q
    refine wpAny_pyNext_enum_itemD (PySem.Draws.tuple (A := X.A.in1) (I.ok.hd calm) it a la its.toArray) he ⟨hit, p⟩ il hne (by simp [hne, lb]) fun y h1 tk hy out st1 hT sz k1 => ?_
    have yu : y = u := by rw [ui] at hy; exact (Option.some.inj hy).symm
    subst yu
    refine ⟨_, rfl, wpAny_letOwnedTupleGo_enum (s := { s with heap := h1, toks := tk + 1 }) out fun h2 he2 sb => ?_⟩
    have T2 : h2.get? s.heap.objs.size = some { cls := .type "tuple", data := .seq #[.int i tk, y] } := (sb.2 _ (Nat.ne_of_gt e_lt)).trans hT
    have fresh : ObjOk X.prog X.w (upd H s.heap.objs.size (.tup [.int (i : Nat), x])) h2 s.heap.objs.size (.tup [.int (i : Nat), x]) := ⟨by show 2 ≤ sizeLine; decide, [.int i tk, y], .cons ⟨_, rfl⟩ (.cons ru .nil), ⟨_, T2, rfl, _, rfl⟩⟩
    have I1 : Inv X pins σ (upd H s.heap.objs.size (.tup [.int (i : Nat), x])) { s with heap := h2, toks := tk + 1 } := I.turnedNew (ch := [e, it]) (fun b ob hb q => (sb.2 b fun z => hb (by simp [z])).trans (k1 b ob (fun z => hb (by simp [z])) (fun z => hb (by simp [z])) q)) hf (Nat.le_refl _) fresh
    refine ⟨.ref s.heap.objs.size, _, I1, rfl, ⟨_, x, rfl, I.hok.fresh (Nat.le_refl _), rfl, fun ys hy => by rw [I.tuple_inj hy hq]; exact hx⟩, ⟨⟨y, ?_⟩, st1.1.at fun o q => (sb.2 it (Ne.symm hne)).trans q, hne⟩, fun b hb => ?_⟩
    · rw [show ((i + 1 : Nat) : Int) = (i : Int) + 1 by omega]
      exact he2
    · have b_lt : b < s.heap.objs.size := by
        have z : b = e ∨ b = it := by simpa using hb
        rcases z with rfl | rfl <;> assumption
      rw [upd_ne (Nat.ne_of_lt b_lt)]
      exact (hf b hb).1
  done := by
    intro X eP ew eK calm i pins s σ H E I hf st stp
    subst eP ew eK
    obtain ⟨⟨old, he⟩, hit, hne⟩ := st
    obtain ⟨xs, hq, hx⟩ := stp
    obtain ⟨its, rv, p, hz⟩ := I.tuple hq
    have none_ : its.toArray[i]? = none := by
      have := rv.length
      simp
      omega
    obtain ⟨f0, f1, f2, f3, f4, f5⟩ := hf it (by simp)
    have D : PySem.Draws X.prog X.w X.A.in1 it [it, a] i (fun _ _ => True) (fun j h => j = i ∧ h.IsTupleIter it a i ∧ h.IsTuple a its.toArray) := {
      live := fun _ _ ⟨_, ⟨o, ho, _⟩, _⟩ => ⟨o, ho⟩
      frame := fun _ _ _ ⟨k0, k1, k2⟩ hk => ⟨k0, k1.at fun o e => hk it (by simp) o e, k2.at fun o e => hk a (by simp) o e⟩
      item := fun j s Q E lt ⟨k0, _⟩ _ => absurd k0 (by omega)
      done := fun s Q E ⟨_, k1, k2⟩ hE => wpAny_nextOf_tuple_end (I.ok.hd calm) k1 k2 none_ hE }
    exact wpAny_pyNext_enum_endD D he ⟨rfl, hit, p⟩ fun h' eb => ⟨rfl, I.turned (t' := s.toks) (fun b o hb q => eb b o hb q) f0 f1 f3 f4 f5⟩
def iEnA (K : PySem.W.Frag) (ta : TA) : TI := fun σ H R => ta σ H fun vs H1 => ∃ a xs, vs = [.ref a] ∧ ((SqT K H1 a xs ∧ R (EnT K a) H1) ∨ (SqL K H1 a xs ∧ R (Ite K a) H1))
theorem pi_enA {X : Cx} {e : Expr} {ta : TA} {p pos tpos : Pos} {elts : List Expr} {kk : Nat} (hg : Gl X "enumerate") (hm : X.mg "enumerate" = none) (ha : PA X [e] ta) (hs : starEach [e] X.env = [(false, eval e X.env)] := by rfl) :
    PI X (.Tuple elts kk tpos) (.Call (.Name "enumerate" p) [e] [] pos) (iEnA X.K ta) := by
  refine ⟨fun pins s σ H R I h => Call_ (ld_blt I hg hm boot_enumerate (PyProof.Rows.callWith_type1 (thn (ha.run pos pins s σ H _ I h) fun us s1 ⟨vs, H1, I1, r1, a, xs, ex, q⟩ => ?_) hs rfl))⟩
  subst ex
  have fpk : ∀ b ∈ [s1.heap.objs.size + 1, s1.heap.objs.size], FpOk X pins H1 b := fun b hb => by
    have le : s1.heap.objs.size ≤ b := by
      have z : b = s1.heap.objs.size + 1 ∨ b = s1.heap.objs.size := by simpa using hb
      rcases z with rfl | rfl <;> omega
    exact I1.fpOk le (I1.hok.fresh le)
  cases r1 with
  | cons r rr =>
    cases rr
    cases r
    rcases q with ⟨hq, q⟩ | ⟨hq, q⟩
    · obtain ⟨its, rv, p', hz⟩ := I1.tuple hq
      refine enum_call1 (PySem.begins_tuple a its.toArray) p' fun h' he hit sz hk => wpAny_pyIter_enum he ?_
      exact ⟨s1.heap.objs.size + 1, [s1.heap.objs.size + 1, s1.heap.objs.size], _, _, H1, rfl, I1.kept (t' := s1.toks) hk, enT_turn a (s1.heap.objs.size + 1) s1.heap.objs.size, ⟨⟨.none, he⟩, ⟨_, hit, rfl, rfl⟩, Nat.succ_ne_self _⟩, fpk, q⟩
    · obtain ⟨its, rv, p', hz⟩ := I1.list hq
      refine enum_call1 (PySem.begins_list a its.toArray) p'.isList fun h' he hit sz hk => wpAny_pyIter_enum he ?_
      exact ⟨s1.heap.objs.size + 1, [s1.heap.objs.size + 1, s1.heap.objs.size], _, _, H1, rfl, I1.kept (t' := s1.toks) hk, turn_enum a (s1.heap.objs.size + 1) s1.heap.objs.size, ⟨⟨.none, he⟩, ⟨_, hit, rfl, rfl⟩, Nat.succ_ne_self _⟩, fpk, q⟩
theorem walks_enT {K : PySem.W.Frag} {O F : Fz} {H : Hp} {a : Addr} {vs : List V} {xs : List D} (hl : TpL H a vs) (hr : RepL K F H xs vs) : Walks K O F H (EnT K a) (enumD 0 xs) := fun F' H' E od i => by
  have q : SqT K H' a vs := (tpL_ext E hl).sq
  have rl := RepL.ext E xs vs hr
  rw [enumD_get]
  cases hx' : xs[i]? with
  | none => exact ⟨fun d hx => (nomatch hx), fun _ => ⟨vs, q, by rw [hr.length]; exact List.getElem?_eq_none_iff.mp hx'⟩⟩
  | some x =>
    refine ⟨fun d hx => ?_, fun hx => (nomatch hx)⟩
    cases hx
    obtain ⟨v, hv, r⟩ := rl.get hx'
    refine ⟨⟨vs, v, q, hv⟩, fun y H'' ⟨T, v2, ey, hT, eH, hy⟩ => ?_⟩
    subst ey eH
    have e2 := hy vs q
    rw [hv] at e2
    cases e2
    refine ⟨same_new hT, T, .int (i : Nat), v, rfl, upd_same, ?_⟩
    rw [show ((0 + i : Nat) : Int) = ((i : Nat) : Int) by rw [Nat.zero_add]]
    exact ⟨rfl, rep_same (same_new hT) r⟩
def enumA (ds : List D) : Option (List D) := match ds with
  | [.tup xs] => some (enumD 0 xs)
  | [.lst xs] => some (enumD 0 xs)
  | _ => none
theorem it_enA {X : Cx} {W : WX} {e : Expr} {os : List Opd} {p pos tpos : Pos} {elts : List Expr} {kk : Nat} (hg : Gl X "enumerate") (hm : X.mg "enumerate" = none) (ha : DAs X W [e] os) (hs : starEach [e] X.env = [(false, eval e X.env)] := by rfl) (hv : allV os = true := by rfl) :
    DIt X W (.Tuple elts kk tpos) (.Call (.Name "enumerate" p) [e] [] pos) (iArgs enumA os) := by
  obtain ⟨t, h, s⟩ := ha
  refine ⟨_, pi_enA hg hm h hs, isem_vals s hv fun O F H ds vs xs R' r e k => ?_⟩
  unfold enumA at e
  split at e
  · cases e
    obtain ⟨v, _, rfl, ⟨a, ws, rfl, ha, rl⟩, rfl⟩ := r
    exact ⟨a, ws, rfl, .inl ⟨ha.sq, k _ (walks_enT ha rl)⟩⟩
  · cases e
    obtain ⟨v, _, rfl, ⟨a, ws, rfl, fa, ha, rl⟩, rfl⟩ := r
    exact ⟨a, ws, rfl, .inr ⟨SqL.of ha, k _ (walks_enum (fun F' H' E => SqL.of (E.fz a _ fa ha)) rl)⟩⟩
  · cases e
end
end DL
/-! DLP: l.pop(i). -/
namespace DL
open PySem PySem.Spec PyProof.Rows L2
theorem RepL.erase {K : PySem.W.Frag} {F : Fz} {H : Hp} : ∀ {ds : List D} {vs : List V} (k : Nat), RepL K F H ds vs → RepL K F H (ds.eraseIdx k) (vs.eraseIdx k)
  | [], _, k, h => by
    rw [show _ = ([] : List V) from h]
    exact RepL.nil
  | d :: ds, _, 0, ⟨v, r, e, h1, h2⟩ => by
    subst e
    exact h2
  | d :: ds, _, k + 1, ⟨v, r, e, h1, h2⟩ => by
    subst e
    exact RepL.cons h1 (RepL.erase k h2)
def mPopAt : List D → List D → Option (List D × D) := fun xs ds => match ds with
  | [.int i] => if small62 i = true then ((ixN xs.length i).bind fun k => (xs[k]?).map fun d => (xs.eraseIdx k, d)) else none
  | _ => none
theorem mr_popAt {K : PySem.W.Frag} : MutR K mPopAt rPopAt := fun F H a xs us ds vs ys d Q h r rd e q => by
  unfold mPopAt at e
  split at e
  · rename_i i
    split at e
    · rename_i hs
      cases hk : ixN xs.length i with
      | none => rw [hk] at e; cases e
      | some k =>
        rw [hk] at e
        cases hx : xs[k]? with
        | none => simp [hx] at e
        | some z =>
          simp [hx] at e
          obtain ⟨e1, e2⟩ := e
          subst e1 e2
          obtain ⟨v, hv, rv⟩ := r.get hx
          obtain ⟨w, _, ew, hw, er⟩ := rd
          subst ew er
          rw [show w = V.int i from hw]
          simp only [small62, Bool.and_eq_true, decide_eq_true_eq] at hs
          exact ⟨a, us, i, k, v, rfl, rfl, h, by omega, by omega, by rw [r.length]; exact (ixN_seq hk).1, hv, q _ _ (r.erase k) rv⟩
    · cases e
  · cases e
section
variable {X : Cx} {W : WX}
theorem e_popAt (i : Nat) {y : Str} {e : Expr} {os : List Opd} {py apos cpos : Pos} (ha : DAs X W [e] os) (hv : allV os = true := by rfl)
    (hN : X.N[i]? = some y := by rfl) (hvis : Vis X.env.scope y := by first | exact Or.inl rfl | exact Or.inr (Or.inl rfl) | exact Or.inr (Or.inr rfl)) (hd : (y == ("__debug__" : Str)) = false := by decide) (hcd : (y == ("__classdict__" : Str)) = false := by decide)
    (hb : attributeBase (.Name y py) "pop" X.env (eval (.Name y py) X.env) = eval (.Name y py) X.env := by rfl) (hf : Few X e cpos := by rfl) (hl : (apos.endLine == cpos.line) = true := by rfl)
    (he : starEach (e :: []) X.env = (false, eval e X.env) :: starEach [] X.env := by rfl) (hpl : (backTo cpos (starEach [] X.env)).any (·.1) = false := by rfl) : DEv X W (.Call (.Attribute (.Name y py) "pop" apos) [e] [] cpos) (dMut mPopAt i os) :=
  e_mut i mr_popAt PySem.F.slot_list_pop PySem.F.type_list_pop mt_popAt ha hv hN hvis hd hcd hb hf hl he hpl
end
end DL
/-! DLX: abs, &, divmod, op= at names and items, l += m, list(range(..)), ranges kept by a name, t.count(x). -/
namespace DL
open PySem PySem.Spec PyProof.Rows L2
section
variable {X : Cx} {W : WX} {B : Bs} {e a b : Expr} {o oa ob : Opd} {p pos : Pos}
def pAbs : Pr := fun ds => match ds with
  | [.int i] => some (.d (.int (if i < 0 then -i else i)))
  | _ => none
def rAbs1 : Rl := fun xs H Q => ∃ i, xs = [.int i] ∧ Q (.int (if i < 0 then -i else i)) H
theorem pr_abs {K : PySem.W.Frag} : PrimR K pAbs rAbs1 := fun F H ds vs Q pr fd rt e q => by
  unfold pAbs at e
  split at e
  · obtain ⟨v, _, rfl, h1, rfl⟩ := rt
    cases h1
    cases e
    exact ⟨_, rfl, q H _ (Same.refl _) rfl⟩
  · cases e
theorem x_abs (hm : X.mg "abs" = none) (ha : DOp X W e o) (hg : Gl X "abs" := by rfl) (hs : S1 X e := by rfl) (hpl : (backTo pos (starEach [] X.env)).any (·.1) = false := by rfl) : DEv X W (.Call (.Name "abs" p) [e] [] pos) (dPrim pAbs [o]) := e_callB call_abs pr_abs hg hm (by decide +kernel) (a1 ha hs) (he := hs) (hpl := hpl)
def pBand : Pr := pInt2 fun a b => some (.int (Builtin.bitAnd a b))
theorem pr_band {K : PySem.W.Frag} : PrimR K pBand (two (rI0 fun i j => .int (Builtin.bitAnd i j))) := pr_int2 fun a b d H Q e q => by cases e; exact ⟨a, b, rfl, rfl, q _ fun _ _ _ => rfl⟩
theorem x_band (ha : DOp X W a oa) (hb : DOp X W b ob) : DEv X W (.BinOp a .BitAnd b pos) (dPrim pBand [oa, ob]) := e_op op_and pr_band ha hb

/-! ### list(range(..)) -/
def rgOk (a b : Int) : Bool := decide (-(2 ^ 62) ≤ a) && decide (a < 2 ^ 62) && decide (-(2 ^ 62) ≤ b) && decide (b < 2 ^ 62) && decide ((b - a).toNat ≤ 2 ^ 24)
theorem rgOk_of {a b : Int} (h : rgOk a b = true) : RgOk a b := by
  simp only [rgOk, Bool.and_eq_true, decide_eq_true_eq] at h
  exact ⟨h.1.1.1.1, h.1.1.1.2, h.1.1.2, h.1.2, h.2⟩
theorem repL_rg {K : PySem.W.Frag} {F : Fz} {H : Hp} (a b : Int) : RepL K F H (rngD a (b - a).toNat) (rgV a b) := by
  have key : ∀ (n : Nat) (lo : Int), RepL K F H (rngD lo n) ((List.range n).map fun i => V.int (lo + (i : Nat))) := fun n => by
    induction n with
    | zero => intro lo; exact RepL.nil
    | succ n ih =>
      intro lo
      rw [List.range_succ_eq_map, List.map_cons, List.map_map, rngD]
      refine RepL.cons (by show _ = V.int lo; simp) ?_
      have := ih (lo + 1)
      have e : ((fun i : Nat => V.int (lo + (i : Nat))) ∘ Nat.succ) = fun i : Nat => V.int (lo + 1 + (i : Nat)) := by
        funext i
        show V.int (lo + ((i + 1 : Nat) : Int)) = V.int (lo + 1 + (i : Nat))
        congr 1
        omega
      rw [e]
      exact this
  exact key _ a
def pLstRg1 : Pr := fun ds => match ds with
  | [.int n] => if rgOk 0 n = true then some (.nl (rngD 0 n.toNat)) else none
  | _ => none
def rLstRg1 : Rl := one fun x H Q => ∃ n, x = .int n ∧ RgOk 0 n ∧ ∀ q, H q = none → Q (.ref q) (upd H q (.lst (rgV 0 n)))
theorem pr_lstRg1 {K : PySem.W.Frag} : PrimR K pLstRg1 rLstRg1 := fun F H ds vs Q pr fd rt e q => by
  unfold pLstRg1 at e
  split at e
  · rename_i n
    obtain ⟨v, _, rfl, h1, rfl⟩ := rt
    cases h1
    split at e
    · rename_i h
      cases e
      have r := repL_rg (K := K) (F := F) (H := H) 0 n
      rw [Int.sub_zero] at r
      exact ⟨n, rfl, rgOk_of h, fun c hc => q _ _ (same_new hc) ⟨c, _, rfl, hc, upd_same, repL_same (same_new hc) r⟩⟩
    · cases e
  · cases e
theorem x_lstRg1 {p2 pos2 : Pos} (hc : X.calm = true) (hl : X.mg "list" = none) (hm : X.mg "range" = none) (ha : DOp X W a oa) (hg : Gl X "list" := by rfl) (hg2 : Gl X "range" := by rfl) (na : starEach [a] X.env = (false, eval a X.env) :: starEach [] X.env := by rfl)
    (nb : starEach [.Call (.Name "range" p2) [a] [] pos2] X.env = (false, eval (.Call (.Name "range" p2) [a] [] pos2) X.env) :: starEach [] X.env := by rfl) :
    DEv X W (.Call (.Name "list" p) [.Call (.Name "range" p2) [a] [] pos2] [] pos) (dPrim pLstRg1 [oa]) := by
  obtain ⟨ta, h, s⟩ := ha
  refine ⟨_, pe_listRg hc hg hl (prg_1 hg2 hm h na) nb, fun O F σ H env Q st g => ?_⟩
  exact sem_prim (r := rLstRg1) (asem1 s) pr_lstRg1 O F σ H env Q st g

/-! ### a range that a name keeps -/
def tRgV (ta tb : TE) : TE := fun σ H Q => ta σ H fun x H1 => tb σ H1 fun y H2 => ∃ i j, x = .int i ∧ y = .int j ∧ ∀ p o, H2 p = none → Q (.ref p) (upd H2 p (.frz o (.rng i j)))
theorem pe_rgV {ta tb : TE} (hg : Gl X "range") (hm : X.mg "range" = none) (ha : PE X a ta) (hb : PE X b tb) (na : starEach [a, b] X.env = (false, eval a X.env) :: starEach [b] X.env := by rfl)
    (nb : starEach [b] X.env = (false, eval b X.env) :: starEach [] X.env := by rfl) (hp : (backTo pos (starEach [b] X.env)).any (·.1) = false := by rfl) : PE X (.Call (.Name "range" p) [a, b] [] pos) (tRgV ta tb) := by
  refine ⟨fun pins s σ H Q I h => ?_⟩
  refine Call_ (ld_blt I hg hm boot_range (PyProof.Rows.callWith_type1 (args_cons (thn (ha.run pins s σ H _ I h) fun v s1 ⟨x, H1, I1, r1, q1⟩ => one_arg hb I1 q1 (fun u s2 y H2 I2 r2 q => ?_) nb) na) na hp))
  obtain ⟨i, j, rfl, rfl, q⟩ := q
  obtain ⟨t, rfl⟩ := r1
  obtain ⟨t', rfl⟩ := r2
  refine call_range_2 ⟨.ref s2.heap.objs.size, upd H2 s2.heap.objs.size (.frz { cls := .type "range", data := .fields #[.int i t, .int j t', .int 1 s2.toks] } (.rng i j)), ?_, rfl, q _ _ (I2.hok.fresh (Nat.le_refl _))⟩
  exact I2.laid (o := .frz { cls := .type "range", data := .fields #[.int i t, .int j t', .int 1 s2.toks] } (.rng i j)) (fun b u e => Heap.get?_push_of_some _ e) (Nat.le_refl _) ⟨Heap.get?_push_size _ rfl, _, _, _, Heap.get?_push_size _ rfl⟩
def pRg2 : Pr := fun ds => match ds with
  | [.int i, .int j] => some (.d (.rng i j))
  | _ => none
def rRg2 : Rl := two fun x y H Q => ∃ i j, x = .int i ∧ y = .int j ∧ ∀ p o, H p = none → Q (.ref p) (upd H p (.frz o (.rng i j)))
theorem pr_rg2 {K : PySem.W.Frag} : PrimR K pRg2 rRg2 := fun F H ds vs Q pr fd rt e q => by
  unfold pRg2 at e
  split at e
  · obtain ⟨v, _, rfl, h1, w, _, rfl, h2, rfl⟩ := rt
    cases h1
    cases h2
    cases e
    exact ⟨_, _, rfl, rfl, fun c o hc => q _ _ (same_new hc) ⟨c, o, rfl, upd_same⟩⟩
  · cases e
theorem x_rg2 (hm : X.mg "range" = none) (ha : DOp X W a oa) (hb : DOp X W b ob) (hg : Gl X "range" := by rfl) (na : starEach [a, b] X.env = (false, eval a X.env) :: starEach [b] X.env := by rfl)
    (nb : starEach [b] X.env = (false, eval b X.env) :: starEach [] X.env := by rfl) (hp : (backTo pos (starEach [b] X.env)).any (·.1) = false := by rfl) : DEv X W (.Call (.Name "range" p) [a, b] [] pos) (dPrim pRg2 [oa, ob]) := by
  obtain ⟨ta, h1, s1⟩ := ha
  obtain ⟨tb, h2, s2⟩ := hb
  refine ⟨_, pe_rgV hg hm h1 h2 na nb hp, fun O F σ H env Q st g => ?_⟩
  exact sem_prim (r := rRg2) (asem2 s1 s2) pr_rg2 O F σ H env Q st g
def iRng (m : DE) : DI := fun env => (m env).bind fun r env1 => match r.d with
  | .rng lo hi => if small62 lo = true then (if small62 hi = true then .ok (rngD lo (hi - lo).toNat) env1 else .bad) else .bad
  | _ => .bad
theorem pi_rngV {tg l : Expr} {tl : TE} (hl : PE X l tl) : PI X tg l (fun σ H R => tl σ H fun x H1 => ∃ r o lo hi, x = .ref r ∧ H1 r = some (.frz o (.rng lo hi)) ∧ (-(2 ^ 62) ≤ lo ∧ lo < 2 ^ 62 ∧ -(2 ^ 62) ≤ hi ∧ hi < 2 ^ 62) ∧ R (Itr lo (hi - lo).toNat) H1) := by
  refine ⟨fun pins s σ H R I h => ?_⟩
  refine thn (hl.run pins s σ H _ I h) fun u s1 ⟨x, H1, I1, rx, r, o, lo, hi, ex, hr, ⟨h1, h2, h3, h4⟩, q⟩ => ?_
  subst ex
  have ru : u = Value.ref r := rx
  subst ru
  obtain ⟨_, t, u, v, ho⟩ := I1.hok r _ hr
  refine wpAny_pyIter_range (r := r) (a := lo) (b := hi) (c := 1) (t := t) (u := u) (v := v) ho (small_one h1 h2 h3 h4) ?_
  refine ⟨s1.heap.objs.size, [s1.heap.objs.size], _, _, H1, rfl, I1.kept (t' := s1.toks) fun b o e => Heap.get?_push_of_some _ e, turn_range _ lo (hi - lo).toNat, ?_, fun b hb => ?_, q⟩
  · have e1 : lo + ((0 : Nat) : Int) * 1 = lo := by simp
    have e2 : (((hi - lo).toNat : Nat) : Int) - ((0 : Nat) : Int) = Builtin.Range.rangeSize lo hi 1 := by rw [rangeSize_one]; split <;> omega
    show IsRangeIter _ _ (lo + ((0 : Nat) : Int) * 1) ((((hi - lo).toNat : Nat) : Int) - ((0 : Nat) : Int)) 1
    rw [e1, e2]
    exact Heap.get?_push_size _ rfl
  · have e : b = s1.heap.objs.size := by simpa using hb
    subst e
    exact I1.fpOk (Nat.le_refl _) (I1.hok.fresh (Nat.le_refl _))
theorem it_rngV {tg : Expr} {m : DE} (h : DEv X W e m) : DIt X W tg e (iRng m) := by
  obtain ⟨t, h, s⟩ := h
  refine ⟨_, pi_rngV h, fun O F σ H env R' st g => ?_⟩
  refine s O F σ H env _ st ?_
  unfold iRng at g
  cases q : m env with
  | bad => rw [q] at g; exact g.elim
  | err x e => rw [q] at g; exact g
  | ok r env1 =>
    rw [q] at g
    simp only [R.bind] at g
    intro F1 H1 v E1 st1 r1
    obtain ⟨md, d⟩ := r
    cases d with
    | rng lo hi =>
      simp only [] at g
      cases md with
      | shr =>
        obtain ⟨a, o, rfl, ha⟩ := r1
        by_cases hlo : small62 lo = true
        · rw [if_pos hlo] at g
          by_cases hhi : small62 hi = true
          · rw [if_pos hhi] at g
            obtain ⟨b1, b2⟩ := small62_of hlo
            obtain ⟨b3, b4⟩ := small62_of hhi
            exact ⟨a, o, lo, hi, rfl, ha, ⟨b1, b2, b3, b4⟩, g F1 H1 _ E1 st1 walks_rng⟩
          · rw [if_neg hhi] at g; exact g.elim
        · rw [if_neg hlo] at g; exact g.elim
      | own => obtain ⟨_, _, _, z, _⟩ := r1; cases z
      | bor => obtain ⟨_, _, _, z, _⟩ := r1; cases z
    | _ => exact g.elim

/-! ### x *= e, numbers -/
def dAugP (i : Nat) (f : Int → Int → Option Int) (m : DE) : DS := fun env => match (env[i]? : Option (Option Ent)) with
  | some (some (Ent.mk Md.shr (.int a))) => (m env).bind fun r env1 => match r with
    | ⟨.shr, .int b⟩ => (match f a b with
      | some c => .ok .nx (env1.set i (some ⟨.shr, .int c⟩))
      | none => .bad)
    | _ => .bad
  | _ => .bad
theorem s_augP (i : Nat) {f : Int → Int → Option Int} {op : Operator} {t : TIp} {x : Str} {m : DE} {pos' pos : Pos} (hN : X.N.Nodup) (ho : PIp X op t) (ht : ∀ a b c H (Q : VK), f a b = some c → Q (.int c) H → t (.int a) (.int b) H Q) (hm : DEv X W e m) (hi : X.N[i]? = some x := by rfl) (hx : Loc X.env.scope x := by first | exact Or.inl rfl | exact Or.inr rfl) (hB : B i = false := by rfl)
    (hf : X.fn x = true ∨ X.env.scope.names.lookup x = some .local := by first | exact .inl rfl | exact .inr rfl | assumption) : DSt X W B (.AugAssign (.Name x pos') op e pos) (dAugP i f m) := by
  obtain ⟨te, h1, s1⟩ := hm
  refine ⟨_, ps_aug hN hi hx h1 ho hf, fun O F σ H env Dn st g => ?_⟩
  unfold dAugP at g
  split at g
  · rename_i a ha
    obtain ⟨v, hv, rv⟩ := st.shr i _ ha
    cases rv
    refine ⟨_, hv, s1 O F σ H env _ st ?_⟩
    cases q : m env with
    | bad => rw [q] at g; exact g.elim
    | err y' e => rw [q] at g; exact fun F' H' c d e' s' r => g F' H' σ c d e' s' Keeps.refl r
    | ok r env1 =>
      rw [q] at g
      simp only [R.bind] at g
      intro F1 H1 v E1 st1 r1
      split at g
      · rename_i b
        cases r1
        cases hc : f a b with
        | none => rw [hc] at g; exact g.elim
        | some c =>
          rw [hc] at g
          exact ht a b c _ _ hc (g F1 H1 _ E1 (st1.store (e := ⟨.shr, .int c⟩) rfl) (keeps_set hB))
      · exact g.elim
  · exact g.elim
def fMul (a b : Int) : Option Int := if -(2 ^ 64) < a ∧ a < 2 ^ 64 then some (a * b) else none
theorem s_augMul (i : Nat) {x : Str} {m : DE} {pos' pos : Pos} (hN : X.N.Nodup) (hm : DEv X W e m) (hi : X.N[i]? = some x := by rfl) (hx : Loc X.env.scope x := by first | exact Or.inl rfl | exact Or.inr rfl) (hB : B i = false := by rfl)
    (hf : X.fn x = true ∨ X.env.scope.names.lookup x = some .local := by first | exact .inl rfl | exact .inr rfl | assumption) : DSt X W B (.AugAssign (.Name x pos') .Mult e pos) (dAugP i fMul m) :=
  s_augP i (t := rI CMul fun i j => .int (i * j)) hN iop_mul (fun a b c H Q h q => by
    unfold fMul at h
    split at h
    · rename_i hh
      cases h
      exact ⟨a, b, rfl, rfl, .inl hh, q⟩
    · cases h) hm hi hx hB hf

/-! ### l += m -/
def dAugL (i : Nat) (m : DE) : DS := fun env => match (env[i]? : Option (Option Ent)) with
  | some (some (Ent.mk Md.own (.lst _))) => (m env).bind fun r env1 => match r.d, (env1[i]? : Option (Option Ent)) with
    | .lst ys, some (some (Ent.mk Md.own (.lst xs))) => if xs.length + ys.length ≤ sizeLine then .ok .nx (env1.set i (some ⟨.own, .lst (xs ++ ys)⟩)) else .bad
    | _, _ => .bad
  | _ => .bad
theorem set_same {σ : L2.St} {i : Nat} {v : V} (h : σ[i]? = some (some v)) : σ.set i (some v) = σ := by
  apply List.ext_getElem?
  intro j
  by_cases hj : j = i
  · subst hj
    rw [List.getElem?_set_self (List.getElem?_eq_some_iff.mp h).1, h]
  · rw [List.getElem?_set_ne (Ne.symm hj)]
theorem s_augL (i : Nat) {x : Str} {m : DE} {pos' pos : Pos} (hN : X.N.Nodup) (hm : DEv X W e m) (hi : X.N[i]? = some x := by rfl) (hx : Loc X.env.scope x := by first | exact Or.inl rfl | exact Or.inr rfl) (hB : B i = false := by rfl)
    (hf : X.fn x = true ∨ X.env.scope.names.lookup x = some .local := by first | exact .inl rfl | exact .inr rfl | assumption) : DSt X W B (.AugAssign (.Name x pos') .Add e pos) (dAugL i m) := by
  obtain ⟨te, h1, s1⟩ := hm
  refine ⟨_, ps_aug hN hi hx h1 (iop_ext : PIp X .Add rExt2) hf, fun O F σ H env Dn st g => ?_⟩
  unfold dAugL at g
  split at g
  · rename_i l0 ha
    obtain ⟨a, us0, es0, e0, hσ, hH, _, _, _⟩ := st.own i .own _ ha nofun
    refine ⟨_, hσ, s1 O F σ H env _ st ?_⟩
    cases q : m env with
    | bad => rw [q] at g; exact g.elim
    | err y' e => rw [q] at g; exact fun F' H' c d e' s' r => g F' H' σ c d e' s' Keeps.refl r
    | ok r env1 =>
      rw [q] at g
      simp only [R.bind] at g
      intro F1 H1 v E1 st1 r1
      obtain ⟨F2, E2, st2, r2⟩ := freeze st1 r1
      split at g
      · rename_i ys xs hd hi1
        rw [hd] at r2
        obtain ⟨b, zs, rfl, fb, hb, rb⟩ := r2
        obtain ⟨a', us, es, e2, hσ', hH1, rl, nF, nO⟩ := st2.own i .own _ hi1 nofun
        cases e2
        rw [hσ] at hσ'
        cases hσ'
        split at g
        · rename_i hz
          obtain ⟨st3, E3⟩ := st2.write hi1 nofun hσ hH1 nF nO (rl.append rb)
          refine ⟨a, b, us, zs, rfl, rfl, hH1, hb, by rw [rl.length, rb.length]; exact hz, ?_⟩
          show Dn.nx (σ.set i (some (V.ref a))) _
          rw [set_same hσ]
          exact g F2 _ σ ((E1.trans E2).trans E3) st3 Keeps.refl
        · exact g.elim
      · exact g.elim
  · exact g.elim

/-! ### l[k] += e, numbers -/
theorem pget_list : PGet X (rIxL X.K) := by
  intro pins s σ H x y v u Q I rx ry h
  obtain ⟨p, xs, i, z, rfl, rfl, hq, he, q⟩ := h
  cases rx
  obtain ⟨t, rfl⟩ := ry
  obtain ⟨its, r, pl, hz⟩ := I.list hq
  obtain ⟨j, h1, h2, h3, h4, h5⟩ := atI_get he
  obtain ⟨w, ew, rw'⟩ := r.get h2
  have hl := r.length
  have hn := line63
  have fin : EP X pins σ Q w s := ⟨z, H, I, rw', q⟩
  by_cases h0 : 0 ≤ i
  · have hj : i.toNat = j := by
      rw [seqIndex_of h0 h5] at h1
      exact Option.some.inj h1
    exact wpAny_getItem_list pl.isList h0 (by omega) (by rw [hj]; simpa using ew) fin
  · have hj : (i + (its.toArray.size : Int)).toNat = j := by
      rw [seqIndex_neg (by omega) h4] at h1
      rw [List.size_toArray, ← hl]
      exact Option.some.inj h1
    exact wpAny_getItem_list_neg pl.isList (by omega) (by rw [List.size_toArray] <;> omega) (by omega) (by rw [hj]; simpa using ew) fin
/-- l[k] += n, all written -/
def dAugIx (i : Nat) (k : Int) (n : Int) : DS := fun env => match (env[i]? : Option (Option Ent)) with
  | some (some (Ent.mk Md.own (.lst xs))) => (match ixN xs.length k with
    | some j => (match xs[j]? with
      | some (.int a) => .ok .nx (env.set i (some ⟨.own, .lst (xs.set j (.int (a + n)))⟩))
      | _ => .bad)
    | none => .bad)
  | _ => .bad
theorem s_augIx (i : Nat) {y : Str} {k n : Int} {j1 j2} {py pk pn tpos pos : Pos}
    (hN : X.N[i]? = some y := by rfl) (hvis : Vis X.env.scope y := by first | exact Or.inl rfl | exact Or.inr (Or.inl rfl) | exact Or.inr (Or.inr rfl)) (hd : (y == ("__debug__" : Str)) = false := by decide) (hcd : (y == ("__classdict__" : Str)) = false := by decide)
    (ha : ∀ ov iv new, augStore (.Constant (.int k) j1 pk) ov iv new = (do holding [new, ov, iv] (setItem ov iv new); release [new, ov, iv] []; pure .next) := by intros; rfl) :
    DSt X W B (.AugAssign (.Subscript (.Name y py) (.Constant (.int k) j1 pk) tpos) .Add (.Constant (.int n) j2 pn) pos) (dAugIx i k n) := by
  refine ⟨_, ps_augS (pe_var hN hvis hd hcd) pe_int pget_list pe_int ip_add set_list ha, fun O F σ H env Dn st g => ?_⟩
  unfold dAugIx at g
  split at g
  · rename_i xs hi
    obtain ⟨a, us, es, e0, hσ, hH, rl, nF, nO⟩ := st.own i .own _ hi nofun
    cases e0
    cases hj : ixN xs.length k with
    | none => rw [hj] at g; exact g.elim
    | some j =>
      rw [hj] at g
      simp only [] at g
      split at g
      · rename_i c hx
        obtain ⟨v, hv, rv⟩ := rl.get hx
        cases rv
        have hat : atI us k = some (.int c) := by
          unfold atI
          rw [rl.length, hj]
          exact hv
        obtain ⟨st1, E1⟩ := st.write (es := xs.set j (.int (c + n))) (ws := us.set j (.int (c + n))) hi nofun hσ hH nF nO (RepL.set (d := .int (c + n)) (v := .int (c + n)) (by show V.int (c + n) = V.int (c + n); rfl) j rl)
        refine ⟨_, hσ, ⟨a, us, k, .int c, rfl, rfl, SqL.of hH, hat, c, n, rfl, rfl, a, us, k, j, rfl, rfl, hH, by rw [rl.length]; exact hj, g F _ σ E1 st1 Keeps.refl⟩⟩
      · exact g.elim
  · exact g.elim

theorem sw_cell {elt : Expr} {gs : List Comprehension} {scope : Scope} {pos py : Pos} {y : Str} {l : Nat} {env : Env} (hy : env.scope.names.lookup y = some .cell) : swapsWith (.ListComp elt gs scope pos) (some (.Name y py)) l env = pure false := by
  have ky : env.kindOf y = some .cell := hy
  unfold swapsWith
  simp only [ky]
  have h : (some NameKind.cell == some NameKind.local) = false := by decide
  simp only [h, Bool.and_false, Bool.false_and]
/-! ### t.count(x), t a name -/
def tBMT (r : V → List V → Hp → VK → Prop) (to : TE) (t : TA) : TE := fun σ H Q => to σ H fun x H1 => (∃ a vs, x = .ref a ∧ TpL H1 a vs) ∧ t σ H1 fun xs H2 => r x xs H2 Q
theorem pe_bmT {o1 e1 : Expr} {es : List Expr} {to : TE} {t : TA} {name : Str} {apos cpos : Pos} {id : String} {r : V → List V → Hp → VK → Prop} (pa : PlainAttrs "tuple") (slot : Slot "tuple" name id) (hty : typeOf (.builtin id) = pure (.type "method_descriptor")) (hm : MtR X id r) (ho : PE X o1 to) (ha : PA X (e1 :: es) t)
    (hbase : attributeBase o1 name X.env (eval o1 X.env) = eval o1 X.env := by rfl)
    (hfew : ((backTo cpos (starEach (e1 :: es) X.env)).all (fun x => !x.1) && (backToKw cpos (keywordEach [] X.env)).all (fun x => x.1.isSome)
      && decide ((e1 :: es).length + ([] : List Keyword).length + (if ([] : List Keyword).isEmpty then 0 else 1) < 30)) = true := by rfl)
    (hline : (apos.endLine == cpos.line) = true := by rfl) (hs : starEach (e1 :: es) X.env = (false, eval e1 X.env) :: starEach es X.env := by rfl) (hplain : (backTo cpos (starEach es X.env)).any (·.1) = false := by rfl) :
    PE X (.Call (.Attribute o1 name apos) (e1 :: es) [] cpos) (tBMT r to t) := by
  refine ⟨fun pins s σ H Q I h => ?_⟩
  refine wpAny_Call_method_late hbase hfew hline rfl (thn (ho.run pins s σ H _ I h) fun v s1 ⟨x, H1, I1, r1, ⟨a, vs, ex, o, hd, hx⟩, q1⟩ => ?_)
  subst ex
  cases r1
  obtain ⟨hget, _, its, _, ob, hob, hc, _⟩ := I1.hok a _ hx
  have hoo : o = ob := by rw [hget] at hob; exact Option.some.inj hob
  subst hoo
  refine ⟨"tuple", id, pa, slot, hty, ⟨o, hget, hc⟩, fun b e => ?_, ?_⟩
  · cases e
    exact ⟨o, hget, hd⟩
  have hA := ha.run cpos pins s1 σ H1 _ I1 q1
  rw [hs] at hA ⊢
  refine Calls.callWith_builtin (by show (false || (backTo cpos (starEach es X.env)).any (·.1)) = false; rw [hplain] <;> rfl) (Calls.evalArgs_plain ?_)
  exact thn hA fun us s2 ⟨vs, H2, I2, r2, q2⟩ => hm pins s2 σ H2 (.ref a) vs (.ref a) us Q I2 rfl r2 q2
def rCountT (K : PySem.W.Frag) : V → List V → Hp → VK → Prop := fun x xs H Q => ∃ (a : Addr) (y : V) (d : PyData) (ds : List PyData), x = V.ref a ∧ xs = [y] ∧ Dp K H (V.ref a) (.tuple ds) ∧ Dp K H y d ∧
  SeqAt.shaped (.tuple ds) = true ∧ SeqAt.shaped d = true ∧ Q (.int ((ds.countP fun z => PyData.eqv z d : Nat) : Int)) H
theorem mt_countT (hu : X.A.units + 65 < cLine) : MtR X "tuple.count" (rCountT X.K) := by
  intro pins s σ H x xs v us Q I rx rxs h
  obtain ⟨a, y, d, ds, rfl, rfl, hl, hy, sl, sd, q⟩ := h
  cases rx
  obtain ⟨uy, rfl, ry⟩ := rxs.one
  obtain ⟨bs, r1⟩ := Dp.reads I d y uy hy ry
  have hxs : PyData.canLayAll0 ds = true := by
    have := SeqAt.canLay_of_shaped sl
    simpa only [PyData.canLay0] using this
  cases hl with
  | tup hs ha =>
    obtain ⟨its, rv, pt, hlen⟩ := I.tuple hs
    obtain ⟨as, h4⟩ := Dp.readsAll I ds _ its ha rv
    exact SeqAt.count_tuple_data (vs := its.toArray) pt (by simpa using h4) r1 (PyData.plainAll_of_canLay0 ds hxs) (PyData.plain_of_canLay0 d (SeqAt.canLay_of_shaped sd)) (room_in_shaped sd hu) ⟨.int _, H, I.tok _, ⟨_, rfl⟩, q⟩
def pCnt : List D → List D → Option D := fun xs ds => match ds with
  | [d] => if (okD (.tup xs) && okD d) = true then some (.int (xs.countP fun y => deq y d : Nat)) else none
  | _ => none
def dCount (i : Nat) (os : List Opd) : DE := fun env => match (env[i]? : Option (Option Ent)) with
  | some (some (Ent.mk Md.shr (.tup xs))) => (evOs os env).bind fun avs env1 => match getAVs env1 avs with
    | some ds => (match pCnt xs ds with
      | some d => .ok ⟨.shr, d⟩ env1
      | none => .bad)
    | none => .bad
  | _ => .bad
theorem countP_toPs (d : D) : ∀ xs : List D, (toPs xs).countP (fun z => PyData.eqv z (toP d)) = xs.countP fun y => deq y d
  | [] => rfl
  | x :: xs => by
    simp only [toPs, List.countP_cons, countP_toPs d xs, deq]
theorem e_count {k : Nat} (hr : GRoom k X.A) (i : Nat) {y : Str} {os : List Opd} {py apos cpos : Pos} (ha : DAs X W [e] os) (hv : allV os = true := by rfl)
    (hN : X.N[i]? = some y := by rfl) (hvis : Vis X.env.scope y := by first | exact Or.inl rfl | exact Or.inr (Or.inl rfl) | exact Or.inr (Or.inr rfl)) (hd : (y == ("__debug__" : Str)) = false := by decide) (hcd : (y == ("__classdict__" : Str)) = false := by decide)
    (hb : attributeBase (.Name y py) "count" X.env (eval (.Name y py) X.env) = eval (.Name y py) X.env := by rfl) (hf : Few X e cpos := by rfl) (hl : (apos.endLine == cpos.line) = true := by rfl)
    (he : starEach (e :: []) X.env = (false, eval e X.env) :: starEach [] X.env := by rfl) (hpl : (backTo cpos (starEach [] X.env)).any (·.1) = false := by rfl) : DEv X W (.Call (.Attribute (.Name y py) "count" apos) [e] [] cpos) (dCount i os) := by
  obtain ⟨t, h, s⟩ := ha
  have hu : X.A.units + 65 < cLine := by have := hr.room.un; omega
  refine ⟨_, pe_bmT (cpos := cpos) (apos := apos) PySem.F.plainAttrs_tuple PySem.F.slot_tuple_count PySem.F.type_tuple_count (mt_countT hu) (pe_var (pos := py) hN hvis hd hcd) h hb hf hl he hpl, fun O F σ H env Q st g => ?_⟩
  unfold dCount at g
  split at g
  · rename_i xs hi
    obtain ⟨v, hv1, a, vs, rfl, ht, rl⟩ := st.shr i _ hi
    refine ⟨_, hv1, ⟨a, vs, rfl, ht⟩, s O F σ H env _ st ?_⟩
    cases q : evOs os env with
    | bad => rw [q] at g; exact g.elim
    | err x e => rw [q] at g; exact g
    | ok avs env1 =>
      rw [q] at g
      simp only [R.bind] at g
      intro F1 H1 ws E1 s1 r1
      cases q2 : getAVs env1 avs with
      | none => rw [q2] at g; exact g.elim
      | some ds =>
        rw [q2] at g
        simp only [] at g
        have rd := AVs.vals hv q r1 q2
        cases q3 : pCnt xs ds with
        | none => rw [q3] at g; exact g.elim
        | some d =>
          rw [q3] at g
          unfold pCnt at q3
          split at q3
          · rename_i x
            split at q3
            · rename_i hok
              cases q3
              obtain ⟨⟨p1, sh1⟩, p2, sh2⟩ := okD_and hok
              obtain ⟨w, _, rfl, hw, rfl⟩ := rd
              have rt : Rep X.K F1 H1 (.tup xs) (.ref a) := Rep.ext E1 _ _ ⟨a, vs, rfl, ht, rl⟩
              have d1 := dp_of (.tup xs) (.ref a) p1 rt
              have d2 := dp_of x w p2 hw
              simp only [toP] at d1 sh1
              refine ⟨a, w, toP x, toPs xs, rfl, rfl, d1, d2, sh1, sh2, ?_⟩
              rw [countP_toPs]
              exact g F1 H1 _ E1 s1 rfl
            · cases q3
          · cases q3
  · exact g.elim
end
end DL
/-! DLY: x, y = a, b stored as a pair that is never made. -/
namespace DL
open PySem PySem.Spec PyProof.Rows L2
section
variable {X : Cx} {W : WX} {B : Bs}
def dPar (i j : Nat) (os : List Opd) : DS := fun env => (evOs os env).bind fun avs env1 => match avs with
  | [.d a, .d b] => .ok .nx ((env1.set i (some ⟨.shr, a⟩)).set j (some ⟨.shr, b⟩))
  | _ => .bad
theorem s_par (i j : Nat) {x y : Str} {a b : Expr} {os : List Opd} {px py pt : Pos} {kt k2 pt2} {pos : Pos} (hN : X.N.Nodup) (ha : DAs X W [a, b] os) (hc : X.calm = true := by rfl) (hi : X.N[i]? = some x := by rfl) (hj : X.N[j]? = some y := by rfl) (hij : i ≠ j := by decide)
    (hx : X.env.scope.names.lookup x = some .local := by rfl) (hy : X.env.scope.names.lookup y = some .local := by rfl) (hB : B i = false := by rfl) (hB2 : B j = false := by rfl)
    (hw : swappedStores [.Tuple [.Name x px, .Name y py] kt pt] (.Tuple [a, b] k2 pt2) X.env = pure (some [x, y]) := by rfl)
    (hs : swapsWithSole [.Tuple [.Name x px, .Name y py] kt pt] (.Tuple [a, b] k2 pt2) pos.line X.env = pure false := by rfl) :
    DSt X W B (.Assign [.Tuple [.Name x px, .Name y py] kt pt] (.Tuple [a, b] k2 pt2) pos) (dPar i j os) := by
  obtain ⟨t, h1, s1⟩ := ha
  refine ⟨_, ps_par hc hN hi hj hij hx hy h1 hw hs, fun O F σ H env Dn s g => s1 O F σ H env _ s ?_⟩
  unfold dPar at g
  cases q : evOs os env with
  | bad => rw [q] at g; exact g.elim
  | err x e => rw [q] at g; exact fun F' H' c d e' s' r => g F' H' σ c d e' s' Keeps.refl r
  | ok avs env1 =>
    rw [q] at g
    simp only [R.bind] at g
    intro F1 H1 vs E1 st1 r1
    match avs, g, r1 with
    | [.d a, .d b], g, r1 =>
      obtain ⟨v, r, rfl, hv, w, r', rfl, hw', rfl⟩ := r1
      exact ⟨v, w, rfl, g F1 H1 _ E1 ((st1.store (e := ⟨.shr, a⟩) hv).store (e := ⟨.shr, b⟩) hw') ((keeps_set hB).trans (keeps_set hB2))⟩
    | [], g, _ => exact g.elim
    | [.d _], g, _ => exact g.elim
    | [.s _], g, _ => exact g.elim
    | .s _ :: _ :: _, g, _ => exact g.elim
    | .d _ :: .s _ :: _, g, _ => exact g.elim
    | .d _ :: .d _ :: _ :: _, g, _ => exact g.elim
end
end DL
/-! DLZ0: tuple(zip(l1, .., ln)) of n lists of one length, n from 1 to 4, at the level of the model. -/
namespace ZT
open PySem
open Sem (wp)

/-- a column: its iterator, its list, the items -/
structure Col where
  it : Addr
  l : Addr
  xs : Array Value
def Col.At (h : Heap) (k : Nat) (c : Col) : Prop := h.IsListIter c.it c.l k ∧ h.IsList c.l c.xs

section
variable {prog : Program} {w : World} {A : Around} {E : Value → Shared → Prop}

/-- a loop that draws one item of each column -/
theorem loop {β : Type} {α : Type} (inj : Col → Nat → α) (f : α → β → Sem (ForInStep β)) (R : List Value → β → Shared → Prop) (k : Nat) (g : Col → Value) (E : Value → Shared → Prop) (sp wr : List Addr) (hwr : ∀ a ∈ wr, a ∈ sp) (N : Nat)
    (hf : ∀ (c : Col) (j : Nat) (done : List Value) (b : β) (s : Shared) (Q : ForInStep β → Shared → Prop), done.length = j → j < N → c.At s.heap k → c.xs[k]? = some (g c) → c.it ∉ sp → c.l ∉ sp → c.l ≠ c.it → R done b s →
      (∀ b' h', h'.IsListIter c.it c.l (k + 1) → h'.objs.size = s.heap.objs.size → (∀ a o, a ≠ c.it → a ∉ wr → s.heap.get? a = some o → h'.get? a = some o) → R (done ++ [g c]) b' { s with heap := h' } → Q (.yield b') { s with heap := h' }) →
      wpAny (model prog w) A (f (inj c j) b) Q E s) :
    ∀ (cs : List Col) (done : List Value) (b : β) (s : Shared) (Q : β → Shared → Prop), done.length + cs.length = N → (cs.map (·.it)).Nodup → (∀ c ∈ cs, ∀ d ∈ cs, c.l ≠ d.it) → (∀ c ∈ cs, c.it ∉ sp ∧ c.l ∉ sp) → (∀ c ∈ cs, c.At s.heap k) → (∀ c ∈ cs, c.xs[k]? = some (g c)) → R done b s →
      (∀ b' h', (∀ c ∈ cs, h'.IsListIter c.it c.l (k + 1)) → h'.objs.size = s.heap.objs.size → (∀ a o, a ∉ cs.map (·.it) → a ∉ wr → s.heap.get? a = some o → h'.get? a = some o) → R (done ++ cs.map g) b' { s with heap := h' } → Q b' { s with heap := h' }) →
      wpAny (model prog w) A (forIn ((cs.zipIdx done.length).map fun p => inj p.1 p.2) b f) Q E s
  | [], done, b, s, Q, _, _, _, _, _, _, r, q => by
    refine wpAny_pure ?_
    have := q b s.heap (fun c hc => by simp at hc) rfl (fun a o _ _ e => e) (by simpa using r)
    simpa using this
  | c :: cs, done, b, s, Q, hN, nd, ap, nw, at_, hx, r, q => by
    simp only [List.zipIdx_cons, List.map_cons, List.forIn_cons]
    rw [List.map_cons] at nd
    have nd' := List.nodup_cons.mp nd
    refine wpAny_bind (hf c done.length done b s _ rfl (by simp only [List.length_cons] at hN; omega) (at_ c (by simp)) (hx c (by simp)) (nw c (by simp)).1 (nw c (by simp)).2 (ap c (by simp) c (by simp)) r fun b1 h1 i1 z1 k1 r1 => ?_)
    have keep : ∀ d ∈ cs, d.At h1 k := fun d hd => by
      have hn : d.it ≠ c.it := fun e => nd'.1 (by rw [← e]; exact List.mem_map_of_mem hd)
      obtain ⟨a1, a2⟩ := at_ d (by simp [hd])
      exact ⟨a1.at fun o e => k1 _ o hn (fun z => (nw d (by simp [hd])).1 (hwr _ z)) e, a2.at fun o e => k1 _ o (ap d (by simp [hd]) c (by simp)) (fun z => (nw d (by simp [hd])).2 (hwr _ z)) e⟩
    have ih := loop inj f R k g E sp wr hwr N hf cs (done ++ [g c]) b1 { s with heap := h1 } Q (by simp only [List.length_cons, List.length_append, List.length_nil] at hN ⊢; omega) nd'.2 (fun a ha d hd => ap a (by simp [ha]) d (by simp [hd])) (fun d hd => nw d (by simp [hd])) keep (fun d hd => hx d (by simp [hd])) r1
      (fun b2 h2 i2 z2 k2 r2 => by
        refine q b2 h2 (fun d hd => ?_) (z2.trans z1) (fun a o ha hw e => ?_) (by simpa using r2)
        · rcases List.mem_cons.mp hd with rfl | hd
          · exact i1.at fun o e => k2 _ o nd'.1 (fun z => (nw _ (by simp)).1 (hwr _ z)) e
          · exact i2 d hd
        · simp only [List.map_cons, List.mem_cons, not_or] at ha
          exact k2 _ o ha.2 hw (k1 _ o ha.1 hw e))
    have el : (done ++ [g c]).length = done.length + 1 := by simp
    rw [el] at ih
    exact ih

def refs (cs : List Col) : Array Value := (cs.map fun c => Value.ref c.it).toArray
theorem zi {α β : Type} (f : α → β) : ∀ (l : List α) (n : Nat), (l.map f).zipIdx n = (l.zipIdx n).map fun p => (f p.1, p.2)
  | [], n => rfl
  | a :: l, n => by simp only [List.map_cons, List.zipIdx_cons, zi f l]
theorem zi1 {α β : Type} (f : α → β) : ∀ (l : List α) (n : Nat), l.map f = (l.zipIdx n).map fun p => f p.1
  | [], n => rfl
  | a :: l, n => by simp only [List.map_cons, List.zipIdx_cons]; rw [← zi1 f l]
abbrev IsTupA (h : Heap) (T : Addr) (vs : Array Value) : Prop := h.get? T = some { cls := .type "tuple", data := .seq vs }

/-- how the cells of a zip lie -/
structure Apart (z TI TO : Addr) (cs : List Col) : Prop where
  TIz : TI ≠ z
  TOz : TO ≠ z
  TITO : TI ≠ TO
  nd : (cs.map (·.it)).Nodup
  ap : ∀ c ∈ cs, ∀ d ∈ cs, c.l ≠ d.it
  nw : ∀ c ∈ cs, c.it ∉ [z, TO, TI] ∧ c.l ∉ [z, TO, TI]

variable {z TI TO : Addr} {cs : List Col} {s : Shared}
theorem updateSeqA {T : Addr} {vs : Array Value} {x : Value} {k : Nat} {Q : Unit → Shared → Prop} (hT : IsTupA s.heap T vs) (hv : vs.size ≤ 4)
    (h : ∀ h', IsTupA h' T (vs.setIfInBounds k x) → Heap.SameBut T s.heap h' → Q () { s with heap := h' }) :
    wpAny (model prog w) A (updateSeq T (·.setIfInBounds k x)) Q E s := by
  refine wpAny_updateSeq hT rfl (h _ ?_ (Heap.SameBut.update ..)) (by rw [sizeLine_eq]; omega) (by show (vs.setIfInBounds k x).size ≤ _; rw [Array.size_setIfInBounds, sizeLine_eq]; omega)
  show (s.heap.update T _).get? T = _
  rw [Heap.get?_update_self _ hT rfl]
  simp [Obj.mapSeq]

theorem set_rep (done : List Value) (m : Nat) (x : Value) : ((done ++ List.replicate (m + 1) Value.none).toArray).setIfInBounds done.length x = ((done ++ [x]) ++ List.replicate m Value.none).toArray := by
  rw [List.setIfInBounds_toArray]
  congr 1
  rw [List.set_append_right _ _ (Nat.le_refl _)]
  simp [List.replicate_succ]

theorem next_free {k : Nat} {g : Col → Value} {Q : Value → Shared → Prop} (D : Apart z TI TO cs)
    (hz : IsZip s.heap z TI TO .none) (hTI : IsTupA s.heap TI (refs cs)) (hTO : IsTupA s.heap TO (List.replicate cs.length Value.none).toArray) (hne : cs ≠ []) (hsz : cs.length ≤ 4)
    (hat : ∀ c ∈ cs, c.At s.heap k) (hx : ∀ c ∈ cs, c.xs[k]? = some (g c))
    (hQ : ∀ h', IsZip h' z TI TO (rawInt s.heap.objs.size) → (∀ c ∈ cs, h'.IsListIter c.it c.l (k + 1)) → IsTupA h' s.heap.objs.size (cs.map g).toArray → h'.objs.size = s.heap.objs.size + 1 →
      (∀ c o, c ≠ z → c ≠ TO → c ∉ cs.map (·.it) → s.heap.get? c = some o → h'.get? c = some o) → Q (.ref s.heap.objs.size) { s with heap := h' }) :
    wpAny (model prog w) A (Builtin.«zip.__next__» ⟨[.ref z], []⟩) (fun fin s' => ∃ v, fin = .done (.ret v) ∧ Q v s') E s := by
  show wpAny _ _ (field (.ref z) 2 >>= _) _ _ _
  refine wpAny_bind (wpAny_field hz rfl (x := .bool false) rfl ?_)
  show wpAny _ _ (field (.ref z) 3 >>= _) _ _ _
  refine wpAny_bind (wpAny_field hz rfl (x := .ref TI) rfl ?_)
  refine wpAny_bind (wpAny_seqItems hTI rfl ?_)
  have he : (refs cs).isEmpty = false := by
    cases cs with
    | nil => exact absurd rfl hne
    | cons c cs => simp [refs]
  simp only [he, Bool.false_eq_true, if_false]
  show wpAny _ _ (Builtin.SmallTypes.ownedTupleIsFree (.ref z) >>= _) _ _ _
  refine wpAny_bind ?_
  unfold Builtin.SmallTypes.ownedTupleIsFree
  refine wpAny_bind (wpAny_field hz rfl (x := .none) rfl (wpAny_pure ?_))
  simp only [if_true]
  refine wpAny_bind (wpAny_rule ?_)
  refine wpAny_bind (wpAny_field hz rfl (x := .ref TO) rfl ?_)
  refine wpAny_bind (wpAny_setField_rec hz (by simp) fun h₁ hz₁ hs₁ => ?_)
  replace hz₁ : IsZip h₁ z TI TO .ellipsis := hz₁
  refine wpAny_bind ?_
  rw [show (refs cs).toList.zipIdx = (cs.zipIdx ([] : List Value).length).map (fun p => (Value.ref p.1.it, p.2)) from by simp [refs, zi]]
  refine loop (fun c j => (Value.ref c.it, j)) _ (fun done b t => b = ⟨none, ⟨⟩⟩ ∧ IsZip t.heap z TI TO .ellipsis ∧ IsTupA t.heap TO (done ++ List.replicate (cs.length - done.length) Value.none).toArray) k g E [z, TO, TI] [TO] (by simp) cs.length ?_ cs [] _ { s with heap := h₁ } _ (by simp) D.nd D.ap D.nw ?_ hx ?_ ?_
  · rintro c j done b s1 Q1 hj hjn hat1 hx1 hw1 hw2 hne1 ⟨rfl, hz2, hTO2⟩ q
    simp only [List.mem_cons, List.not_mem_nil, or_false, not_or] at hw1 hw2
    refine wpAny_bind (wpAny_onRaise ?_)
    show wpAny _ _ (Builtin.SmallTypes.nextOf (.ref c.it) >>= _) _ _ _
    refine wpAny_bind (wpAny_nextOf_list_item hat1.1 hat1.2 hx1 fun h2 hi2 hs2 => wpAny_pure ?_)
    have hTO3 : IsTupA h2 TO _ := hs2.extBut _ _ (Ne.symm hw1.2.1) hTO2
    refine wpAny_bind (wpAny_seqItems hTO3 rfl ?_)
    subst hj
    obtain ⟨m, hm⟩ : ∃ m, cs.length - done.length = m + 1 := ⟨cs.length - done.length - 1, by omega⟩
    rw [hm] at hTO3
    refine wpAny_bind (updateSeqA (s := { s1 with heap := h2 }) hTO3 (by simp; omega) fun h3 hTO4 hs3 => ?_)
    rw [set_rep] at hTO4
    refine wpAny_bind (wpAny_letGo (wpAny_pure ?_))
    refine q _ h3 (hi2.extBut hs3.extBut hw1.2.1) (by rw [hs3.1, hs2.1]) (fun a o ha haw e => ?_) ⟨rfl, ?_, ?_⟩
    · simp only [List.mem_cons, List.not_mem_nil, or_false, not_or] at haw
      exact hs3.extBut _ _ haw (hs2.extBut _ _ ha e)
    · exact hs3.extBut _ _ D.TOz.symm (hs2.extBut _ _ (Ne.symm hw1.1) hz2)
    · have e : cs.length - (done ++ [g c]).length = m := by simp; omega
      rw [e]; exact hTO4
  · exact fun c hc => ⟨(hat c hc).1.extBut hs₁.extBut fun e => (D.nw c hc).1 (by simp [e]), (hat c hc).2.extBut hs₁.extBut fun e => (D.nw c hc).2 (by simp [e])⟩
  · exact ⟨rfl, hz₁, by simpa using hs₁.extBut _ _ D.TOz hTO⟩
  · rintro b' h₅ hi₅ hsz₅ hk₅ ⟨rfl, hz₅, hTO₅⟩
    simp only [List.nil_append, List.length_map, Nat.sub_self, List.replicate_zero, List.append_nil] at hTO₅
    have hTO₅' : IsTupA h₅ TO (cs.map g).toArray := hTO₅
    refine wpAny_bind (wpAny_seqItems hTO₅' rfl ?_)
    refine wpAny_bind (wpAny_newTuple ?_ (by size_fits))
    have hsz5 : h₅.objs.size = s.heap.objs.size := by rw [hsz₅]; exact hs₁.1
    have hzlt : z < h₅.objs.size := Heap.lt_size hz₅
    show wpAny _ _ (Builtin.SmallTypes.ownedTupleHandOut (.ref z) (.ref h₅.objs.size) >>= _) _ _ _
    refine wpAny_bind ?_
    unfold Builtin.SmallTypes.ownedTupleHandOut
    have hz₆ : IsZip (h₅.push { cls := .type "tuple", data := .seq (cs.map g).toArray }) z TI TO .ellipsis := Heap.get?_push_of_some _ hz₅
    refine wpAny_bind (wpAny_setField_rec hz₆ (by simp) fun h₇ hz₇ hs₇ => ?_)
    replace hz₇ : IsZip h₇ z TI TO (rawInt h₅.objs.size) := hz₇
    refine wpAny_setField_rec hz₇ (by simp) fun h₈ hz₈ hs₈ => ?_
    replace hz₈ : IsZip h₈ z TI TO (rawInt h₅.objs.size) := hz₈
    have up : ∀ c o, c ≠ z → h₅.get? c = some o → h₈.get? c = some o := fun c o c1 e => hs₈.extBut _ _ c1 (hs₇.extBut _ _ c1 (Heap.get?_push_of_some _ e))
    have hT₈ : IsTupA h₈ h₅.objs.size (cs.map g).toArray := hs₈.extBut _ _ (Nat.ne_of_gt hzlt) (hs₇.extBut _ _ (Nat.ne_of_gt hzlt) (Heap.get?_push_size _ rfl))
    have hz8 : h₈.objs.size = h₅.objs.size + 1 := by rw [hs₈.1, hs₇.1, Heap.size_push]
    rw [hsz5] at hz₈ hT₈ hz8
    refine wpAny_pure ⟨_, rfl, ?_⟩
    show Q (.ref h₅.objs.size) _
    rw [hsz5]
    refine hQ h₈ hz₈ (fun c hc => (hi₅ c hc).at fun o e => up _ o (fun e' => (D.nw c hc).1 (by simp [e'])) e) hT₈ hz8 fun c o c1 c2 c3 e => up c o c1 ?_
    exact hk₅ c o c3 (by simp [c2]) (hs₁.extBut _ _ c1 e)

/-- a zip whose last tuple T is held -/
theorem next_held {T : Addr} {f : Bool} {oT : Obj} {k : Nat} {g : Col → Value} {Q : Value → Shared → Prop} (D : Apart z TI TO cs)
    (hz : IsZipHeld s.heap z TI TO T f) (hT : s.heap.get? T = some oT) (hTI : IsTupA s.heap TI (refs cs)) (hne : cs ≠ []) (hsz : cs.length ≤ 4)
    (hat : ∀ c ∈ cs, c.At s.heap k) (hx : ∀ c ∈ cs, c.xs[k]? = some (g c))
    (hQ : ∀ h', IsZipHeld h' z TI TO T true → (∀ c ∈ cs, h'.IsListIter c.it c.l (k + 1)) → IsTupA h' s.heap.objs.size (cs.map g).toArray → h'.objs.size = s.heap.objs.size + 1 →
      (∀ c o, c ≠ z → c ∉ cs.map (·.it) → s.heap.get? c = some o → h'.get? c = some o) → Q (.ref s.heap.objs.size) { s with heap := h' }) :
    wpAny (model prog w) A (Builtin.«zip.__next__» ⟨[.ref z], []⟩) (fun fin s' => ∃ v, fin = .done (.ret v) ∧ Q v s') E s := by
  show wpAny _ _ (field (.ref z) 2 >>= _) _ _ _
  refine wpAny_bind (wpAny_field hz rfl (x := .bool false) rfl ?_)
  show wpAny _ _ (field (.ref z) 3 >>= _) _ _ _
  refine wpAny_bind (wpAny_field hz rfl (x := .ref TI) rfl ?_)
  refine wpAny_bind (wpAny_seqItems hTI rfl ?_)
  have he : (refs cs).isEmpty = false := by
    cases cs with
    | nil => exact absurd rfl hne
    | cons c cs => simp [refs]
  simp only [he, Bool.false_eq_true, if_false]
  show wpAny _ _ (Builtin.SmallTypes.ownedTupleIsFree (.ref z) >>= _) _ _ _
  refine wpAny_bind (wpAny_tupleHeld_zip hz hT fun h₁ hz₁ hs₁ => ?_)
  simp only [Bool.false_eq_true, if_false]
  refine wpAny_bind ?_
  rw [← Array.forIn_toList]
  rw [show (refs cs).toList = (cs.zipIdx ([] : List Value).length).map (fun p => Value.ref p.1.it) from by simp only [refs]; exact zi1 _ _ _]
  refine loop (fun c j => Value.ref c.it) _ (fun done b t => b = ⟨none, done.toArray⟩ ∧ done.length ≤ cs.length) k g E [z, TO, TI] [] (by simp) cs.length ?_ cs [] _ { s with heap := h₁ } _ (by simp) D.nd D.ap D.nw ?_ hx ?_ ?_
  · rintro c j done b s1 Q1 hj hjn hat1 hx1 hw1 hw2 hne1 ⟨rfl, hle⟩ q
    refine wpAny_bind (wpAny_holding ?_)
    show wpAny _ _ (Builtin.SmallTypes.nextOf (.ref c.it) >>= _) _ _ _
    refine wpAny_bind (wpAny_nextOf_list_item hat1.1 hat1.2 hx1 fun h2 hi2 hs2 => wpAny_pure ?_)
    refine wpAny_pure ?_
    have := q ⟨none, (done ++ [g c]).toArray⟩ h2 hi2 hs2.1 (fun a o ha haw e => hs2.extBut _ _ ha e) ⟨rfl, by simp; omega⟩
    simpa using this
  · exact fun c hc => ⟨(hat c hc).1.extBut hs₁.extBut fun e => (D.nw c hc).1 (by simp [e]), (hat c hc).2.extBut hs₁.extBut fun e => (D.nw c hc).2 (by simp [e])⟩
  · exact ⟨rfl, by simp⟩
  · rintro b' h₅ hi₅ hsz₅ hk₅ ⟨rfl, _⟩
    have hsz5 : h₅.objs.size = s.heap.objs.size := by rw [hsz₅]; exact hs₁.1
    simp only [List.nil_append]
    show wpAny _ _ (newTuple (cs.map g) >>= _) _ _ _
    refine wpAny_bind (wpAny_newTuple ?_ (by size_fits))
    refine wpAny_pure ⟨_, rfl, ?_⟩
    show Q (.ref h₅.objs.size) _
    have hTn : IsTupA (h₅.push { cls := .type "tuple", data := .seq (cs.map g).toArray }) h₅.objs.size (cs.map g).toArray := Heap.get?_push_size _ rfl
    have hz4 : (h₅.push { cls := .type "tuple", data := .seq (cs.map g).toArray }).objs.size = h₅.objs.size + 1 := Heap.size_push ..
    rw [hsz5] at hTn hz4 ⊢
    have hz₅ : IsZipHeld h₅ z TI TO T true := hk₅ _ _ (fun hm => by
      obtain ⟨c, hc, e⟩ := List.mem_map.mp hm
      exact (D.nw c hc).1 (by simp [e])) (by simp) hz₁
    exact hQ _ (Heap.get?_push_of_some _ hz₅) (fun c hc => (hi₅ c hc).at fun o e => Heap.get?_push_of_some _ e) hTn hz4 fun c o c1 c3 e => Heap.get?_push_of_some _ (hk₅ c o c3 (by simp) (hs₁.extBut _ _ c1 e))

/-- the end -/
theorem end_held {T : Addr} {f : Bool} {oT : Obj} {k : Nat} {Q : Fin → Shared → Prop} (hh : A.handled = none) (D : Apart z TI TO cs)
    (hz : IsZipHeld s.heap z TI TO T f) (hT : s.heap.get? T = some oT) (hTI : IsTupA s.heap TI (refs cs)) (hne : cs ≠ [])
    (hat : ∀ c ∈ cs, c.At s.heap k) (hx : ∀ c ∈ cs, c.xs[k]? = none)
    (hE : ∀ h' e, (∀ c o, c ≠ z → c ∉ cs.map (·.it) → s.heap.get? c = some o → h'.get? c = some o) → (∃ o, h'.get? e = some o ∧ o.cls = .type "StopIteration") → E (.ref e) { s with heap := h' }) :
    wpAny (model prog w) A (Builtin.«zip.__next__» ⟨[.ref z], []⟩) Q E s := by
  show wpAny _ _ (field (.ref z) 2 >>= _) _ _ _
  refine wpAny_bind (wpAny_field hz rfl (x := .bool false) rfl ?_)
  show wpAny _ _ (field (.ref z) 3 >>= _) _ _ _
  refine wpAny_bind (wpAny_field hz rfl (x := .ref TI) rfl ?_)
  refine wpAny_bind (wpAny_seqItems hTI rfl ?_)
  obtain ⟨c, cs', rfl⟩ : ∃ c cs', cs = c :: cs' := by
    cases cs with
    | nil => exact absurd rfl hne
    | cons c cs => exact ⟨c, cs, rfl⟩
  have he : (refs (c :: cs')).isEmpty = false := by simp [refs]
  simp only [he, Bool.false_eq_true, if_false]
  show wpAny _ _ (Builtin.SmallTypes.ownedTupleIsFree (.ref z) >>= _) _ _ _
  refine wpAny_bind (wpAny_tupleHeld_zip hz hT fun h₁ hz₁ hs₁ => ?_)
  simp only [Bool.false_eq_true, if_false]
  refine wpAny_bind ?_
  rw [← Array.forIn_toList]
  rw [show (refs (c :: cs')).toList = Value.ref c.it :: cs'.map (fun c => Value.ref c.it) from by simp [refs]]
  simp only [List.forIn_cons]
  refine wpAny_bind (wpAny_bind (wpAny_holding ?_))
  show wpAny _ _ (Builtin.SmallTypes.nextOf (.ref c.it) >>= _) _ _ _
  have hat1 : c.At h₁ k := ⟨(hat c (by simp)).1.extBut hs₁.extBut fun e => (D.nw c (by simp)).1 (by simp [e]), (hat c (by simp)).2.extBut hs₁.extBut fun e => (D.nw c (by simp)).2 (by simp [e])⟩
  refine wpAny_bind (wpAny_nextOf_list_end (s := { s with heap := h₁ }) hh hat1.1 hat1.2 (hx c (by simp)) fun h₂ e hs₂ he => ?_)
  exact hE h₂ e (fun a o c1 c2 x => hs₂ _ _ (fun e' => c2 (by simp [e'])) (hs₁.extBut _ _ c1 x)) he
end

section
variable {prog : Program} {w : World} {A : Around} {E : Value → Shared → Prop} {z TI TO : Addr} {cs : List Col} {s : Shared}
theorem pyNext_free {k : Nat} {g : Col → Value} {Q : Option Value → Shared → Prop} (D : Apart z TI TO cs)
    (hz : IsZip s.heap z TI TO .none) (hTI : IsTupA s.heap TI (refs cs)) (hTO : IsTupA s.heap TO (List.replicate cs.length Value.none).toArray) (hne : cs ≠ []) (hsz : cs.length ≤ 4)
    (hat : ∀ c ∈ cs, c.At s.heap k) (hx : ∀ c ∈ cs, c.xs[k]? = some (g c))
    (hQ : ∀ h', IsZip h' z TI TO (rawInt s.heap.objs.size) → (∀ c ∈ cs, h'.IsListIter c.it c.l (k + 1)) → IsTupA h' s.heap.objs.size (cs.map g).toArray → h'.objs.size = s.heap.objs.size + 1 →
      (∀ c o, c ≠ z → c ≠ TO → c ∉ cs.map (·.it) → s.heap.get? c = some o → h'.get? c = some o) → Q (some (.ref s.heap.objs.size)) { s with heap := h' }) :
    wpAny (model prog w) A (pyNext (.ref z)) Q E s := by
  have hTy : s.TypeIs (.ref z) "zip" := ⟨_, hz, rfl⟩
  unfold pyNext
  exact wpAny_bind (wpAny_attempt (wpAny_callSpecial?_slot (name := Str.ofString "__next__") hTy F.slot_zip_next
    (wpAny_call_entry F.slot_zip_next hTy F.entry_zip_next
      (next_free D hz hTI hTO hne hsz hat hx fun h' a1 a3 a4 a5 a6 => wpAny_pure (hQ h' a1 a3 a4 a5 a6)) (F.args_zip_next_1 _))))
theorem pyNext_held {T : Addr} {f : Bool} {oT : Obj} {k : Nat} {g : Col → Value} {Q : Option Value → Shared → Prop} (D : Apart z TI TO cs)
    (hz : IsZipHeld s.heap z TI TO T f) (hT : s.heap.get? T = some oT) (hTI : IsTupA s.heap TI (refs cs)) (hne : cs ≠ []) (hsz : cs.length ≤ 4)
    (hat : ∀ c ∈ cs, c.At s.heap k) (hx : ∀ c ∈ cs, c.xs[k]? = some (g c))
    (hQ : ∀ h', IsZipHeld h' z TI TO T true → (∀ c ∈ cs, h'.IsListIter c.it c.l (k + 1)) → IsTupA h' s.heap.objs.size (cs.map g).toArray → h'.objs.size = s.heap.objs.size + 1 →
      (∀ c o, c ≠ z → c ∉ cs.map (·.it) → s.heap.get? c = some o → h'.get? c = some o) → Q (some (.ref s.heap.objs.size)) { s with heap := h' }) :
    wpAny (model prog w) A (pyNext (.ref z)) Q E s := by
  have hTy : s.TypeIs (.ref z) "zip" := ⟨_, hz, rfl⟩
  unfold pyNext
  exact wpAny_bind (wpAny_attempt (wpAny_callSpecial?_slot (name := Str.ofString "__next__") hTy F.slot_zip_next
    (wpAny_call_entry F.slot_zip_next hTy F.entry_zip_next
      (next_held D hz hT hTI hne hsz hat hx fun h' a1 a3 a4 a5 a6 => wpAny_pure (hQ h' a1 a3 a4 a5 a6)) (F.args_zip_next_1 _))))
theorem pyNext_end {T : Addr} {f : Bool} {oT : Obj} {k : Nat} {Q : Option Value → Shared → Prop} (hh : A.handled = none) (D : Apart z TI TO cs)
    (hz : IsZipHeld s.heap z TI TO T f) (hT : s.heap.get? T = some oT) (hTI : IsTupA s.heap TI (refs cs)) (hne : cs ≠ [])
    (hat : ∀ c ∈ cs, c.At s.heap k) (hx : ∀ c ∈ cs, c.xs[k]? = none)
    (hQ : ∀ h', (∀ c o, c ≠ z → c ∉ cs.map (·.it) → s.heap.get? c = some o → h'.get? c = some o) → Q none { s with heap := h' }) : wpAny (model prog w) A (pyNext (.ref z)) Q E s := by
  have hTy : s.TypeIs (.ref z) "zip" := ⟨_, hz, rfl⟩
  unfold pyNext
  refine wpAny_bind (wpAny_attempt (wpAny_callSpecial?_slot (name := Str.ofString "__next__") hTy F.slot_zip_next
    (wpAny_call_entry F.slot_zip_next hTy F.entry_zip_next (end_held hh D hz hT hTI hne hat hx fun h' e hk he => ?_) (F.args_zip_next_1 _))))
  obtain ⟨o, ho, hc⟩ := he
  refine wpAny_bind (wpAny_isInstance (T := "StopIteration") (b := true) ⟨o, ho, hc⟩ isSubtype_stop ?_)
  exact wpAny_pure (hQ _ hk)
end
end ZT
/-! DLZ1: zip(*columns), its beginning, for 1 to 4 columns. -/

/-! ### zip(*columns) begins -/
namespace ZT
open PySem
open Sem (wp)
theorem nin {x a b c : Nat} (h1 : x ≠ a) (h2 : x ≠ b) (h3 : x ≠ c) : x ∉ [a, b, c] := by simp [h1, h2, h3]
abbrev itO (l : Addr) : Obj := { cls := .type "list_iterator", data := .fields #[.ref l, .int 0 0] }
/-- what zip has made -/
structure Made (h h' : Heap) (ls : List (Addr × Array Value)) (z TI TO : Addr) (cs : List Col) : Prop where
  eq : cs.map (fun c => (c.l, c.xs)) = ls
  D : Apart z TI TO cs
  hz : IsZip h' z TI TO .none
  hTI : IsTupA h' TI (refs cs)
  hTO : IsTupA h' TO (List.replicate cs.length Value.none).toArray
  hat : ∀ c ∈ cs, c.At h' 0
  new : h.objs.size ≤ z ∧ h.objs.size ≤ TI ∧ h.objs.size ≤ TO ∧ ∀ c ∈ cs, h.objs.size ≤ c.it
  keep : ∀ c o, h.get? c = some o → h'.get? c = some o
theorem typeCall_1 (v0 : Value) : checkTypeCall "zip" ⟨[v0], []⟩ = pure () := by kernel_rfl
theorem newCall_1 (v0 : Value) : checkBuiltinCall "zip.__new__" ⟨[.type "zip", v0], []⟩ = pure () := by kernel_rfl
abbrev zh1_0 (h : Heap) (l0 : Addr) : Heap := h.push (itO l0)
abbrev zT1 (h : Heap) (l0 : Addr) : Heap := (zh1_0 h l0).push { cls := .type "tuple", data := .seq #[.ref h.objs.size] }
abbrev zO1 (h : Heap) (l0 : Addr) : Heap := (zT1 h l0).push { cls := .type "tuple", data := .seq #[.none] }
abbrev zZ1 (h : Heap) (l0 : Addr) : Heap := (zO1 h l0).push { cls := .type "zip", data := .fields #[.none, .bool false, .bool false, .ref (zh1_0 h l0).objs.size, .ref (zT1 h l0).objs.size] }
theorem meets_1 (l0 : Addr) (x0 : Array Value) :
    Meets (Builtin.«zip.__new__» ⟨[.type "zip", .ref l0], []⟩) (fun _ R s => (s.heap.IsList l0 x0) ∧
      R (.ok (.ret (.ref (zO1 s.heap l0).objs.size))) { s with heap := zZ1 s.heap l0 }) :=
  .of_wp fun prog w A R s h => by
    obtain ⟨hp, g, d, tk, os⟩ := s; obtain ⟨h0, h⟩ := h
    have hsub := sub_zip
    have q0 : ∀ {A' : Around} {E : Value → Shared → Prop} {Q : Value → Shared → Prop}, Q (.ref hp.objs.size) ⟨(zh1_0 hp l0), g, d, tk, os⟩ → wpAny (model prog w) A' (pyIter (.ref l0)) Q E ⟨hp, g, d, tk, os⟩ :=
      fun q => wpAny_pyIter_list (s := ⟨hp, g, d, tk, os⟩) (show Heap.IsList hp l0 x0 from (h0)) q
    wp_walk using q0
    exact ⟨_, rfl, h⟩
theorem apart1 {N : Nat} {l0 : Nat} {x0 : Array Value} (b0 : l0 < N) : Apart (N + 3) (N + 1) (N + 2) [(⟨N, l0, x0⟩ : Col)] where
  TIz := show (N + 1 : Nat) ≠ N + 3 by omega
  TOz := show (N + 2 : Nat) ≠ N + 3 by omega
  TITO := show (N + 1 : Nat) ≠ N + 2 by omega
  nd := by
    show List.Nodup (α := Nat) [N]
    simp
  ap := fun c hc d hd => by
    simp only [List.mem_cons, List.not_mem_nil, or_false] at hc hd
    rcases hc with rfl <;> rcases hd with rfl <;> first | exact (show (l0 : Nat) ≠ N by omega)
  nw := fun c hc => by
    simp only [List.mem_cons, List.not_mem_nil, or_false] at hc
    rcases hc with rfl <;> first | exact ⟨nin (show (N : Nat) ≠ N + 3 by omega) (show (N : Nat) ≠ N + 2 by omega) (show (N : Nat) ≠ N + 1 by omega), nin (show (l0 : Nat) ≠ N + 3 by omega) (show (l0 : Nat) ≠ N + 2 by omega) (show (l0 : Nat) ≠ N + 1 by omega)⟩
section
variable {prog : Program} {w : World} {A : Around} {E : Value → Shared → Prop} {s : Shared}
theorem zip_1 {l0 : Addr} {x0 : Array Value} {Q : Value → Shared → Prop} (h0 : s.heap.IsList l0 x0)
    (h : ∀ h' z TI TO cs, Made s.heap h' [(l0, x0)] z TI TO cs → Q (.ref z) { s with heap := h' }) :
    wpAny (model prog w) A (call (.type "zip") [.ref l0]) Q E s := by
  refine callType_new F.called_zip (by decide) (typeCall_1 _) (newCall_1 _) (fun obj => F.args_object_init_2 obj _) F.entry_zip_new
    (meets_1 l0 x0) ⟨h0, ?_⟩
  have z0 : (zh1_0 s.heap l0).objs.size = s.heap.objs.size + 1 := by rw [Heap.size_push]
  have zT : (zT1 s.heap l0).objs.size = s.heap.objs.size + 2 := by rw [Heap.size_push, z0]
  have zO : (zO1 s.heap l0).objs.size = s.heap.objs.size + 3 := by rw [Heap.size_push, zT]
  have gZ : (zZ1 s.heap l0).get? (zO1 s.heap l0).objs.size = some { cls := .type "zip", data := .fields #[.none, .bool false, .bool false, .ref (zh1_0 s.heap l0).objs.size, .ref (zT1 s.heap l0).objs.size] } := Heap.get?_push_size _ rfl
  have gO : (zZ1 s.heap l0).get? (zT1 s.heap l0).objs.size = some { cls := .type "tuple", data := .seq #[.none] } := Heap.get?_push_of_some _ (Heap.get?_push_size _ rfl)
  have gT : (zZ1 s.heap l0).get? (zh1_0 s.heap l0).objs.size = some { cls := .type "tuple", data := .seq #[.ref s.heap.objs.size] } := Heap.get?_push_of_some _ (Heap.get?_push_of_some _ (Heap.get?_push_size _ rfl))
  have g0 : (zZ1 s.heap l0).get? s.heap.objs.size = some (itO l0) := Heap.get?_push_of_some _ (Heap.get?_push_of_some _ (Heap.get?_push_of_some _ (Heap.get?_push_size _ rfl)))
  rw [zO, zT, z0] at gZ
  rw [zT] at gO
  rw [z0] at gT
  show _ ∧ _
  rw [zO]
  have k : ∀ c o, s.heap.get? c = some o → (zZ1 s.heap l0).get? c = some o := fun c o e => Heap.get?_push_of_some _ (Heap.get?_push_of_some _ (Heap.get?_push_of_some _ (Heap.get?_push_of_some _ (e))))
  have b0 : l0 < s.heap.objs.size := by obtain ⟨_, e, _⟩ := h0; exact Heap.lt_size e
  have kl : ∀ (l : Addr) (x : Array Value), s.heap.IsList l x → (zZ1 s.heap l0).IsList l x := fun l x e => e.at fun o q => k _ o q
  have D := apart1 (N := s.heap.objs.size) (x0 := x0) b0
  refine ⟨⟨_, gZ, rfl⟩, h _ _ _ _ [⟨s.heap.objs.size, l0, x0⟩] ⟨rfl, D, gZ, gT, gO, ?_, ?_, k⟩⟩
  · intro c hc
    simp only [List.mem_cons, List.not_mem_nil, or_false] at hc
    rcases hc with rfl
    · exact ⟨⟨_, g0, rfl, rfl⟩, kl _ _ h0⟩
  · refine ⟨Nat.le_add_right _ _, Nat.le_add_right _ _, Nat.le_add_right _ _, fun c hc => ?_⟩
    simp only [List.mem_cons, List.not_mem_nil, or_false] at hc
    rcases hc with rfl
    · exact Nat.le_refl _
end
abbrev zh2_0 (h : Heap) (l0 l1 : Addr) : Heap := h.push (itO l0)
abbrev zh2_1 (h : Heap) (l0 l1 : Addr) : Heap := (zh2_0 h l0 l1).push (itO l1)
abbrev zT2 (h : Heap) (l0 l1 : Addr) : Heap := (zh2_1 h l0 l1).push { cls := .type "tuple", data := .seq #[.ref h.objs.size, .ref (zh2_0 h l0 l1).objs.size] }
abbrev zO2 (h : Heap) (l0 l1 : Addr) : Heap := (zT2 h l0 l1).push { cls := .type "tuple", data := .seq #[.none, .none] }
abbrev zZ2 (h : Heap) (l0 l1 : Addr) : Heap := (zO2 h l0 l1).push { cls := .type "zip", data := .fields #[.none, .bool false, .bool false, .ref (zh2_1 h l0 l1).objs.size, .ref (zT2 h l0 l1).objs.size] }
theorem meets_2 (l0 l1 : Addr) (x0 x1 : Array Value) :
    Meets (Builtin.«zip.__new__» ⟨[.type "zip", .ref l0, .ref l1], []⟩) (fun _ R s => (s.heap.IsList l0 x0 ∧ s.heap.IsList l1 x1) ∧
      R (.ok (.ret (.ref (zO2 s.heap l0 l1).objs.size))) { s with heap := zZ2 s.heap l0 l1 }) :=
  .of_wp fun prog w A R s h => by
    obtain ⟨hp, g, d, tk, os⟩ := s; obtain ⟨⟨h0, h1⟩, h⟩ := h
    have hsub := sub_zip
    have q0 : ∀ {A' : Around} {E : Value → Shared → Prop} {Q : Value → Shared → Prop}, Q (.ref hp.objs.size) ⟨(zh2_0 hp l0 l1), g, d, tk, os⟩ → wpAny (model prog w) A' (pyIter (.ref l0)) Q E ⟨hp, g, d, tk, os⟩ :=
      fun q => wpAny_pyIter_list (s := ⟨hp, g, d, tk, os⟩) (show Heap.IsList hp l0 x0 from (h0)) q
    have q1 : ∀ {A' : Around} {E : Value → Shared → Prop} {Q : Value → Shared → Prop}, Q (.ref (zh2_0 hp l0 l1).objs.size) ⟨(zh2_1 hp l0 l1), g, d, tk, os⟩ → wpAny (model prog w) A' (pyIter (.ref l1)) Q E ⟨(zh2_0 hp l0 l1), g, d, tk, os⟩ :=
      fun q => wpAny_pyIter_list (s := ⟨(zh2_0 hp l0 l1), g, d, tk, os⟩) (show Heap.IsList (zh2_0 hp l0 l1) l1 x1 from (h1.push _)) q
    wp_walk using q0, q1
    exact ⟨_, rfl, h⟩
theorem apart2 {N : Nat} {l0 l1 : Nat} {x0 x1 : Array Value} (b0 : l0 < N) (b1 : l1 < N) : Apart (N + 4) (N + 2) (N + 3) [(⟨N, l0, x0⟩ : Col), (⟨N + 1, l1, x1⟩ : Col)] where
  TIz := show (N + 2 : Nat) ≠ N + 4 by omega
  TOz := show (N + 3 : Nat) ≠ N + 4 by omega
  TITO := show (N + 2 : Nat) ≠ N + 3 by omega
  nd := by
    show List.Nodup (α := Nat) [N, N + 1]
    simp
  ap := fun c hc d hd => by
    simp only [List.mem_cons, List.not_mem_nil, or_false] at hc hd
    rcases hc with rfl | rfl <;> rcases hd with rfl | rfl <;> first | exact (show (l0 : Nat) ≠ N by omega) | exact (show (l0 : Nat) ≠ N + 1 by omega) | exact (show (l1 : Nat) ≠ N by omega) | exact (show (l1 : Nat) ≠ N + 1 by omega)
  nw := fun c hc => by
    simp only [List.mem_cons, List.not_mem_nil, or_false] at hc
    rcases hc with rfl | rfl <;> first | exact ⟨nin (show (N : Nat) ≠ N + 4 by omega) (show (N : Nat) ≠ N + 3 by omega) (show (N : Nat) ≠ N + 2 by omega), nin (show (l0 : Nat) ≠ N + 4 by omega) (show (l0 : Nat) ≠ N + 3 by omega) (show (l0 : Nat) ≠ N + 2 by omega)⟩ | exact ⟨nin (show (N + 1 : Nat) ≠ N + 4 by omega) (show (N + 1 : Nat) ≠ N + 3 by omega) (show (N + 1 : Nat) ≠ N + 2 by omega), nin (show (l1 : Nat) ≠ N + 4 by omega) (show (l1 : Nat) ≠ N + 3 by omega) (show (l1 : Nat) ≠ N + 2 by omega)⟩
section
variable {prog : Program} {w : World} {A : Around} {E : Value → Shared → Prop} {s : Shared}
theorem zip_2 {l0 l1 : Addr} {x0 x1 : Array Value} {Q : Value → Shared → Prop} (h0 : s.heap.IsList l0 x0) (h1 : s.heap.IsList l1 x1)
    (h : ∀ h' z TI TO cs, Made s.heap h' [(l0, x0), (l1, x1)] z TI TO cs → Q (.ref z) { s with heap := h' }) :
    wpAny (model prog w) A (call (.type "zip") [.ref l0, .ref l1]) Q E s := by
  refine callType_new F.called_zip (by decide) (F.typeCall_zip_2 _ _) (F.newCall_zip_2 _ _) (fun obj => F.args_object_init_3 obj _ _) F.entry_zip_new
    (meets_2 l0 l1 x0 x1) ⟨⟨h0, h1⟩, ?_⟩
  have z0 : (zh2_0 s.heap l0 l1).objs.size = s.heap.objs.size + 1 := by rw [Heap.size_push]
  have z1 : (zh2_1 s.heap l0 l1).objs.size = s.heap.objs.size + 2 := by rw [Heap.size_push, z0]
  have zT : (zT2 s.heap l0 l1).objs.size = s.heap.objs.size + 3 := by rw [Heap.size_push, z1]
  have zO : (zO2 s.heap l0 l1).objs.size = s.heap.objs.size + 4 := by rw [Heap.size_push, zT]
  have gZ : (zZ2 s.heap l0 l1).get? (zO2 s.heap l0 l1).objs.size = some { cls := .type "zip", data := .fields #[.none, .bool false, .bool false, .ref (zh2_1 s.heap l0 l1).objs.size, .ref (zT2 s.heap l0 l1).objs.size] } := Heap.get?_push_size _ rfl
  have gO : (zZ2 s.heap l0 l1).get? (zT2 s.heap l0 l1).objs.size = some { cls := .type "tuple", data := .seq #[.none, .none] } := Heap.get?_push_of_some _ (Heap.get?_push_size _ rfl)
  have gT : (zZ2 s.heap l0 l1).get? (zh2_1 s.heap l0 l1).objs.size = some { cls := .type "tuple", data := .seq #[.ref s.heap.objs.size, .ref (zh2_0 s.heap l0 l1).objs.size] } := Heap.get?_push_of_some _ (Heap.get?_push_of_some _ (Heap.get?_push_size _ rfl))
  have g0 : (zZ2 s.heap l0 l1).get? s.heap.objs.size = some (itO l0) := Heap.get?_push_of_some _ (Heap.get?_push_of_some _ (Heap.get?_push_of_some _ (Heap.get?_push_of_some _ (Heap.get?_push_size _ rfl))))
  have g1 : (zZ2 s.heap l0 l1).get? (zh2_0 s.heap l0 l1).objs.size = some (itO l1) := Heap.get?_push_of_some _ (Heap.get?_push_of_some _ (Heap.get?_push_of_some _ (Heap.get?_push_size _ rfl)))
  rw [zO, zT, z1] at gZ
  rw [zT] at gO
  rw [z1, z0] at gT
  rw [z0] at g1
  show _ ∧ _
  rw [zO]
  have k : ∀ c o, s.heap.get? c = some o → (zZ2 s.heap l0 l1).get? c = some o := fun c o e => Heap.get?_push_of_some _ (Heap.get?_push_of_some _ (Heap.get?_push_of_some _ (Heap.get?_push_of_some _ (Heap.get?_push_of_some _ (e)))))
  have b0 : l0 < s.heap.objs.size := by obtain ⟨_, e, _⟩ := h0; exact Heap.lt_size e
  have b1 : l1 < s.heap.objs.size := by obtain ⟨_, e, _⟩ := h1; exact Heap.lt_size e
  have kl : ∀ (l : Addr) (x : Array Value), s.heap.IsList l x → (zZ2 s.heap l0 l1).IsList l x := fun l x e => e.at fun o q => k _ o q
  have D := apart2 (N := s.heap.objs.size) (x0 := x0) (x1 := x1) b0 b1
  refine ⟨⟨_, gZ, rfl⟩, h _ _ _ _ [⟨s.heap.objs.size, l0, x0⟩, ⟨s.heap.objs.size + 1, l1, x1⟩] ⟨rfl, D, gZ, gT, gO, ?_, ?_, k⟩⟩
  · intro c hc
    simp only [List.mem_cons, List.not_mem_nil, or_false] at hc
    rcases hc with rfl | rfl
    · exact ⟨⟨_, g0, rfl, rfl⟩, kl _ _ h0⟩
    · exact ⟨⟨_, g1, rfl, rfl⟩, kl _ _ h1⟩
  · refine ⟨Nat.le_add_right _ _, Nat.le_add_right _ _, Nat.le_add_right _ _, fun c hc => ?_⟩
    simp only [List.mem_cons, List.not_mem_nil, or_false] at hc
    rcases hc with rfl | rfl
    · exact Nat.le_refl _
    · exact Nat.le_add_right _ _
end
abbrev zh3_0 (h : Heap) (l0 l1 l2 : Addr) : Heap := h.push (itO l0)
abbrev zh3_1 (h : Heap) (l0 l1 l2 : Addr) : Heap := (zh3_0 h l0 l1 l2).push (itO l1)
abbrev zh3_2 (h : Heap) (l0 l1 l2 : Addr) : Heap := (zh3_1 h l0 l1 l2).push (itO l2)
abbrev zT3 (h : Heap) (l0 l1 l2 : Addr) : Heap := (zh3_2 h l0 l1 l2).push { cls := .type "tuple", data := .seq #[.ref h.objs.size, .ref (zh3_0 h l0 l1 l2).objs.size, .ref (zh3_1 h l0 l1 l2).objs.size] }
abbrev zO3 (h : Heap) (l0 l1 l2 : Addr) : Heap := (zT3 h l0 l1 l2).push { cls := .type "tuple", data := .seq #[.none, .none, .none] }
abbrev zZ3 (h : Heap) (l0 l1 l2 : Addr) : Heap := (zO3 h l0 l1 l2).push { cls := .type "zip", data := .fields #[.none, .bool false, .bool false, .ref (zh3_2 h l0 l1 l2).objs.size, .ref (zT3 h l0 l1 l2).objs.size] }
theorem meets_3 (l0 l1 l2 : Addr) (x0 x1 x2 : Array Value) :
    Meets (Builtin.«zip.__new__» ⟨[.type "zip", .ref l0, .ref l1, .ref l2], []⟩) (fun _ R s => (s.heap.IsList l0 x0 ∧ s.heap.IsList l1 x1 ∧ s.heap.IsList l2 x2) ∧
      R (.ok (.ret (.ref (zO3 s.heap l0 l1 l2).objs.size))) { s with heap := zZ3 s.heap l0 l1 l2 }) :=
  .of_wp fun prog w A R s h => by
    obtain ⟨hp, g, d, tk, os⟩ := s; obtain ⟨⟨h0, h1, h2⟩, h⟩ := h
    have hsub := sub_zip
    have q0 : ∀ {A' : Around} {E : Value → Shared → Prop} {Q : Value → Shared → Prop}, Q (.ref hp.objs.size) ⟨(zh3_0 hp l0 l1 l2), g, d, tk, os⟩ → wpAny (model prog w) A' (pyIter (.ref l0)) Q E ⟨hp, g, d, tk, os⟩ :=
      fun q => wpAny_pyIter_list (s := ⟨hp, g, d, tk, os⟩) (show Heap.IsList hp l0 x0 from (h0)) q
    have q1 : ∀ {A' : Around} {E : Value → Shared → Prop} {Q : Value → Shared → Prop}, Q (.ref (zh3_0 hp l0 l1 l2).objs.size) ⟨(zh3_1 hp l0 l1 l2), g, d, tk, os⟩ → wpAny (model prog w) A' (pyIter (.ref l1)) Q E ⟨(zh3_0 hp l0 l1 l2), g, d, tk, os⟩ :=
      fun q => wpAny_pyIter_list (s := ⟨(zh3_0 hp l0 l1 l2), g, d, tk, os⟩) (show Heap.IsList (zh3_0 hp l0 l1 l2) l1 x1 from (h1.push _)) q
    have q2 : ∀ {A' : Around} {E : Value → Shared → Prop} {Q : Value → Shared → Prop}, Q (.ref (zh3_1 hp l0 l1 l2).objs.size) ⟨(zh3_2 hp l0 l1 l2), g, d, tk, os⟩ → wpAny (model prog w) A' (pyIter (.ref l2)) Q E ⟨(zh3_1 hp l0 l1 l2), g, d, tk, os⟩ :=
      fun q => wpAny_pyIter_list (s := ⟨(zh3_1 hp l0 l1 l2), g, d, tk, os⟩) (show Heap.IsList (zh3_1 hp l0 l1 l2) l2 x2 from ((h2.push _).push _)) q
    wp_walk using q0, q1, q2
    exact ⟨_, rfl, h⟩
theorem apart3 {N : Nat} {l0 l1 l2 : Nat} {x0 x1 x2 : Array Value} (b0 : l0 < N) (b1 : l1 < N) (b2 : l2 < N) : Apart (N + 5) (N + 3) (N + 4) [(⟨N, l0, x0⟩ : Col), (⟨N + 1, l1, x1⟩ : Col), (⟨N + 2, l2, x2⟩ : Col)] where
  TIz := show (N + 3 : Nat) ≠ N + 5 by omega
  TOz := show (N + 4 : Nat) ≠ N + 5 by omega
  TITO := show (N + 3 : Nat) ≠ N + 4 by omega
  nd := by
    show List.Nodup (α := Nat) [N, N + 1, N + 2]
    simp
  ap := fun c hc d hd => by
    simp only [List.mem_cons, List.not_mem_nil, or_false] at hc hd
    rcases hc with rfl | rfl | rfl <;> rcases hd with rfl | rfl | rfl <;> first | exact (show (l0 : Nat) ≠ N by omega) | exact (show (l0 : Nat) ≠ N + 1 by omega) | exact (show (l0 : Nat) ≠ N + 2 by omega) | exact (show (l1 : Nat) ≠ N by omega) | exact (show (l1 : Nat) ≠ N + 1 by omega) | exact (show (l1 : Nat) ≠ N + 2 by omega) | exact (show (l2 : Nat) ≠ N by omega) | exact (show (l2 : Nat) ≠ N + 1 by omega) | exact (show (l2 : Nat) ≠ N + 2 by omega)
  nw := fun c hc => by
    simp only [List.mem_cons, List.not_mem_nil, or_false] at hc
    rcases hc with rfl | rfl | rfl <;> first | exact ⟨nin (show (N : Nat) ≠ N + 5 by omega) (show (N : Nat) ≠ N + 4 by omega) (show (N : Nat) ≠ N + 3 by omega), nin (show (l0 : Nat) ≠ N + 5 by omega) (show (l0 : Nat) ≠ N + 4 by omega) (show (l0 : Nat) ≠ N + 3 by omega)⟩ | exact ⟨nin (show (N + 1 : Nat) ≠ N + 5 by omega) (show (N + 1 : Nat) ≠ N + 4 by omega) (show (N + 1 : Nat) ≠ N + 3 by omega), nin (show (l1 : Nat) ≠ N + 5 by omega) (show (l1 : Nat) ≠ N + 4 by omega) (show (l1 : Nat) ≠ N + 3 by omega)⟩ | exact ⟨nin (show (N + 2 : Nat) ≠ N + 5 by omega) (show (N + 2 : Nat) ≠ N + 4 by omega) (show (N + 2 : Nat) ≠ N + 3 by omega), nin (show (l2 : Nat) ≠ N + 5 by omega) (show (l2 : Nat) ≠ N + 4 by omega) (show (l2 : Nat) ≠ N + 3 by omega)⟩
section
variable {prog : Program} {w : World} {A : Around} {E : Value → Shared → Prop} {s : Shared}
theorem zip_3 {l0 l1 l2 : Addr} {x0 x1 x2 : Array Value} {Q : Value → Shared → Prop} (h0 : s.heap.IsList l0 x0) (h1 : s.heap.IsList l1 x1) (h2 : s.heap.IsList l2 x2)
    (h : ∀ h' z TI TO cs, Made s.heap h' [(l0, x0), (l1, x1), (l2, x2)] z TI TO cs → Q (.ref z) { s with heap := h' }) :
    wpAny (model prog w) A (call (.type "zip") [.ref l0, .ref l1, .ref l2]) Q E s := by
  refine callType_new F.called_zip (by decide) (F.typeCall_zip_3 _ _ _) (F.newCall_zip_3 _ _ _) (fun obj => F.args_object_init_4 obj _ _ _) F.entry_zip_new
    (meets_3 l0 l1 l2 x0 x1 x2) ⟨⟨h0, h1, h2⟩, ?_⟩
  have z0 : (zh3_0 s.heap l0 l1 l2).objs.size = s.heap.objs.size + 1 := by rw [Heap.size_push]
  have z1 : (zh3_1 s.heap l0 l1 l2).objs.size = s.heap.objs.size + 2 := by rw [Heap.size_push, z0]
  have z2 : (zh3_2 s.heap l0 l1 l2).objs.size = s.heap.objs.size + 3 := by rw [Heap.size_push, z1]
  have zT : (zT3 s.heap l0 l1 l2).objs.size = s.heap.objs.size + 4 := by rw [Heap.size_push, z2]
  have zO : (zO3 s.heap l0 l1 l2).objs.size = s.heap.objs.size + 5 := by rw [Heap.size_push, zT]
  have gZ : (zZ3 s.heap l0 l1 l2).get? (zO3 s.heap l0 l1 l2).objs.size = some { cls := .type "zip", data := .fields #[.none, .bool false, .bool false, .ref (zh3_2 s.heap l0 l1 l2).objs.size, .ref (zT3 s.heap l0 l1 l2).objs.size] } := Heap.get?_push_size _ rfl
  have gO : (zZ3 s.heap l0 l1 l2).get? (zT3 s.heap l0 l1 l2).objs.size = some { cls := .type "tuple", data := .seq #[.none, .none, .none] } := Heap.get?_push_of_some _ (Heap.get?_push_size _ rfl)
  have gT : (zZ3 s.heap l0 l1 l2).get? (zh3_2 s.heap l0 l1 l2).objs.size = some { cls := .type "tuple", data := .seq #[.ref s.heap.objs.size, .ref (zh3_0 s.heap l0 l1 l2).objs.size, .ref (zh3_1 s.heap l0 l1 l2).objs.size] } := Heap.get?_push_of_some _ (Heap.get?_push_of_some _ (Heap.get?_push_size _ rfl))
  have g0 : (zZ3 s.heap l0 l1 l2).get? s.heap.objs.size = some (itO l0) := Heap.get?_push_of_some _ (Heap.get?_push_of_some _ (Heap.get?_push_of_some _ (Heap.get?_push_of_some _ (Heap.get?_push_of_some _ (Heap.get?_push_size _ rfl)))))
  have g1 : (zZ3 s.heap l0 l1 l2).get? (zh3_0 s.heap l0 l1 l2).objs.size = some (itO l1) := Heap.get?_push_of_some _ (Heap.get?_push_of_some _ (Heap.get?_push_of_some _ (Heap.get?_push_of_some _ (Heap.get?_push_size _ rfl))))
  have g2 : (zZ3 s.heap l0 l1 l2).get? (zh3_1 s.heap l0 l1 l2).objs.size = some (itO l2) := Heap.get?_push_of_some _ (Heap.get?_push_of_some _ (Heap.get?_push_of_some _ (Heap.get?_push_size _ rfl)))
  rw [zO, zT, z2] at gZ
  rw [zT] at gO
  rw [z2, z1, z0] at gT
  rw [z0] at g1
  rw [z1] at g2
  show _ ∧ _
  rw [zO]
  have k : ∀ c o, s.heap.get? c = some o → (zZ3 s.heap l0 l1 l2).get? c = some o := fun c o e => Heap.get?_push_of_some _ (Heap.get?_push_of_some _ (Heap.get?_push_of_some _ (Heap.get?_push_of_some _ (Heap.get?_push_of_some _ (Heap.get?_push_of_some _ (e))))))
  have b0 : l0 < s.heap.objs.size := by obtain ⟨_, e, _⟩ := h0; exact Heap.lt_size e
  have b1 : l1 < s.heap.objs.size := by obtain ⟨_, e, _⟩ := h1; exact Heap.lt_size e
  have b2 : l2 < s.heap.objs.size := by obtain ⟨_, e, _⟩ := h2; exact Heap.lt_size e
  have kl : ∀ (l : Addr) (x : Array Value), s.heap.IsList l x → (zZ3 s.heap l0 l1 l2).IsList l x := fun l x e => e.at fun o q => k _ o q
  have D := apart3 (N := s.heap.objs.size) (x0 := x0) (x1 := x1) (x2 := x2) b0 b1 b2
  refine ⟨⟨_, gZ, rfl⟩, h _ _ _ _ [⟨s.heap.objs.size, l0, x0⟩, ⟨s.heap.objs.size + 1, l1, x1⟩, ⟨s.heap.objs.size + 2, l2, x2⟩] ⟨rfl, D, gZ, gT, gO, ?_, ?_, k⟩⟩
  · intro c hc
    simp only [List.mem_cons, List.not_mem_nil, or_false] at hc
    rcases hc with rfl | rfl | rfl
    · exact ⟨⟨_, g0, rfl, rfl⟩, kl _ _ h0⟩
    · exact ⟨⟨_, g1, rfl, rfl⟩, kl _ _ h1⟩
    · exact ⟨⟨_, g2, rfl, rfl⟩, kl _ _ h2⟩
  · refine ⟨Nat.le_add_right _ _, Nat.le_add_right _ _, Nat.le_add_right _ _, fun c hc => ?_⟩
    simp only [List.mem_cons, List.not_mem_nil, or_false] at hc
    rcases hc with rfl | rfl | rfl
    · exact Nat.le_refl _
    · exact Nat.le_add_right _ _
    · exact Nat.le_add_right _ _
end
theorem typeCall_4 (v0 v1 v2 v3 : Value) : checkTypeCall "zip" ⟨[v0, v1, v2, v3], []⟩ = pure () := by kernel_rfl
theorem newCall_4 (v0 v1 v2 v3 : Value) : checkBuiltinCall "zip.__new__" ⟨[.type "zip", v0, v1, v2, v3], []⟩ = pure () := by kernel_rfl
theorem args_init_5 (obj v0 v1 v2 v3 : Value) : argsOk "object.__init__" ⟨[obj, v0, v1, v2, v3], []⟩ := by unfold argsOk; kernel_rfl
abbrev zh4_0 (h : Heap) (l0 l1 l2 l3 : Addr) : Heap := h.push (itO l0)
abbrev zh4_1 (h : Heap) (l0 l1 l2 l3 : Addr) : Heap := (zh4_0 h l0 l1 l2 l3).push (itO l1)
abbrev zh4_2 (h : Heap) (l0 l1 l2 l3 : Addr) : Heap := (zh4_1 h l0 l1 l2 l3).push (itO l2)
abbrev zh4_3 (h : Heap) (l0 l1 l2 l3 : Addr) : Heap := (zh4_2 h l0 l1 l2 l3).push (itO l3)
abbrev zT4 (h : Heap) (l0 l1 l2 l3 : Addr) : Heap := (zh4_3 h l0 l1 l2 l3).push { cls := .type "tuple", data := .seq #[.ref h.objs.size, .ref (zh4_0 h l0 l1 l2 l3).objs.size, .ref (zh4_1 h l0 l1 l2 l3).objs.size, .ref (zh4_2 h l0 l1 l2 l3).objs.size] }
abbrev zO4 (h : Heap) (l0 l1 l2 l3 : Addr) : Heap := (zT4 h l0 l1 l2 l3).push { cls := .type "tuple", data := .seq #[.none, .none, .none, .none] }
abbrev zZ4 (h : Heap) (l0 l1 l2 l3 : Addr) : Heap := (zO4 h l0 l1 l2 l3).push { cls := .type "zip", data := .fields #[.none, .bool false, .bool false, .ref (zh4_3 h l0 l1 l2 l3).objs.size, .ref (zT4 h l0 l1 l2 l3).objs.size] }
theorem meets_4 (l0 l1 l2 l3 : Addr) (x0 x1 x2 x3 : Array Value) :
    Meets (Builtin.«zip.__new__» ⟨[.type "zip", .ref l0, .ref l1, .ref l2, .ref l3], []⟩) (fun _ R s => (s.heap.IsList l0 x0 ∧ s.heap.IsList l1 x1 ∧ s.heap.IsList l2 x2 ∧ s.heap.IsList l3 x3) ∧
      R (.ok (.ret (.ref (zO4 s.heap l0 l1 l2 l3).objs.size))) { s with heap := zZ4 s.heap l0 l1 l2 l3 }) :=
  .of_wp fun prog w A R s h => by
    obtain ⟨hp, g, d, tk, os⟩ := s; obtain ⟨⟨h0, h1, h2, h3⟩, h⟩ := h
    have hsub := sub_zip
    have q0 : ∀ {A' : Around} {E : Value → Shared → Prop} {Q : Value → Shared → Prop}, Q (.ref hp.objs.size) ⟨(zh4_0 hp l0 l1 l2 l3), g, d, tk, os⟩ → wpAny (model prog w) A' (pyIter (.ref l0)) Q E ⟨hp, g, d, tk, os⟩ :=
      fun q => wpAny_pyIter_list (s := ⟨hp, g, d, tk, os⟩) (show Heap.IsList hp l0 x0 from (h0)) q
    have q1 : ∀ {A' : Around} {E : Value → Shared → Prop} {Q : Value → Shared → Prop}, Q (.ref (zh4_0 hp l0 l1 l2 l3).objs.size) ⟨(zh4_1 hp l0 l1 l2 l3), g, d, tk, os⟩ → wpAny (model prog w) A' (pyIter (.ref l1)) Q E ⟨(zh4_0 hp l0 l1 l2 l3), g, d, tk, os⟩ :=
      fun q => wpAny_pyIter_list (s := ⟨(zh4_0 hp l0 l1 l2 l3), g, d, tk, os⟩) (show Heap.IsList (zh4_0 hp l0 l1 l2 l3) l1 x1 from (h1.push _)) q
    have q2 : ∀ {A' : Around} {E : Value → Shared → Prop} {Q : Value → Shared → Prop}, Q (.ref (zh4_1 hp l0 l1 l2 l3).objs.size) ⟨(zh4_2 hp l0 l1 l2 l3), g, d, tk, os⟩ → wpAny (model prog w) A' (pyIter (.ref l2)) Q E ⟨(zh4_1 hp l0 l1 l2 l3), g, d, tk, os⟩ :=
      fun q => wpAny_pyIter_list (s := ⟨(zh4_1 hp l0 l1 l2 l3), g, d, tk, os⟩) (show Heap.IsList (zh4_1 hp l0 l1 l2 l3) l2 x2 from ((h2.push _).push _)) q
    have q3 : ∀ {A' : Around} {E : Value → Shared → Prop} {Q : Value → Shared → Prop}, Q (.ref (zh4_2 hp l0 l1 l2 l3).objs.size) ⟨(zh4_3 hp l0 l1 l2 l3), g, d, tk, os⟩ → wpAny (model prog w) A' (pyIter (.ref l3)) Q E ⟨(zh4_2 hp l0 l1 l2 l3), g, d, tk, os⟩ :=
      fun q => wpAny_pyIter_list (s := ⟨(zh4_2 hp l0 l1 l2 l3), g, d, tk, os⟩) (show Heap.IsList (zh4_2 hp l0 l1 l2 l3) l3 x3 from (((h3.push _).push _).push _)) q
    wp_walk using q0, q1, q2, q3
    exact ⟨_, rfl, h⟩
theorem apart4 {N : Nat} {l0 l1 l2 l3 : Nat} {x0 x1 x2 x3 : Array Value} (b0 : l0 < N) (b1 : l1 < N) (b2 : l2 < N) (b3 : l3 < N) : Apart (N + 6) (N + 4) (N + 5) [(⟨N, l0, x0⟩ : Col), (⟨N + 1, l1, x1⟩ : Col), (⟨N + 2, l2, x2⟩ : Col), (⟨N + 3, l3, x3⟩ : Col)] where
  TIz := show (N + 4 : Nat) ≠ N + 6 by omega
  TOz := show (N + 5 : Nat) ≠ N + 6 by omega
  TITO := show (N + 4 : Nat) ≠ N + 5 by omega
  nd := by
    show List.Nodup (α := Nat) [N, N + 1, N + 2, N + 3]
    simp
  ap := fun c hc d hd => by
    simp only [List.mem_cons, List.not_mem_nil, or_false] at hc hd
    rcases hc with rfl | rfl | rfl | rfl <;> rcases hd with rfl | rfl | rfl | rfl <;> first | exact (show (l0 : Nat) ≠ N by omega) | exact (show (l0 : Nat) ≠ N + 1 by omega) | exact (show (l0 : Nat) ≠ N + 2 by omega) | exact (show (l0 : Nat) ≠ N + 3 by omega) | exact (show (l1 : Nat) ≠ N by omega) | exact (show (l1 : Nat) ≠ N + 1 by omega) | exact (show (l1 : Nat) ≠ N + 2 by omega) | exact (show (l1 : Nat) ≠ N + 3 by omega) | exact (show (l2 : Nat) ≠ N by omega) | exact (show (l2 : Nat) ≠ N + 1 by omega) | exact (show (l2 : Nat) ≠ N + 2 by omega) | exact (show (l2 : Nat) ≠ N + 3 by omega) | exact (show (l3 : Nat) ≠ N by omega) | exact (show (l3 : Nat) ≠ N + 1 by omega) | exact (show (l3 : Nat) ≠ N + 2 by omega) | exact (show (l3 : Nat) ≠ N + 3 by omega)
  nw := fun c hc => by
    simp only [List.mem_cons, List.not_mem_nil, or_false] at hc
    rcases hc with rfl | rfl | rfl | rfl <;> first | exact ⟨nin (show (N : Nat) ≠ N + 6 by omega) (show (N : Nat) ≠ N + 5 by omega) (show (N : Nat) ≠ N + 4 by omega), nin (show (l0 : Nat) ≠ N + 6 by omega) (show (l0 : Nat) ≠ N + 5 by omega) (show (l0 : Nat) ≠ N + 4 by omega)⟩ | exact ⟨nin (show (N + 1 : Nat) ≠ N + 6 by omega) (show (N + 1 : Nat) ≠ N + 5 by omega) (show (N + 1 : Nat) ≠ N + 4 by omega), nin (show (l1 : Nat) ≠ N + 6 by omega) (show (l1 : Nat) ≠ N + 5 by omega) (show (l1 : Nat) ≠ N + 4 by omega)⟩ | exact ⟨nin (show (N + 2 : Nat) ≠ N + 6 by omega) (show (N + 2 : Nat) ≠ N + 5 by omega) (show (N + 2 : Nat) ≠ N + 4 by omega), nin (show (l2 : Nat) ≠ N + 6 by omega) (show (l2 : Nat) ≠ N + 5 by omega) (show (l2 : Nat) ≠ N + 4 by omega)⟩ | exact ⟨nin (show (N + 3 : Nat) ≠ N + 6 by omega) (show (N + 3 : Nat) ≠ N + 5 by omega) (show (N + 3 : Nat) ≠ N + 4 by omega), nin (show (l3 : Nat) ≠ N + 6 by omega) (show (l3 : Nat) ≠ N + 5 by omega) (show (l3 : Nat) ≠ N + 4 by omega)⟩
section
variable {prog : Program} {w : World} {A : Around} {E : Value → Shared → Prop} {s : Shared}
theorem zip_4 {l0 l1 l2 l3 : Addr} {x0 x1 x2 x3 : Array Value} {Q : Value → Shared → Prop} (h0 : s.heap.IsList l0 x0) (h1 : s.heap.IsList l1 x1) (h2 : s.heap.IsList l2 x2) (h3 : s.heap.IsList l3 x3)
    (h : ∀ h' z TI TO cs, Made s.heap h' [(l0, x0), (l1, x1), (l2, x2), (l3, x3)] z TI TO cs → Q (.ref z) { s with heap := h' }) :
    wpAny (model prog w) A (call (.type "zip") [.ref l0, .ref l1, .ref l2, .ref l3]) Q E s := by
  refine callType_new F.called_zip (by decide) (typeCall_4 _ _ _ _) (newCall_4 _ _ _ _) (fun obj => args_init_5 obj _ _ _ _) F.entry_zip_new
    (meets_4 l0 l1 l2 l3 x0 x1 x2 x3) ⟨⟨h0, h1, h2, h3⟩, ?_⟩
  have z0 : (zh4_0 s.heap l0 l1 l2 l3).objs.size = s.heap.objs.size + 1 := by rw [Heap.size_push]
  have z1 : (zh4_1 s.heap l0 l1 l2 l3).objs.size = s.heap.objs.size + 2 := by rw [Heap.size_push, z0]
  have z2 : (zh4_2 s.heap l0 l1 l2 l3).objs.size = s.heap.objs.size + 3 := by rw [Heap.size_push, z1]
  have z3 : (zh4_3 s.heap l0 l1 l2 l3).objs.size = s.heap.objs.size + 4 := by rw [Heap.size_push, z2]
  have zT : (zT4 s.heap l0 l1 l2 l3).objs.size = s.heap.objs.size + 5 := by rw [Heap.size_push, z3]
  have zO : (zO4 s.heap l0 l1 l2 l3).objs.size = s.heap.objs.size + 6 := by rw [Heap.size_push, zT]
  have gZ : (zZ4 s.heap l0 l1 l2 l3).get? (zO4 s.heap l0 l1 l2 l3).objs.size = some { cls := .type "zip", data := .fields #[.none, .bool false, .bool false, .ref (zh4_3 s.heap l0 l1 l2 l3).objs.size, .ref (zT4 s.heap l0 l1 l2 l3).objs.size] } := Heap.get?_push_size _ rfl
  have gO : (zZ4 s.heap l0 l1 l2 l3).get? (zT4 s.heap l0 l1 l2 l3).objs.size = some { cls := .type "tuple", data := .seq #[.none, .none, .none, .none] } := Heap.get?_push_of_some _ (Heap.get?_push_size _ rfl)
  have gT : (zZ4 s.heap l0 l1 l2 l3).get? (zh4_3 s.heap l0 l1 l2 l3).objs.size = some { cls := .type "tuple", data := .seq #[.ref s.heap.objs.size, .ref (zh4_0 s.heap l0 l1 l2 l3).objs.size, .ref (zh4_1 s.heap l0 l1 l2 l3).objs.size, .ref (zh4_2 s.heap l0 l1 l2 l3).objs.size] } := Heap.get?_push_of_some _ (Heap.get?_push_of_some _ (Heap.get?_push_size _ rfl))
  have g0 : (zZ4 s.heap l0 l1 l2 l3).get? s.heap.objs.size = some (itO l0) := Heap.get?_push_of_some _ (Heap.get?_push_of_some _ (Heap.get?_push_of_some _ (Heap.get?_push_of_some _ (Heap.get?_push_of_some _ (Heap.get?_push_of_some _ (Heap.get?_push_size _ rfl))))))
  have g1 : (zZ4 s.heap l0 l1 l2 l3).get? (zh4_0 s.heap l0 l1 l2 l3).objs.size = some (itO l1) := Heap.get?_push_of_some _ (Heap.get?_push_of_some _ (Heap.get?_push_of_some _ (Heap.get?_push_of_some _ (Heap.get?_push_of_some _ (Heap.get?_push_size _ rfl)))))
  have g2 : (zZ4 s.heap l0 l1 l2 l3).get? (zh4_1 s.heap l0 l1 l2 l3).objs.size = some (itO l2) := Heap.get?_push_of_some _ (Heap.get?_push_of_some _ (Heap.get?_push_of_some _ (Heap.get?_push_of_some _ (Heap.get?_push_size _ rfl))))
  have g3 : (zZ4 s.heap l0 l1 l2 l3).get? (zh4_2 s.heap l0 l1 l2 l3).objs.size = some (itO l3) := Heap.get?_push_of_some _ (Heap.get?_push_of_some _ (Heap.get?_push_of_some _ (Heap.get?_push_size _ rfl)))
  rw [zO, zT, z3] at gZ
  rw [zT] at gO
  rw [z3, z2, z1, z0] at gT
  rw [z0] at g1
  rw [z1] at g2
  rw [z2] at g3
  show _ ∧ _
  rw [zO]
  have k : ∀ c o, s.heap.get? c = some o → (zZ4 s.heap l0 l1 l2 l3).get? c = some o := fun c o e => Heap.get?_push_of_some _ (Heap.get?_push_of_some _ (Heap.get?_push_of_some _ (Heap.get?_push_of_some _ (Heap.get?_push_of_some _ (Heap.get?_push_of_some _ (Heap.get?_push_of_some _ (e)))))))
  have b0 : l0 < s.heap.objs.size := by obtain ⟨_, e, _⟩ := h0; exact Heap.lt_size e
  have b1 : l1 < s.heap.objs.size := by obtain ⟨_, e, _⟩ := h1; exact Heap.lt_size e
  have b2 : l2 < s.heap.objs.size := by obtain ⟨_, e, _⟩ := h2; exact Heap.lt_size e
  have b3 : l3 < s.heap.objs.size := by obtain ⟨_, e, _⟩ := h3; exact Heap.lt_size e
  have kl : ∀ (l : Addr) (x : Array Value), s.heap.IsList l x → (zZ4 s.heap l0 l1 l2 l3).IsList l x := fun l x e => e.at fun o q => k _ o q
  have D := apart4 (N := s.heap.objs.size) (x0 := x0) (x1 := x1) (x2 := x2) (x3 := x3) b0 b1 b2 b3
  refine ⟨⟨_, gZ, rfl⟩, h _ _ _ _ [⟨s.heap.objs.size, l0, x0⟩, ⟨s.heap.objs.size + 1, l1, x1⟩, ⟨s.heap.objs.size + 2, l2, x2⟩, ⟨s.heap.objs.size + 3, l3, x3⟩] ⟨rfl, D, gZ, gT, gO, ?_, ?_, k⟩⟩
  · intro c hc
    simp only [List.mem_cons, List.not_mem_nil, or_false] at hc
    rcases hc with rfl | rfl | rfl | rfl
    · exact ⟨⟨_, g0, rfl, rfl⟩, kl _ _ h0⟩
    · exact ⟨⟨_, g1, rfl, rfl⟩, kl _ _ h1⟩
    · exact ⟨⟨_, g2, rfl, rfl⟩, kl _ _ h2⟩
    · exact ⟨⟨_, g3, rfl, rfl⟩, kl _ _ h3⟩
  · refine ⟨Nat.le_add_right _ _, Nat.le_add_right _ _, Nat.le_add_right _ _, fun c hc => ?_⟩
    simp only [List.mem_cons, List.not_mem_nil, or_false] at hc
    rcases hc with rfl | rfl | rfl | rfl
    · exact Nat.le_refl _
    · exact Nat.le_add_right _ _
    · exact Nat.le_add_right _ _
    · exact Nat.le_add_right _ _
end
end ZT
/-! DLZ2: tuple(zip(*columns)), the call. -/
namespace ZT
open PySem
open Sem (wp)
theorem nolen_zip : typeLookup (.type "zip") "__len__" = pure none := by rw [typeLookup_type, builtinLookup_eq_fast]; kernel_rfl
theorem nohint_zip : typeLookup (.type "zip") "__length_hint__" = pure none := by rw [typeLookup_type, builtinLookup_eq_fast]; kernel_rfl

/-- row j of the columns -/
def rowA (cs : List Col) (j : Nat) : List Value := cs.map fun c => c.xs[j]?.getD .none
/-- amid the walk: i tuples were told -/
structure Mid (h0 : Heap) (N0 : Nat) (z TI TO : Addr) (cs : List Col) (S : Addr) (i : Nat) (Ts : List Addr) (h : Heap) : Prop where
  len : Ts.length = i
  nd : Ts.Nodup
  lo : ∀ T ∈ Ts, N0 ≤ T
  hi : ∀ T ∈ Ts, T < h.objs.size
  nS : S ∉ Ts
  nO : TO ∉ Ts
  szS : S < h.objs.size
  szO : TO < h.objs.size
  row : ∀ (j : Nat) (T : Addr), Ts[j]? = some T → IsTupA h T (rowA cs j).toArray
  st : (Ts = [] ∧ IsZip h z TI TO .none ∧ IsTupA h TO (List.replicate cs.length Value.none).toArray) ∨ (∃ T f, T ∈ Ts ∧ IsZipHeld h z TI TO T f)
  hTI : IsTupA h TI (refs cs)
  hat : ∀ c ∈ cs, c.At h i
  keep : ∀ c o, h0.get? c = some o → h.get? c = some o
/-- after the walk -/
structure Told (h0 : Heap) (N0 : Nat) (cs : List Col) (n : Nat) (Ts : List Addr) (h : Heap) : Prop where
  len : Ts.length = n
  nd : Ts.Nodup
  lo : ∀ T ∈ Ts, N0 ≤ T
  row : ∀ (j : Nat) (T : Addr), Ts[j]? = some T → IsTupA h T (rowA cs j).toArray
  keep : ∀ c o, h0.get? c = some o → h.get? c = some o
abbrev lstO (acc : Array Value) (c : Nat) : Obj := { cls := .type "list", dict := none, data := .seq acc c, slots := #[] }
def refT (Ts : List Addr) : Array Value := (Ts.map Value.ref).toArray

section
variable {prog : Program} {w : World} {A : Around} {h0 : Heap} {N0 : Nat} {z TI TO S : Addr} {cs : List Col} {n : Nat}
/-- where the cells lie: new, none of them S -/
structure Lie (h0 : Heap) (N0 : Nat) (z TI TO : Addr) (cs : List Col) (S : Addr) : Prop where
  D : Apart z TI TO cs
  ne : cs ≠ []
  four : cs.length ≤ 4
  old : ∀ c o, h0.get? c = some o → c < N0
  nz : N0 ≤ z
  nO : N0 ≤ TO
  nI : ∀ c ∈ cs, N0 ≤ c.it
  Sz : S ≠ z
  STI : S ≠ TI
  STO : S ≠ TO
  Sit : ∀ c ∈ cs, S ≠ c.it
  Sl : ∀ c ∈ cs, S ≠ c.l
  Sn : N0 ≤ S

theorem Mid.upd {i : Nat} {Ts : List Addr} {h h' : Heap} (L : Lie h0 N0 z TI TO cs S) (M : Mid h0 N0 z TI TO cs S i Ts h) (hs : h'.objs.size = h.objs.size) (k : ∀ b o, b ≠ S → h.get? b = some o → h'.get? b = some o) : Mid h0 N0 z TI TO cs S i Ts h' where
  len := M.len
  nd := M.nd
  lo := M.lo
  hi := fun T hT => by rw [hs]; exact M.hi T hT
  nS := M.nS
  nO := M.nO
  szS := by rw [hs]; exact M.szS
  szO := by rw [hs]; exact M.szO
  row := fun j T e => k _ _ (fun e' => M.nS (by rw [← e']; exact List.mem_of_getElem? e)) (M.row j T e)
  st := by
    rcases M.st with ⟨a, b, c⟩ | ⟨T, f, a, b⟩
    · exact .inl ⟨a, k _ _ L.Sz.symm b, k _ _ L.STO.symm c⟩
    · exact .inr ⟨T, f, a, k _ _ L.Sz.symm b⟩
  hTI := k _ _ L.STI.symm M.hTI
  hat := fun c hc => ⟨(M.hat c hc).1.at fun o e => k _ o (L.Sit c hc).symm e, (M.hat c hc).2.at fun o e => k _ o (L.Sl c hc).symm e⟩
  keep := fun c o e => k _ _ (fun e' => by
    subst e'
    exact absurd (L.old _ _ e) (Nat.not_lt.mpr L.Sn)) (M.keep c o e)

/-- one turn -/
theorem Mid.next {E : Value → Shared → Prop} {i : Nat} {Ts : List Addr} {s : Shared} {Q : Option Value → Shared → Prop} (L : Lie h0 N0 z TI TO cs S) (hlen : ∀ c ∈ cs, c.xs.size = n) (hi : i < n) (M : Mid h0 N0 z TI TO cs S i Ts s.heap)
    (h : ∀ h', Mid h0 N0 z TI TO cs S (i + 1) (Ts ++ [s.heap.objs.size]) h' → s.heap.objs.size ≤ h'.objs.size → (∀ o, s.heap.get? S = some o → h'.get? S = some o) → Q (some (.ref s.heap.objs.size)) { s with heap := h' }) :
    wpAny (model prog w) A (pyNext (.ref z)) Q E s := by
  have hx : ∀ c ∈ cs, c.xs[i]? = some ((fun c : Col => c.xs[i]?.getD Value.none) c) := fun c hc => by
    have : i < c.xs.size := by rw [hlen c hc]; exact hi
    simp [this]
  have nin : ∀ {a : Nat}, (∀ c ∈ cs, a ≠ c.it) → a ∉ cs.map (·.it) := fun h hm => by
    obtain ⟨c, hc, e⟩ := List.mem_map.mp hm
    exact h c hc e.symm
  have fin : ∀ h', (∃ T f, T ∈ Ts ++ [s.heap.objs.size] ∧ IsZipHeld h' z TI TO T f) → (∀ c ∈ cs, h'.IsListIter c.it c.l (i + 1)) → IsTupA h' s.heap.objs.size (cs.map fun c : Col => c.xs[i]?.getD Value.none).toArray → h'.objs.size = s.heap.objs.size + 1 →
      (∀ c o, c ≠ z → c ≠ TO → c ∉ cs.map (·.it) → s.heap.get? c = some o → h'.get? c = some o) → Q (some (.ref s.heap.objs.size)) { s with heap := h' } := fun h' hz hat hT hs hk => by
    have rowk : ∀ (j : Nat) (T : Addr), Ts[j]? = some T → IsTupA h' T (rowA cs j).toArray := fun j T e => by
      have e1 : s.heap.get? T = _ := M.row j T e
      refine hk _ _ (fun q => ?_) (fun q => ?_) (fun q => ?_) e1
      · subst q
        rcases M.st with ⟨a, b, c⟩ | ⟨T', f, a, b⟩
        · exact absurd (congrArg Obj.cls (Option.some.inj (b.symm.trans e1))) (by simp)
        · exact absurd (congrArg Obj.cls (Option.some.inj (b.symm.trans e1))) (by simp)
      · exact M.nO (by rw [← q]; exact List.mem_of_getElem? e)
      · obtain ⟨c, hc, e⟩ := List.mem_map.mp q
        obtain ⟨o, ho, hcl, _⟩ := (M.hat c hc).1
        rw [e] at ho
        have q := congrArg Obj.cls (Option.some.inj (ho.symm.trans e1))
        rw [hcl] at q
        exact absurd q (by simp)
    refine h h' ⟨by simp [M.len], ?_, ?_, ?_, ?_, ?_, by rw [hs]; exact Nat.lt_succ_of_lt M.szS, by rw [hs]; exact Nat.lt_succ_of_lt M.szO, ?_, .inr hz, ?_, ?_, ?_⟩ (by rw [hs]; exact Nat.le_succ _) ?_
    · refine List.nodup_append.mpr ⟨M.nd, by simp, fun a ha b hb => ?_⟩
      simp only [List.mem_singleton] at hb
      subst hb
      exact Nat.ne_of_lt (M.hi a ha)
    · intro T hT
      rcases List.mem_append.mp hT with hT | hT
      · exact M.lo T hT
      · rw [List.mem_singleton.mp hT]; exact Nat.le_of_lt (Nat.lt_of_le_of_lt L.Sn M.szS)
    · intro T hT
      rw [hs]
      rcases List.mem_append.mp hT with hT | hT
      · exact Nat.lt_succ_of_lt (M.hi T hT)
      · rw [List.mem_singleton.mp hT]; exact Nat.lt_succ_self _
    · intro hT
      rcases List.mem_append.mp hT with hT | hT
      · exact M.nS hT
      · exact Nat.ne_of_lt M.szS (List.mem_singleton.mp hT)
    · intro hT
      rcases List.mem_append.mp hT with hT | hT
      · exact M.nO hT
      · exact Nat.ne_of_lt M.szO (List.mem_singleton.mp hT)
    · intro j T e
      rcases Nat.lt_or_ge j Ts.length with hj | hj
      · rw [List.getElem?_append_left hj] at e
        exact rowk j T e
      · rw [List.getElem?_append_right hj] at e
        have hj0 : j - Ts.length = 0 := by
          rcases Nat.eq_zero_or_pos (j - Ts.length) with q | q
          · exact q
          · rw [List.getElem?_eq_none (show [s.heap.objs.size].length ≤ j - Ts.length from q)] at e; cases e
        rw [hj0] at e
        cases e
        have : j = i := by have := M.len; omega
        subst this
        exact hT
    · refine hk _ _ L.D.TIz L.D.TITO (nin fun c hc e => (L.D.nw c hc).1 (by simp [← e])) M.hTI
    · exact fun c hc => ⟨hat c hc, (M.hat c hc).2.at fun o e => hk _ o (fun q => (L.D.nw c hc).2 (by simp [q])) (fun q => (L.D.nw c hc).2 (by simp [q])) (nin fun d hd => L.D.ap c hc d hd) e⟩
    · intro c o e
      have := L.old c o e
      exact hk _ _ (Nat.ne_of_lt (Nat.lt_of_lt_of_le this L.nz)) (Nat.ne_of_lt (Nat.lt_of_lt_of_le this L.nO)) (nin fun d hd => Nat.ne_of_lt (Nat.lt_of_lt_of_le this (L.nI d hd))) (M.keep c o e)
    · exact fun o e => hk _ o L.Sz L.STO (nin L.Sit) e
  rcases M.st with ⟨a, b, c⟩ | ⟨T, f, a, b⟩
  · refine pyNext_free L.D b M.hTI c L.ne L.four M.hat hx fun h' a1 a2 a3 a4 a5 => fin h' ⟨_, false, by simp, a1⟩ a2 a3 a4 a5
  · obtain ⟨j, hj⟩ := List.mem_iff_getElem?.mp a
    refine pyNext_held L.D b (M.row j T hj) M.hTI L.ne L.four M.hat hx fun h' a1 a2 a3 a4 a5 => fin h' ⟨_, true, by simp [a], a1⟩ a2 a3 a4 fun c o c1 _ c3 e => a5 c o c1 c3 e

theorem Mid.done {E : Value → Shared → Prop} {Ts : List Addr} {s : Shared} {Q : Option Value → Shared → Prop} (hh : A.handled = none) (L : Lie h0 N0 z TI TO cs S) (hlen : ∀ c ∈ cs, c.xs.size = n) (hn : 0 < n) (M : Mid h0 N0 z TI TO cs S n Ts s.heap)
    (h : ∀ h', Told h0 N0 cs n Ts h' → (∀ o, s.heap.get? S = some o → h'.get? S = some o) → Q none { s with heap := h' }) :
    wpAny (model prog w) A (pyNext (.ref z)) Q E s := by
  have nin : ∀ {a : Nat}, (∀ c ∈ cs, a ≠ c.it) → a ∉ cs.map (·.it) := fun h hm => by
    obtain ⟨c, hc, e⟩ := List.mem_map.mp hm
    exact h c hc e.symm
  have hx : ∀ c ∈ cs, c.xs[n]? = none := fun c hc => Array.getElem?_eq_none (by rw [hlen c hc]; exact Nat.le_refl _)
  rcases M.st with ⟨a, _, _⟩ | ⟨T, f, a, b⟩
  · have := M.len
    rw [a] at this
    simp at this
    omega
  · obtain ⟨j, hj⟩ := List.mem_iff_getElem?.mp a
    refine pyNext_end hh L.D b (M.row j T hj) M.hTI L.ne M.hat hx fun h' hk => h h' ⟨M.len, M.nd, M.lo, fun j T e => ?_, fun c o e => ?_⟩ fun o e => hk _ o L.Sz (nin L.Sit) e
    · have e1 : s.heap.get? T = _ := M.row j T e
      refine hk _ _ (fun q => ?_) (fun q => ?_) e1
      · subst q
        exact absurd (congrArg Obj.cls (Option.some.inj (b.symm.trans e1))) (by simp)
      · obtain ⟨c, hc, e⟩ := List.mem_map.mp q
        obtain ⟨o, ho, hcl, _⟩ := (M.hat c hc).1
        rw [e] at ho
        have q := congrArg Obj.cls (Option.some.inj (ho.symm.trans e1))
        rw [hcl] at q
        exact absurd q (by simp)
    · have := L.old c o e
      exact hk _ _ (Nat.ne_of_lt (Nat.lt_of_lt_of_le this L.nz)) (nin fun d hd => Nat.ne_of_lt (Nat.lt_of_lt_of_le this (L.nI d hd))) (M.keep c o e)

theorem extend {R : Result → Shared → Prop} (hh : A.handled = none) (L : Lie h0 N0 z TI TO cs S) (hlen : ∀ c ∈ cs, c.xs.size = n) (hn : 0 < n) (hn2 : n ≤ 100) (res : Value) :
    ∀ (k i : Nat) (s : Shared) (Ts : List Addr), n - i = k → i ≤ n → Mid h0 N0 z TI TO cs S i Ts s.heap → (∃ c, s.heap.get? S = some (lstO (refT Ts) c)) →
    (∀ h' Ts' c', Told h0 N0 cs n Ts' h' → h'.get? S = some (lstO (refT Ts') c') → R (.ok (.ret res)) { s with heap := h' }) →
    codeAny (model prog w) A (.builtin "list.extend.loop" ⟨[.ref S, .ref z, res], []⟩) R s := by
  intro k
  induction k with
  | zero =>
    intro i s Ts hk hi M ⟨c, hS⟩ hR
    have hin : i = n := by omega
    subst hin
    refine codeAny_builtin F.entry_extend_loop ?_
    rw [Around.under_plainId F.plain_extend_loop _]
    show wpAny _ A.in1 (pyNext (.ref z) >>= _) _ _ s
    refine wpAny_bind (M.done (A := A.in1) hh L hlen hn fun h' T kS => ?_)
    exact wpAny_pure (hR h' Ts c T (kS _ hS))
  | succ k ih =>
    intro i s Ts hk hi M ⟨c, hS⟩ hR
    have hlt : i < n := by omega
    refine codeAny_builtin F.entry_extend_loop ?_
    rw [Around.under_plainId F.plain_extend_loop _]
    show wpAny _ A.in1 (pyNext (.ref z) >>= _) _ _ s
    refine wpAny_bind (M.next (A := A.in1) L hlen hlt fun h' M' hs kS => ?_)
    have hS' := kS _ hS
    show wpAny _ A.in1 (updateSeq S (·.push (.ref s.heap.objs.size)) >>= _) _ _ _
    have sz : (refT Ts).size = i := by simp [refT, M.len]
    have ep : (refT Ts).push (.ref s.heap.objs.size) = refT (Ts ++ [s.heap.objs.size]) := by simp [refT]
    refine wpAny_bind ?_
    refine wpAny_updateSeq hS' rfl (wpAny_pure ⟨plainId_quiet F.plain_extend_loop _, ih (i + 1) _ (Ts ++ [s.heap.objs.size]) (by omega) hlt (M'.upd L ?_ fun b o hb e => ?_) ?_ fun h'' Ts' c' T q => hR h'' Ts' c' T q⟩)
      (by rw [sz, sizeLine_eq]; omega) (by show ((refT Ts).push _).size ≤ sizeLine + 1; rw [Array.size_push, sz, sizeLine_eq]; omega)
    · exact (Heap.SameBut.update (h := h') (a := S) ..).1
    · exact (Heap.get?_update_other _ _ (Ne.symm hb)).trans e
    · have := Heap.get?_update_self (Obj.mapSeq (·.push (Value.ref s.heap.objs.size))) hS' rfl
      rw [← ep]
      exact ⟨_, this⟩

theorem collect_zip {E : Value → Shared → Prop} {ls : List (Addr × Array Value)} {s : Shared} {Q : List Value → Shared → Prop} (hh : A.handled = none) (M : Made h0 s.heap ls z TI TO cs) (hne : ls ≠ []) (h4 : ls.length ≤ 4) (hl : ∀ p ∈ ls, ∃ o, h0.get? p.1 = some o) (hlen : ∀ p ∈ ls, p.2.size = n) (hn : 0 < n) (hn2 : n ≤ 100)
    (hQ : ∀ h' Ts, Told h0 h0.objs.size cs n Ts h' → Q (Ts.map Value.ref) { s with heap := h' }) : wpAny (model prog w) A (collect (.ref z)) Q E s := by
  have old : ∀ c o, h0.get? c = some o → c < h0.objs.size := fun c o e => Heap.lt_size e
  have lt : ∀ c o, s.heap.get? c = some o → s.heap.objs.size ≠ c := fun c o e => Nat.ne_of_gt (Heap.lt_size e)
  have el : cs.length = ls.length := by rw [← M.eq, List.length_map]
  have mem : ∀ c ∈ cs, (c.l, c.xs) ∈ ls := fun c hc => by rw [← M.eq]; exact List.mem_map_of_mem hc
  have hge : h0.objs.size ≤ s.heap.objs.size := Nat.le_of_lt (Nat.lt_of_le_of_lt M.new.1 (Heap.lt_size M.hz))
  have L : Lie h0 h0.objs.size z TI TO cs s.heap.objs.size := ⟨M.D, fun e => hne (by rw [← M.eq, e]; rfl), by rw [el]; exact h4, old, M.new.1, M.new.2.2.1, M.new.2.2.2, lt _ _ M.hz, lt _ _ M.hTI, lt _ _ M.hTO,
    fun c hc => by obtain ⟨o, e, _⟩ := (M.hat c hc).1; exact lt _ _ e, fun c hc => by obtain ⟨o, e⟩ := hl _ (mem c hc); exact lt _ _ (M.keep _ _ e), hge⟩
  have hlen' : ∀ c ∈ cs, c.xs.size = n := fun c hc => hlen _ (mem c hc)
  have M0 : Mid h0 h0.objs.size z TI TO cs s.heap.objs.size 0 [] (s.heap.push { cls := .type "list", data := .seq ([] : List Value).toArray }) :=
    ⟨rfl, by simp, fun _ h => by simp at h, fun _ h => by simp at h, by simp, by simp, by rw [Heap.size_push]; exact Nat.lt_succ_self _, by rw [Heap.size_push]; exact Nat.lt_succ_of_lt (Heap.lt_size M.hTO), fun j T e => by simp at e,
      .inl ⟨rfl, Heap.get?_push_of_some _ M.hz, Heap.get?_push_of_some _ M.hTO⟩, Heap.get?_push_of_some _ M.hTI, fun c hc => ⟨(M.hat c hc).1.at fun o e => Heap.get?_push_of_some _ e, (M.hat c hc).2.push _⟩, fun c o e => Heap.get?_push_of_some _ (M.keep c o e)⟩
  have hz1 : IsZip (s.heap.push { cls := .type "list", data := .seq ([] : List Value).toArray }) z TI TO .none := Heap.get?_push_of_some _ M.hz
  have hT : ({ s with heap := s.heap.push { cls := .type "list", data := .seq ([] : List Value).toArray } } : Shared).TypeIs (.ref z) "zip" := ⟨_, hz1, rfl⟩
  unfold collect
  refine wpAny_bind (wpAny_runValue (codeAny_builtin F.entry_proto_collect ?_))
  rw [Around.under_plainId F.plain_proto_collect _]
  show wpAny _ A.in1 (newList [] >>= fun l => again (.builtin "list.__iadd__" ⟨[l, .ref z], []⟩)) _ _ s
  refine wpAny_bind (wpAny_newObj_type ?_)
  refine wpAny_pure ⟨plainId_quiet F.plain_list_iadd _, codeAny_builtin F.entry_list_iadd ?_⟩
  rw [Around.under_plainId F.plain_list_iadd _]
  show wpAny _ A.in1 (Builtin.List.listExtendWith (.ref s.heap.objs.size) (.ref z) (.ref s.heap.objs.size)) _ _ _
  unfold Builtin.List.listExtendWith
  refine wpAny_bind (wpAny_typeOf hT ?_)
  have h1 : Builtin.List.listSameRef (.ref s.heap.objs.size) (.ref z) = false := by simp [Builtin.List.listSameRef, L.Sz]
  have h2 : (Value.type "zip" == Value.type "list") = false := by decide
  have h3 : (Value.type "zip" == Value.type "tuple") = false := by decide
  simp only [h1, h2, h3, Bool.or_false, Bool.false_eq_true, if_false]
  refine wpAny_bind (wpAny_pyIter_zip (s := { s with heap := s.heap.push { cls := .type "list", data := .seq ([] : List Value).toArray } }) hz1 ?_)
  refine wpAny_bind (wpAny_holding ?_)
  unfold Builtin.List.listLengthHint
  refine wpAny_bind (wpAny_specialOf hT nolen_zip ?_)
  show wpAny _ A.in1 (specialOf (Value.ref z) (Str.ofString "__length_hint__") >>= _) _ _ _
  refine wpAny_bind (wpAny_specialOf hT nohint_zip ?_)
  refine wpAny_pure ?_
  show wpAny _ A.in1 (rule "list.extend.makes-room" >>= fun _ => Builtin.List.listTouch (.ref s.heap.objs.size) >>= fun _ =>
    again (.builtin "list.extend.loop" ⟨[.ref s.heap.objs.size, .ref z, .ref s.heap.objs.size], []⟩)) _ _ _
  refine wpAny_bind (wpAny_rule ?_)
  have hS₁ : (s.heap.push { cls := .type "list", data := .seq ([] : List Value).toArray }).get? s.heap.objs.size = some { cls := .type "list", data := .seq ([] : List Value).toArray } := Heap.get?_push_size _ rfl
  refine wpAny_bind ?_
  show wpAny _ A.in1 (updateSeq s.heap.objs.size (·.push .none) >>= fun _ => updateSeq s.heap.objs.size (·.pop)) _ _ _
  refine wpAny_bind (wpAny_updateSeq hS₁ rfl ?_)
  have hS₂ := Heap.get?_update_self (Obj.mapSeq (·.push Value.none)) hS₁ rfl
  refine wpAny_updateSeq hS₂ rfl ?_
  have hS₃ := Heap.get?_update_self (Obj.mapSeq (·.pop)) hS₂ rfl
  have oth : ∀ b o, b ≠ s.heap.objs.size → (s.heap.push { cls := .type "list", data := .seq ([] : List Value).toArray }).get? b = some o →
      (((s.heap.push { cls := .type "list", data := .seq ([] : List Value).toArray }).update s.heap.objs.size (Obj.mapSeq (·.push Value.none))).update s.heap.objs.size (Obj.mapSeq (·.pop))).get? b = some o :=
    fun b o hb e => (Heap.get?_update_other _ _ (Ne.symm hb)).trans ((Heap.get?_update_other _ _ (Ne.symm hb)).trans e)
  refine wpAny_pure ⟨plainId_quiet F.plain_extend_loop _, extend (A := A) hh L hlen' hn hn2 _ n 0 _ [] rfl (Nat.zero_le _) (M0.upd L ?_ oth) ⟨_, hS₃⟩ fun h' Ts c' T hS' => ?_⟩
  · exact ((Heap.SameBut.update ..).1).trans ((Heap.SameBut.update ..).1)
  · show wpAny _ A (load s.heap.objs.size >>= _) _ _ _
    refine wpAny_bind (wpAny_load hS' ?_)
    have := hQ h' Ts T
    exact wpAny_pure (by simpa [refT] using this)

theorem code_tuple_zip {E : Value → Shared → Prop} {ls : List (Addr × Array Value)} {s : Shared} {Q₁ : Value → Shared → Prop} (hh : A.handled = none) (M : Made h0 s.heap ls z TI TO cs) (hne : ls ≠ []) (h4 : ls.length ≤ 4) (hl : ∀ p ∈ ls, ∃ o, h0.get? p.1 = some o) (hlen : ∀ p ∈ ls, p.2.size = n) (hn : 0 < n) (hn2 : n ≤ 100)
    (h : ∀ h' Ts, Told h0 h0.objs.size cs n Ts h' → Q₁ (.ref h'.objs.size) { s with heap := h'.push { cls := .type "tuple", data := .seq (refT Ts) } }) :
    codeAny (model prog w) A (.call (.builtin "tuple.__new__") ⟨[.type "tuple", .ref z], []⟩) (wants Q₁ E) s := by
  refine codeAny_of_tree ?_
  show wpAny _ A.in1 (do checkBuiltinCall "tuple.__new__" ⟨[.type "tuple", .ref z], []⟩; again (.builtin "tuple.__new__" ⟨[.type "tuple", .ref z], []⟩)) _ _ s
  refine wpAny_bind (wpAny_of_eq (F.newCall_tuple_1 _) (wpAny_pure ⟨plainId_quiet F.plain_tuple_new _, codeAny_builtin F.entry_tuple_new ?_⟩))
  rw [Around.under_plainId F.plain_tuple_new _]
  have hsub := sub_tuple_self
  have hinit := init_tuple_lookup
  have hmh := madeHere_tuple
  have hTI : s.TypeIs (.ref z) "zip" := ⟨_, M.hz, rfl⟩
  have hh1 : A.in1.handled = none := hh
  wp_walk using wpAny_typeOf hTI, collect_zip (A := A.in1) hh1 M hne h4 hl hlen hn hn2
  intro h' Ts T
  show wpAny _ _ (Builtin.Tuple.tupleExact (refT Ts) >>= fun v => ret v) _ _ _
  unfold Builtin.Tuple.tupleExact
  refine wpAny_bind (wpAny_newObj_type ?_ (by show (refT Ts).size ≤ sizeLine; rw [show (refT Ts).size = n from by simp [refT, T.len], sizeLine_eq]; omega))
  exact wpAny_pure (h h' Ts T)
theorem call_tuple_zip {E : Value → Shared → Prop} {ls : List (Addr × Array Value)} {s : Shared} {Q : Value → Shared → Prop} (hh : A.handled = none) (M : Made h0 s.heap ls z TI TO cs) (hne : ls ≠ []) (h4 : ls.length ≤ 4) (hl : ∀ p ∈ ls, ∃ o, h0.get? p.1 = some o) (hlen : ∀ p ∈ ls, p.2.size = n) (hn : 0 < n) (hn2 : n ≤ 100)
    (hQ : ∀ h' Ts, Told h0 h0.objs.size cs n Ts h' → Q (.ref h'.objs.size) { s with heap := h'.push { cls := .type "tuple", data := .seq (refT Ts) } }) :
    wpAny (model prog w) A (call (.type "tuple") [.ref z]) Q E s := by
  refine callType_codes (Q₁ := fun obj s₁ => s₁.TypeIs obj "tuple" ∧ Q obj s₁) F.called_tuple (F.typeCall_tuple_1 _) F.entry_object_init
    (code_tuple_zip (A := A.in1) hh M hne h4 hl hlen hn hn2 fun h' Ts T => ⟨⟨_, Heap.get?_push_size _ rfl, rfl⟩, hQ h' Ts T⟩) fun obj s₁ h₁ => ?_
  exact ⟨h₁.1, F.args_object_init_2 obj _, object_init_meets F.called_tuple.init.lookup F.called_tuple.made (by decide) prog w A.in1 _ s₁ ⟨h₁.1, rfl, h₁.2⟩⟩
end
end ZT
/-! DLZ3: tuple(zip(*columns)) as a value. -/
namespace DL
open PySem PySem.Spec PyProof.Rows L2

section
variable {P : Program} {w : World} {fs : List Addr} {H H' : Hp} {h h' : Heap} {a : Addr} {o : HO}
theorem un_track (u : Un fs [] H H' h h') (hp : h.objs.size ≤ a) (hn : H' a = none) : Un fs [] H (upd H' a o) h h' where
  keep := u.keep
  slot := u.slot
  free := fun b ob q n hx => by rw [upd_ne (Nat.ne_of_lt (Nat.lt_of_lt_of_le (Heap.lt_size q) hp))]; exact u.free b ob q n hx
  there := u.there
  tups := fun b xs q => by rw [upd_ne (ne_of_none (u.tups b xs q) hn)]; exact u.tups b xs q
  frzs := fun b ob xs q => by rw [upd_ne (ne_of_none (u.frzs b ob xs q) hn)]; exact u.frzs b ob xs q
  tbls := fun b ps q => by
    obtain ⟨m, e⟩ := u.tbls b ps q
    exact ⟨m, by rw [upd_ne (ne_of_none e hn)]; exact e⟩
theorem hok_track (x : HOk P w H h) (hn : H a = none) (new : ObjOk P w (upd H a o) h a o) : HOk P w (upd H a o) h := fun b u e => by
  by_cases hb : b = a
  · subst hb; rw [upd_same] at e; cases e; exact new
  · rw [upd_ne hb] at e
    exact (x b u e).stay (fun c v _ q => q) (fun c q => by rw [upd_ne (ne_of_none q hn)]; exact q) fun c xs q => by rw [upd_ne (ne_of_none q hn)]; exact q
theorem same_track (hn : H a = none) : Same H (upd H a o) := fun b u q => by rw [upd_ne (ne_of_none q hn)]; exact q

theorem lay_one {its : List Value} {xs : List V} (u : Un fs [] H H' h h') (x : HOk P w H' h') (hp : h.objs.size ≤ a) (hn : H' a = none) (ho : h'.get? a = some { cls := .type "tuple", data := .seq its.toArray }) (hv : Vals xs its) (hl : xs.length ≤ sizeLine) :
    ∃ H2, Un fs [] H H2 h h' ∧ HOk P w H2 h' ∧ Same H' H2 ∧ TpL H2 a xs ∧ ∀ b, b ≠ a → H2 b = H' b := by
  refine ⟨upd H' a (.frz { cls := .type "tuple", data := .seq its.toArray } (.tup xs)), un_track u hp hn, hok_track x hn ⟨ho, hl, its, hv, ⟨_, ho, rfl, _, rfl⟩⟩, same_track hn, ⟨_, rfl, upd_same⟩, fun b hb => upd_ne hb⟩

theorem lay_many : ∀ (Ts : List Addr) (row : Nat → List V) (rowA : Nat → List Value) (H' : Hp), Un fs [] H H' h h' → HOk P w H' h' → (∀ (j : Nat) (T : Addr), Ts[j]? = some T → h'.get? T = some { cls := .type "tuple", data := .seq (rowA j).toArray } ∧ Vals (row j) (rowA j) ∧ (row j).length ≤ sizeLine) →
    Ts.Nodup → (∀ T ∈ Ts, h.objs.size ≤ T) → (∀ T ∈ Ts, H' T = none) →
    ∃ H2, Un fs [] H H2 h h' ∧ HOk P w H2 h' ∧ Same H' H2 ∧ (∀ (j : Nat) (T : Addr), Ts[j]? = some T → TpL H2 T (row j)) ∧ ∀ b, b ∉ Ts → H2 b = H' b
  | [], row, rowA, H', u, x, _, _, _, _ => ⟨H', u, x, Same.refl _, fun j T e => by simp at e, fun _ _ => rfl⟩
  | T :: Ts, row, rowA, H', u, x, ob, nd, lo, fr => by
    obtain ⟨o1, o2, o3⟩ := ob 0 T rfl
    obtain ⟨H1, u1, x1, s1, t1, k1⟩ := lay_one u x (lo T (by simp)) (fr T (by simp)) o1 o2 o3
    have nd' := List.nodup_cons.mp nd
    obtain ⟨H2, u2, x2, s2, t2, k2⟩ := lay_many Ts (fun j => row (j + 1)) (fun j => rowA (j + 1)) H1 u1 x1 (fun j T' e => ob (j + 1) T' (by simpa using e)) nd'.2 (fun T' hT => lo T' (by simp [hT]))
      (fun T' hT => by rw [k1 T' (fun e => nd'.1 (by rw [← e]; exact hT))]; exact fr T' (by simp [hT]))
    refine ⟨H2, u2, x2, s1.trans s2, fun j T' e => ?_, fun b hb => ?_⟩
    · cases j with
      | zero =>
        simp at e
        subst e
        obtain ⟨ob, q1, q2⟩ := t1
        exact ⟨ob, q1, s2 _ _ q2⟩
      | succ j => exact t2 j T' (by simpa using e)
    · simp only [List.mem_cons, not_or] at hb
      rw [k2 b hb.2, k1 b hb.1]
end

/-- columns of one length -/
def Cols (K : PySem.W.Frag) (H : Hp) (n : Nat) : List Addr → List (List V) → Prop
  | [], rs => rs = []
  | p :: ps, rs => ∃ r rs', rs = r :: rs' ∧ SqL K H p r ∧ r.length = n ∧ Cols K H n ps rs'
def rowV (rs : List (List V)) (j : Nat) : List V := rs.map fun r => r[j]?.getD .non
def kZip (K : PySem.W.Frag) (x : V) (H : Hp) (Q : VK) : Prop := ∃ p ps rs n, x = .ref p ∧ SqL K H p (ps.map V.ref) ∧ Cols K H n ps rs ∧ ps ≠ [] ∧ ps.length ≤ 4 ∧ 0 < n ∧ n ≤ 100 ∧
  ∀ (H2 : Hp) (q : Addr) (Ts : List Addr), Same H H2 → Ts.length = n → (∀ (j : Nat) (T : Addr), Ts[j]? = some T → TpL H2 T (rowV rs j)) → TpL H2 q (Ts.map V.ref) → Q (.ref q) H2

section
variable {X : Cx} {pins : List (Addr × Obj)} {σ : L2.St} {H : Hp} {s : Shared}
theorem cols_get {n : Nat} (I : Inv X pins σ H s) : ∀ {ps : List Addr} {rs : List (List V)}, Cols X.K H n ps rs → ∃ ls : List (Addr × Array Value), ls.map (·.1) = ps ∧ (∀ p ∈ ls, s.heap.IsList p.1 p.2 ∧ p.2.size = n) ∧ rs.length = ls.length ∧
    ∀ (i : Nat) r p, rs[i]? = some r → ls[i]? = some p → Vals r p.2.toList
  | [], rs, h => by
    cases (show rs = [] from h)
    exact ⟨[], rfl, fun _ h => by simp at h, rfl, fun i r p e => by simp at e⟩
  | p :: ps, rs, h => by
    obtain ⟨r, rs', e, h1, h2, h3⟩ := h
    subst e
    obtain ⟨its, rv, pl, hz⟩ := I.list h1
    obtain ⟨ls, e1, e2, e3, e4⟩ := cols_get I h3
    refine ⟨(p, its.toArray) :: ls, by simp [e1], fun q hq => ?_, by simp [e3], fun i r' q a b => ?_⟩
    · rcases List.mem_cons.mp hq with rfl | hq
      · exact ⟨pl.isList, by rw [List.size_toArray, ← rv.length]; exact h2⟩
      · exact e2 q hq
    · cases i with
      | zero =>
        simp at a b
        subst a b
        simpa using rv
      | succ i => exact e4 i r' q (by simpa using a) (by simpa using b)
theorem vals_refs : ∀ {ps : List Addr} {us : List Value}, Vals (ps.map V.ref) us → us = ps.map Value.ref
  | [], _, .nil => rfl
  | p :: ps, _, .cons a r => by
    have e : _ = Value.ref p := a
    rw [e, vals_refs r]; rfl
theorem vals_refs' : ∀ (ps : List Addr), Vals (ps.map V.ref) (ps.map Value.ref)
  | [] => .nil
  | p :: ps => .cons rfl (vals_refs' ps)
theorem vals_row {j : Nat} : ∀ {rs : List (List V)} {ls : List (Addr × Array Value)}, rs.length = ls.length → (∀ (i : Nat) r p, rs[i]? = some r → ls[i]? = some p → Vals r p.2.toList) → Vals (rowV rs j) (ls.map fun p => p.2[j]?.getD Value.none)
  | [], [], _, _ => .nil
  | [], _ :: _, h, _ => by simp at h
  | _ :: _, [], h, _ => by simp at h
  | r :: rs, p :: ls, h, v => by
    refine .cons ?_ (vals_row (by simpa using h) fun i r' p' a b => v (i + 1) r' p' (by simpa using a) (by simpa using b))
    have v0 := v 0 r p rfl rfl
    show RelV (r[j]?.getD .non) (p.2[j]?.getD Value.none)
    have key : ∀ (r : List V) (us : List Value) (j : Nat), Vals r us → RelV (r[j]?.getD .non) (us[j]?.getD Value.none) := by
      intro r us j v
      induction v generalizing j with
      | nil => simp; exact rfl
      | cons a _ ih =>
        cases j with
        | zero => simpa using a
        | succ j => simpa using ih j
    have := key r p.2.toList j v0
    rw [show p.2[j]? = p.2.toList[j]? from (Array.getElem?_toList ..).symm]
    exact this
theorem zip_any {A : Around} {E : Value → Shared → Prop} {Q : Value → Shared → Prop} {ls : List (Addr × Array Value)} (hne : ls ≠ []) (h4 : ls.length ≤ 4) (hl : ∀ p ∈ ls, s.heap.IsList p.1 p.2)
    (h : ∀ h' z TI TO cs, ZT.Made s.heap h' ls z TI TO cs → Q (.ref z) { s with heap := h' }) : wpAny (model X.prog X.w) A (call (.type "zip") (ls.map fun p => .ref p.1)) Q E s := by
  match ls, hne, h4, hl, h with
  | [a], _, _, hl, h => exact ZT.zip_1 (hl a (by simp)) h
  | [a, b], _, _, hl, h => exact ZT.zip_2 (hl a (by simp)) (hl b (by simp)) h
  | [a, b, c], _, _, hl, h => exact ZT.zip_3 (hl a (by simp)) (hl b (by simp)) (hl c (by simp)) h
  | [a, b, c, d], _, _, hl, h => exact ZT.zip_4 (hl a (by simp)) (hl b (by simp)) (hl c (by simp)) (hl d (by simp)) h
  | _ :: _ :: _ :: _ :: _ :: _, _, h4, _, _ => simp at h4
end
theorem callWith_starT {M : Model} {A : Around} {E : Value → Shared → Prop} {s : Shared} {env : Env} {pos p : Pos} {T : String} {Q : Value → Shared → Prop} {e : Expr}
    (h : wpAny M A (eval e env) (fun v s₁ => PySem.W.StarOf M A E v (fun vs s₂ => wpAny M A (call (.type T) vs) Q E s₂) s₁) E s) (he : starEach [.Starred e p] env = [(true, eval e env)] := by rfl) :
    wpAny M A (callWith pos (.type T) [] (backTo pos (starEach [.Starred e p] env)) []) Q E s := by
  rw [he]
  refine PySem.W.ks_call (P := fun _ => True) rfl (fun h _ => ⟨.machine, .inr (.inl rfl), PySem.W.Looks.of_pure rfl⟩) (PySem.W.ks_lone (thn h fun v s₁ h₁ => ?_))
  unfold PySem.W.StarOf at h₁ ⊢
  exact thn h₁ fun b s₂ ⟨a, b⟩ => ⟨a, thn b fun vs s₃ h₃ => ⟨trivial, h₃⟩⟩

section
variable {X : Cx} {e : Expr} {te : TE}
theorem pe_zipS {p p2 p3 pos pos2 : Pos} (hc : X.calm = true) (hg : Gl X "tuple") (hm : X.mg "tuple" = none) (hg2 : Gl X "zip") (hm2 : X.mg "zip" = none) (he : PE X e te)
    (hs : starEach [.Starred e p3] X.env = [(true, eval e X.env)] := by rfl)
    (hs2 : starEach [.Call (.Name "zip" p2) [.Starred e p3] [] pos2] X.env = (false, eval (.Call (.Name "zip" p2) [.Starred e p3] [] pos2) X.env) :: starEach [] X.env := by rfl) :
    PE X (.Call (.Name "tuple" p) [.Call (.Name "zip" p2) [.Starred e p3] [] pos2] [] pos) (tThen te (kZip X.K)) := by
  refine ⟨fun pins s σ H Q I h => ?_⟩
  refine Call_ (ld_blt I hg hm boot_tuple (PyProof.Rows.callWith_type1 (args_cons (Call_ (ld_blt I hg2 hm2 PyProof.Rows.boot_zip (callWith_starT (thn (he.run pins s σ H _ I h) fun u s1 ⟨v, H1, I1, r1, q1⟩ => ?_) hs))) hs2) hs2 rfl))
  obtain ⟨a, ps, rs, n, ev, hq, hcol, hne, h4, hn, hn2, q⟩ := q1
  subst ev
  obtain rfl : u = Value.ref a := r1
  refine StX.star_lst I1 hq fun us s2 I2 rv => ?_
  obtain rfl := vals_refs rv
  obtain ⟨ls, e1, e2, e3, e4⟩ := cols_get I2 hcol
  subst e1
  rw [List.map_map]
  have hne' : ls ≠ [] := fun e => hne (by rw [e]; rfl)
  have h4' : ls.length ≤ 4 := by simpa using h4
  refine zip_any (A := X.A) hne' h4' (fun p hp => (e2 p hp).1) fun h' z TI TO cs M => args_nil ?_
  refine ZT.call_tuple_zip (A := X.A) (s := { s2 with heap := h' }) (n := n) (I2.ok.hd hc) M hne' h4' (fun p hp => by obtain ⟨o, ho, _⟩ := (e2 p hp).1; exact ⟨o, ho⟩) (fun p hp => (e2 p hp).2) hn hn2 fun h2 Ts T => ?_
  have keep : ∀ b o, s2.heap.get? b = some o → (h2.push { cls := .type "tuple", data := .seq (ZT.refT Ts) }).get? b = some o := fun b o e => Heap.get?_push_of_some _ (T.keep b o e)
  have u0 : Un X.fs [] H1 H1 s2.heap (h2.push { cls := .type "tuple", data := .seq (ZT.refT Ts) }) := Un.kept keep
  have x0 : HOk X.prog X.w H1 (h2.push { cls := .type "tuple", data := .seq (ZT.refT Ts) }) := I2.hok.kept keep
  have rowE : ∀ j, ZT.rowA cs j = ls.map fun p => p.2[j]?.getD Value.none := fun j => by
    unfold ZT.rowA
    rw [← M.eq, List.map_map]
    rfl
  obtain ⟨H2, u2, x2, s2', t2, k2⟩ := lay_many Ts (rowV rs) (ZT.rowA cs) H1 u0 x0 (fun j T' e => ⟨Heap.get?_push_of_some _ (T.row j T' e), by rw [rowE]; exact vals_row e3 e4, by
      show (rowV rs j).length ≤ _
      unfold rowV
      rw [List.length_map, e3, sizeLine_eq]
      omega⟩) T.nd T.lo (fun T' hT => I2.hok.fresh (T.lo T' hT))
  have hge : s2.heap.objs.size ≤ h2.objs.size := by
    cases Ts with
    | nil => have := T.len; simp at this; omega
    | cons T0 Ts => exact Nat.le_of_lt (Nat.lt_of_le_of_lt (T.lo T0 (by simp)) (Heap.lt_size (T.row 0 T0 rfl)))
  have hT : h2.objs.size ∉ Ts := fun hm => by
    obtain ⟨j, hj⟩ := List.mem_iff_getElem?.mp hm
    exact absurd (Heap.lt_size (T.row j _ hj)) (Nat.lt_irrefl _)
  obtain ⟨H3, u3, x3, s3, t3, k3⟩ := lay_one (a := h2.objs.size) (its := Ts.map Value.ref) (xs := Ts.map V.ref) u2 x2 hge (by rw [k2 _ hT]; exact I2.hok.fresh hge) (Heap.get?_push_size _ rfl) (vals_refs' Ts) (by rw [List.length_map, T.len, sizeLine_eq]; omega)
  refine ⟨.ref h2.objs.size, H3, I2.un u3 x3, rfl, q H3 _ Ts (s2'.trans s3) T.len (fun j T' e => ?_) t3⟩
  obtain ⟨ob, q1, q2⟩ := t2 j T' e
  exact ⟨ob, q1, s3 _ _ q2⟩
end

/-! ### over the data -/
def listsD : List D → Option (List (List D))
  | [] => some []
  | .lst r :: t => (listsD t).map (r :: ·)
  | _ => none
def rowD (rs : List (List D)) (j : Nat) : List D := rs.map fun r => r[j]?.getD .non
def zipOk (rs : List (List D)) (n : Nat) : Bool := decide (1 ≤ rs.length) && decide (rs.length ≤ 4) && decide (0 < n) && decide (n ≤ 100) && rs.all (fun r => r.length == n)
def zipR (rs : List (List D)) : Option PR := if zipOk rs (rs.headD []).length = true then some (.d (.tup ((List.range (rs.headD []).length).map fun j => .tup (rowD rs j)))) else none
def pZipT : Pr := fun ds => match ds with
  | [.lst cols] => (listsD cols).bind zipR
  | _ => none
def rZipT (K : PySem.W.Frag) : Rl := one (kZip K)
theorem lists_rep {K : PySem.W.Frag} {F : Fz} {H : Hp} {n : Nat} : ∀ {cols : List D} {ws : List V} {rs : List (List D)}, RepL K F H cols ws → listsD cols = some rs → (∀ r ∈ rs, r.length = n) → ∃ ps rv, ws = ps.map V.ref ∧ Cols K H n ps rv ∧ ps.length = rs.length ∧ (∀ j, RepL K F H (rowD rs j) (rowV rv j))
  | [], ws, rs, h, e, _ => by
    cases e
    cases (show ws = [] from h)
    exact ⟨[], [], rfl, rfl, rfl, fun j => RepL.nil⟩
  | .lst r :: t, ws, rs, h, e, hn => by
    obtain ⟨v, w', rfl, ⟨a, vs, rfl, _, ha, rl⟩, h2⟩ := h
    simp only [listsD, Option.map_eq_some_iff] at e
    obtain ⟨rs', e1, rfl⟩ := e
    obtain ⟨ps, rv, e2, c2, l2, r2⟩ := lists_rep (n := n) h2 e1 (fun r hr => hn r (by simp [hr]))
    refine ⟨a :: ps, vs :: rv, by rw [e2]; rfl, ⟨vs, rv, rfl, .inl (.inl ha), by rw [rl.length]; exact hn r (by simp), c2⟩, by simp [l2], fun j => RepL.cons ?_ (r2 j)⟩
    show Rep K F H (r[j]?.getD .non) (vs[j]?.getD .non)
    cases q : r[j]? with
    | none =>
      have : vs[j]? = none := by
        rw [List.getElem?_eq_none_iff] at q ⊢
        rw [rl.length]
        exact q
      rw [this]
      exact rfl
    | some d =>
      obtain ⟨v, e3, r3⟩ := rl.get q
      rw [e3]
      exact r3
  | .non :: _, _, _, _, e, _ => by cases e
  | .bl _ :: _, _, _, _, e, _ => by cases e
  | .int _ :: _, _, _, _, e, _ => by cases e
  | .str _ :: _, _, _, _, e, _ => by cases e
  | .tup _ :: _, _, _, _, e, _ => by cases e
  | .fz _ :: _, _, _, _, e, _ => by cases e
  | .exc _ _ :: _, _, _, _, e, _ => by cases e
  | .pr _ _ :: _, _, _, _, e, _ => by cases e
  | .rng _ _ :: _, _, _, _, e, _ => by cases e
theorem repL_of_get {K : PySem.W.Frag} {F : Fz} {H : Hp} : ∀ {ds : List D} {vs : List V}, ds.length = vs.length → (∀ (i : Nat) d v, ds[i]? = some d → vs[i]? = some v → Rep K F H d v) → RepL K F H ds vs
  | [], [], _, _ => RepL.nil
  | [], _ :: _, h, _ => by simp at h
  | _ :: _, [], h, _ => by simp at h
  | d :: ds, v :: vs, h, f => RepL.cons (f 0 d v rfl rfl) (repL_of_get (by simpa using h) fun i d' v' a b => f (i + 1) d' v' (by simpa using a) (by simpa using b))
theorem pr_zipT {K : PySem.W.Frag} : PrimR K pZipT (rZipT K) := fun F H ds vs Q pr fd rt e q => by
  unfold pZipT at e
  split at e
  · rename_i cols
    obtain ⟨v, _, rfl, ⟨a, ws, rfl, ha, rl⟩, rfl⟩ := rt
    rw [Option.bind_eq_some_iff] at e
    obtain ⟨rs, e1, e2⟩ := e
    unfold zipR at e2
    split at e2
    · rename_i ok
      cases e2
      simp only [zipOk, Bool.and_eq_true, decide_eq_true_eq, List.all_eq_true, beq_iff_eq] at ok
      obtain ⟨⟨⟨⟨o1, o2⟩, o3⟩, o4⟩, o5⟩ := ok
      obtain ⟨ps, rv, ew, c, l, r⟩ := lists_rep rl e1 o5
      refine ⟨a, ps, rv, _, rfl, .inl (.inl (by rw [← ew]; exact ha)), c, fun z => by rw [z] at l; simp at l; omega, by omega, o3, o4, fun H2 p Ts sm ht hr hp => q H2 _ sm ?_⟩
      refine ⟨p, _, rfl, hp, repL_of_get (by simp [ht]) fun j d v h1 h2 => ?_⟩
      rw [List.getElem?_map, Option.map_eq_some_iff] at h1 h2
      obtain ⟨j', e3, rfl⟩ := h1
      obtain ⟨T, e4, rfl⟩ := h2
      rw [List.getElem?_eq_some_iff] at e3
      obtain ⟨_, e3⟩ := e3
      simp at e3
      subst e3
      exact ⟨T, _, rfl, hr _ T e4, repL_same sm (r _)⟩
    · cases e2
  · cases e
section
variable {X : Cx} {W : WX} {B : Bs} {a : Expr} {oa : Opd} {p pos : Pos}
theorem x_zipT {p2 p3 pos2 : Pos} (hc : X.calm = true) (hm : X.mg "tuple" = none) (hm2 : X.mg "zip" = none) (ha : DOp X W a oa) (hg : Gl X "tuple" := by rfl) (hg2 : Gl X "zip" := by rfl)
    (hs : starEach [.Starred a p3] X.env = [(true, eval a X.env)] := by rfl)
    (hs2 : starEach [.Call (.Name "zip" p2) [.Starred a p3] [] pos2] X.env = (false, eval (.Call (.Name "zip" p2) [.Starred a p3] [] pos2) X.env) :: starEach [] X.env := by rfl) :
    DEv X W (.Call (.Name "tuple" p) [.Call (.Name "zip" p2) [.Starred a p3] [] pos2] [] pos) (dPrim pZipT [oa]) := by
  obtain ⟨ta, h, s⟩ := ha
  refine ⟨_, pe_zipS hc hg hm hg2 hm2 h hs hs2, fun O F σ H env Q st g => ?_⟩
  exact sem_prim (r := rZipT X.K) (asem1 s) pr_zipT O F σ H env Q st g
end
end DL
/-! DLZ4: x[::-1] of a tuple or a list; divmod. -/
namespace DL
open PySem PySem.Spec PyProof.Rows L2
section
variable {X : Cx} {W : WX}
def rBack2 (K : PySem.W.Frag) : R2 := fun x y H Q => y = .int (-1) ∧ ((∃ a xs, x = .ref a ∧ SqT K H a xs ∧ NewT xs.reverse H Q) ∨ (∃ a xs, x = .ref a ∧ SqL K H a xs ∧ ∀ p, H p = none → Q (.ref p) (upd H p (.lst xs.reverse))))
theorem pe_back2 {e k : Expr} {te tk : TE} {p2 pos : Pos} (he : PE X e te) (hk : PE X k tk) (hs : ∀ v u : Value, subscripted (.Slice none none (some k) p2) false v u = operate [v, u] (getItem v u)) : PE X (.Subscript e (.Slice none none (some k) p2) pos) (tOp (rBack2 X.K) te tk) := by
  refine ⟨fun pins s σ H Q I h => ?_⟩
  refine Subscript_ (thn (he.run pins s σ H _ I h) fun v s1 ⟨x, H1, I1, r1, q1⟩ => ?_)
  refine wpAny_Slice ?_
  refine wpAny_pure (wpAny_pure ?_)
  rw [evalPart_some]
  refine thn (hk.run pins s1 σ H1 _ I1 q1) fun u s2 ⟨y, H2, I2, r2, q2⟩ => ?_
  obtain ⟨rfl, q2⟩ := q2
  obtain ⟨t, rfl⟩ := r2
  have I4 : Inv X pins σ H2 { s2 with heap := s2.heap.push { cls := .type "slice", data := .fields #[.none, .none, .int (-1) t] } } := I2.kept (t' := s2.toks) fun b ob q => Heap.get?_push_of_some _ q
  rcases q2 with ⟨a, xs, rfl, hx, q⟩ | ⟨a, xs, rfl, hx, q⟩
  · cases r1
    obtain ⟨its, r, ht, hz⟩ := I4.tuple hx
    have hg := getItem_back (prog := X.prog) (w := X.w) (A := X.A) (E := X.xe) (Q := EP X pins σ Q) ht (Heap.IsSliceOf.new ..) (.int (-1) t) (lay_tup I4 r.reverse (by rw [List.length_reverse]; exact hz) q) (by rw [List.size_toArray, ← r.length]; exact hz)
    exact tail_any (ops := [.ref a, .ref s2.heap.objs.size]) ht.typeIs PyProof.Rows.slot_tuple_getitem.lookup hg (hs _ _)
  · cases r1
    obtain ⟨its, r, ht, hz⟩ := I4.list hx
    have hlen := r.length
    refine tail_any (ops := [.ref a, .ref s2.heap.objs.size]) ht.isList.typeIs (PySem.slot_list_getitem.lookup) ?_ (hs _ _)
    refine wpAny_getItem_list_slice ht.isList (Heap.IsSliceOf.new ..) .none .none (.int (-1) t) (by decide) ?_ (by rw [List.size_toArray]; omega)
    rw [PySem.W.krv_pick]
    refine ⟨.ref _, _, I4.laid (t' := s2.toks) (o := .lst xs.reverse) (fun b ob q => Heap.get?_push_of_some _ q) (Nat.le_refl _) ?_, rfl, q _ (I4.hok.fresh (Nat.le_refl _))⟩
    exact ⟨by rw [List.length_reverse]; exact hz, _, 0, r.reverse, Heap.get?_push_size _ rfl⟩
def pBack2 : Pr := fun ds => match ds with
  | [.tup xs, .int i] => if i = -1 then some (.d (.tup xs.reverse)) else none
  | [.lst xs, .int i] => if i = -1 then some (.nl xs.reverse) else none
  | _ => none
theorem pr_back2 {K : PySem.W.Frag} : PrimR K pBack2 (two (rBack2 K)) := fun F H ds vs Q pr fd rt e q => by
  unfold pBack2 at e
  split at e
  · split at e
    · rename_i hi
      subst hi
      obtain ⟨v, _, rfl, ⟨p, us, rfl, hp, r1⟩, v2, _, rfl, h2, rfl⟩ := rt
      cases e
      rw [show v2 = V.int (-1) from h2]
      exact ⟨rfl, .inl ⟨p, us, rfl, hp.sq, fun c o hd hc => q _ _ (same_new hc) ⟨c, _, rfl, ⟨o, hd, upd_same⟩, repL_same (same_new hc) (RepL.reverse r1)⟩⟩⟩
    · cases e
  · split at e
    · rename_i hi
      subst hi
      obtain ⟨v, _, rfl, ⟨p, us, rfl, hp, r1⟩, v2, _, rfl, h2, rfl⟩ := rt
      cases e
      rw [show v2 = V.int (-1) from h2]
      exact ⟨rfl, .inr ⟨p, us, rfl, .inl (.inl hp), fun c hc => q _ _ (same_new hc) ⟨c, _, rfl, hc, upd_same, repL_same (same_new hc) (RepL.reverse r1)⟩⟩⟩
    · cases e
  · cases e
theorem e_back2 {a b : Expr} {oa ob : Opd} {p2 pos : Pos} (ha : DOp X W a oa) (hb : DOp X W b ob) (hs : ∀ v u : Value, subscripted (.Slice none none (some b) p2) false v u = operate [v, u] (getItem v u) := by exact fun _ _ => by with_unfolding_all rfl) : DEv X W (.Subscript a (.Slice none none (some b) p2) pos) (dPrim pBack2 [oa, ob]) := by
  obtain ⟨ta, h1, s1⟩ := ha
  obtain ⟨tb, h2, s2⟩ := hb
  exact ⟨_, pe_back2 h1 h2 hs, sem_prim (asem2 s1 s2) pr_back2⟩
/-! ### divmod -/
def pDivmod : Pr := fun ds => match ds with
  | [.int i, .int j] => if 0 < j ∧ j < 1000000 ∧ 0 ≤ i ∧ i < 1000000000 then some (.d (.pr (.int (i / j)) (.int (i % j)))) else none
  | _ => none
def rDivmod : Rl := fun xs H Q => ∃ i j, xs = [.int i, .int j] ∧ CDiv i j ∧ ∀ p, H p = none → Q (.ref p) (upd H p (.tup [.int (i / j), .int (i % j)]))
theorem pr_divmod {K : PySem.W.Frag} : PrimR K pDivmod rDivmod := fun F H ds vs Q pr fd rt e q => by
  unfold pDivmod at e
  split at e
  · rename_i i j
    obtain ⟨v, _, rfl, h1, v2, _, rfl, h2, rfl⟩ := rt
    cases h1
    cases h2
    split at e
    · rename_i h
      cases e
      exact ⟨i, j, rfl, ⟨h.1, by omega⟩, fun c hc => q _ _ (same_new hc) ⟨c, _, _, rfl, upd_same, rfl, rfl⟩⟩
    · cases e
  · cases e
variable {a b : Expr} {oa ob : Opd} {p pos : Pos}
theorem x_divmod (hm : X.mg "divmod" = none) (ha : DAs X W [a, b] [oa, ob]) (hg : Gl X "divmod" := by rfl) (hs : starEach [a, b] X.env = (false, eval a X.env) :: starEach [b] X.env := by rfl) (hpl : (backTo pos (starEach [b] X.env)).any (·.1) = false := by rfl) : DEv X W (.Call (.Name "divmod" p) [a, b] [] pos) (dPrim pDivmod [oa, ob]) := e_callB call_divmod pr_divmod hg hm (by decide +kernel) ha (he := hs) (hpl := hpl)
end
end DL
/-! DLZ5: sorted(x) of a list of ints. -/
namespace DL
open PySem PySem.Spec PyProof.Rows L2
section
variable {X : Cx} {W : WX}
theorem srt_eq : ∀ a b : List Int, a.Perm b → a.Pairwise (· ≤ ·) → b.Pairwise (· ≤ ·) → a = b
  | [], b, h, _, _ => h.nil_eq
  | x :: a, [], h, _, _ => h.symm.nil_eq.symm
  | x :: a, y :: b, h, ha, hb => by
    have h1 : x ∈ y :: b := h.mem_iff.mp (List.mem_cons_self ..)
    have h2 : y ∈ x :: a := h.mem_iff.mpr (List.mem_cons_self ..)
    rw [List.pairwise_cons] at ha hb
    have e : x = y := by
      rcases List.mem_cons.mp h1 with h1 | h1
      · exact h1
      · rcases List.mem_cons.mp h2 with h2 | h2
        · exact h2.symm
        · have := ha.1 y h2
          have := hb.1 x h1
          omega
    subst e
    rw [srt_eq a b h.cons_inv ha.2 hb.2]
def isrt (ns : List Int) : List Int := ns.mergeSort fun a b => decide (a ≤ b)
theorem isrt_perm (ns : List Int) : (isrt ns).Perm ns := List.mergeSort_perm ns _
theorem isrt_pair (ns : List Int) : (isrt ns).Pairwise (· ≤ ·) := by
  have h := List.pairwise_mergeSort (le := fun a b : Int => decide (a ≤ b)) (fun a b c h1 h2 => decide_eq_true (by have := of_decide_eq_true h1; have := of_decide_eq_true h2; omega)) (fun a b => by
    by_cases hab : a ≤ b
    · simp [hab]
    · simp [show b ≤ a by omega]) ns
  exact h.imp fun h => of_decide_eq_true h
theorem repL_intsS {K : PySem.W.Frag} {F : Fz} {H : Hp} : ∀ ns : List Int, RepL K F H (ns.map D.int) (ns.map V.int)
  | [] => rfl
  | n :: ns => ⟨V.int n, ns.map V.int, rfl, rfl, repL_intsS ns⟩
def pSorted : Pr := fun ds => match ds with
  | [.lst xs] => (intsOf xs).bind fun bs => if bs.length < 64 then some (.nl ((isrt bs).map D.int)) else none
  | _ => none
theorem pr_sorted {K : PySem.W.Frag} : PrimR K pSorted (rSorted K) := fun F H ds vs Q pr fd rt e q => by
  unfold pSorted at e
  split at e
  · rename_i xs
    obtain ⟨v, _, rfl, ⟨p, us, rfl, hp, r1⟩, rfl⟩ := rt
    cases hb : intsOf xs with
    | none => rw [hb] at e; cases e
    | some bs =>
      rw [hb, Option.bind_some] at e
      split at e
      · rename_i hl
        cases e
        have := intsOf_v r1 hb
        subst this
        refine ⟨p, bs, rfl, SqL.of hp, hl, fun ns' c h1 h2 hc => ?_⟩
        rw [srt_eq ns' (isrt bs) (h1.trans (isrt_perm bs).symm) h2 (isrt_pair bs)]
        exact q _ _ (same_new hc) ⟨c, _, rfl, hc, upd_same, repL_intsS _⟩
      · cases e
  · cases e
theorem x_sorted (hm : X.mg "sorted" = none) (ha : DOp X W e o) (hg : Gl X "sorted" := by rfl) (hs : S1 X e := by rfl) (hpl : (backTo pos (starEach [] X.env)).any (·.1) = false := by rfl) : DEv X W (.Call (.Name "sorted" p) [e] [] pos) (dPrim pSorted [o]) := e_callB cr_sorted pr_sorted hg hm (by decide +kernel) (a1 ha hs) (he := hs) (hpl := hpl)
end
end DL
/-! DLZ6: x in l of any depth. -/
namespace DL
open PySem PySem.Spec PyProof.Rows L2
section
variable {X : Cx} {W : WX}
def inDeep (x : D) (xs : List D) : Bool := xs.any fun y => deq y x
def pInD (neg : Bool) : Pr := fun ds => match ds with
  | [x, .lst xs] => if (okD x && okD (.lst xs)) = true then some (.d (.bl (if neg then !inDeep x xs else inDeep x xs))) else none
  | _ => none
theorem any_toPs (x : D) : ∀ xs : List D, ((toPs xs).any fun z => PyData.eqv z (toP x)) = inDeep x xs
  | [] => by simp only [toPs, inDeep, List.any_nil]
  | y :: xs => by
    have ih := any_toPs x xs
    simp only [inDeep] at ih
    simp only [toPs, inDeep, List.any_cons, ih]
    rfl
def rInDn (K : PySem.W.Frag) (neg : Bool) : R2 := if neg = true then rNotInD K else rInD K
theorem pr_inD {K : PySem.W.Frag} : PrimR K (pInD false) (two (rInD K)) := fun F H ds vs Q pr fd rt e q => by
  unfold pInD at e
  split at e
  · rename_i x xs
    obtain ⟨v, _, rfl, h1, w, _, rfl, h2, rfl⟩ := rt
    split at e
    · rename_i hk
      cases e
      obtain ⟨⟨p1, s1⟩, p2, s2⟩ := okD_and hk
      have d2 := dp_top p2 h2
      simp only [toP] at d2 s2
      refine ⟨toP x, toPs xs, dp_top p1 h1, d2, s1, s2, ?_⟩
      rw [any_toPs]
      exact q H _ (Same.refl _) rfl
    · cases e
  · cases e
theorem pr_notInD {K : PySem.W.Frag} : PrimR K (pInD true) (two (rNotInD K)) := fun F H ds vs Q pr fd rt e q => by
  unfold pInD at e
  split at e
  · rename_i x xs
    obtain ⟨v, _, rfl, h1, w, _, rfl, h2, rfl⟩ := rt
    split at e
    · rename_i hk
      cases e
      obtain ⟨⟨p1, s1⟩, p2, s2⟩ := okD_and hk
      have d2 := dp_top p2 h2
      simp only [toP] at d2 s2
      refine ⟨toP x, toPs xs, dp_top p1 h1, d2, s1, s2, ?_⟩
      rw [any_toPs]
      exact q H _ (Same.refl _) rfl
    · cases e
  · cases e
theorem units_of1 (hr : GRoom k X.A) : X.A.units + 65 < cLine := by have := hr.room.un; omega
theorem x_inD (hr : GRoom k X.A) (hm : behindInMarks .In b = false) (ha : DOp X W a oa) (hb : DOp X W b ob) : DEv X W (.Compare a [.In] [b] pos) (dPrim (pInD false) [oa, ob]) := e_cmp (op_inD (units_of1 hr)) pr_inD ha hb hm
theorem x_notInD (hr : GRoom k X.A) (hm : behindInMarks .NotIn b = false) (ha : DOp X W a oa) (hb : DOp X W b ob) : DEv X W (.Compare a [.NotIn] [b] pos) (dPrim (pInD true) [oa, ob]) := e_cmp (op_notInD (units_of1 hr)) pr_notInD ha hb hm
theorem y_inD (hr : GRoom k X.A) (hm : behindInMarks .In b = false) (ha : DOp X W a oa) (hb : DOp X W b ob) : DTst X W (.Compare a [.In] [b] pos) (dTst (dPrim (pInD false) [oa, ob])) := t_cmp (op_inD (units_of1 hr)) pr_inD ha hb hm
theorem y_notInD (hr : GRoom k X.A) (hm : behindInMarks .NotIn b = false) (ha : DOp X W a oa) (hb : DOp X W b ob) : DTst X W (.Compare a [.NotIn] [b] pos) (dTst (dPrim (pInD true) [oa, ob])) := t_cmp (op_notInD (units_of1 hr)) pr_notInD ha hb hm
end
end DL
/-! DLZ7: l.index(x), l a name of a list; min, max of a list of ints. -/
namespace DL
open PySem PySem.Spec PyProof.Rows L2
section
variable {X : Cx} {W : WX}
def fstIx (x : D) : List D → Option Nat
  | [] => none
  | y :: ys => if deq y x = true then some 0 else (fstIx x ys).map (· + 1)
theorem fstIx_spec (x : D) : ∀ (xs : List D) (j : Nat), fstIx x xs = some j → ∃ z, (toPs xs)[j]? = some z ∧ PyData.eqv z (toP x) = true ∧ ∀ (m : Nat) (z' : PyData), m < j → (toPs xs)[m]? = some z' → PyData.eqv z' (toP x) = false
  | [], j, h => by cases h
  | y :: ys, j, h => by
    rw [fstIx] at h
    by_cases hy : deq y x = true
    · rw [if_pos hy] at h
      cases h
      exact ⟨toP y, by simp only [toPs]; rfl, hy, fun m z' hm => absurd hm (Nat.not_lt_zero m)⟩
    · rw [if_neg hy] at h
      cases hf : fstIx x ys with
      | none => rw [hf] at h; cases h
      | some i =>
        rw [hf] at h
        cases h
        obtain ⟨z, h1, h2, h3⟩ := fstIx_spec x ys i hf
        refine ⟨z, by simp only [toPs]; exact h1, h2, fun m z' hm hz => ?_⟩
        simp only [toPs] at hz
        cases m with
        | zero =>
          cases hz
          cases hd : PyData.eqv (toP y) (toP x) with
          | false => rfl
          | true => exact absurd hd hy
        | succ m => exact h3 m z' (Nat.lt_of_succ_lt_succ hm) hz
def pIdx : List D → List D → Option D := fun xs ds => match ds with
  | [d] => if (okD (.lst xs) && okD d) = true then (fstIx d xs).map fun j => .int (j : Nat) else none
  | _ => none
def dIndex (i : Nat) (os : List Opd) : DE := fun env => match (env[i]? : Option (Option Ent)) with
  | some (some (Ent.mk _ (.lst _))) => (evOs os env).bind fun avs env1 => match (env1[i]? : Option (Option Ent)), getAVs env1 avs with
    | some (some (Ent.mk _ (.lst xs))), some ds => (match pIdx xs ds with
      | some d => .ok ⟨.shr, d⟩ env1
      | none => .bad)
    | _, _ => .bad
  | _ => .bad
theorem e_index {k : Nat} (hr : GRoom k X.A) (i : Nat) {y : Str} {os : List Opd} {py apos cpos : Pos} (ha : DAs X W [e] os) (hv : allV os = true := by rfl)
    (hN : X.N[i]? = some y := by rfl) (hvis : Vis X.env.scope y := by first | exact Or.inl rfl | exact Or.inr (Or.inl rfl) | exact Or.inr (Or.inr rfl)) (hd : (y == ("__debug__" : Str)) = false := by decide) (hcd : (y == ("__classdict__" : Str)) = false := by decide)
    (hb : attributeBase (.Name y py) "index" X.env (eval (.Name y py) X.env) = eval (.Name y py) X.env := by rfl) (hf : Few X e cpos := by rfl) (hl : (apos.endLine == cpos.line) = true := by rfl)
    (he : starEach (e :: []) X.env = (false, eval e X.env) :: starEach [] X.env := by rfl) (hpl : (backTo cpos (starEach [] X.env)).any (·.1) = false := by rfl) : DEv X W (.Call (.Attribute (.Name y py) "index" apos) [e] [] cpos) (dIndex i os) := by
  obtain ⟨t, h, s⟩ := ha
  have hu : X.A.units + 65 < cLine := by have := hr.room.un; omega
  refine ⟨_, pe_bm (cpos := cpos) (apos := apos) PySem.F.plainAttrs_list PySem.F.slot_list_index PySem.F.type_list_index (mt_indexD hu) (pe_var (pos := py) hN hvis hd hcd) h hb hf hl he hpl, fun O F σ H env Q st g => ?_⟩
  unfold dIndex at g
  split at g
  · rename_i m0 xs0 hi
    obtain ⟨v, hv1, hrt⟩ := st.top hi
    obtain ⟨a, vs, rfl, ht, rl⟩ := hrt
    refine ⟨_, hv1, .inl ⟨rfl, vs, SqL.of ht⟩, s O F σ H env _ st ?_⟩
    cases q : evOs os env with
    | bad => rw [q] at g; exact g.elim
    | err x e => rw [q] at g; exact g
    | ok avs env1 =>
      rw [q] at g
      simp only [R.bind] at g
      intro F1 H1 ws E1 s1 r1
      split at g
      · rename_i m1 xs ds hi1 q2
        have rd := AVs.vals hv q r1 q2
        obtain ⟨v1, hv2, hrt1⟩ := s1.top hi1
        rw [hv1] at hv2
        cases hv2
        cases q3 : pIdx xs ds with
        | none => rw [q3] at g; exact g.elim
        | some d =>
          rw [q3] at g
          unfold pIdx at q3
          split at q3
          · rename_i x
            split at q3
            · rename_i hok
              cases q4 : fstIx x xs with
              | none => rw [q4] at q3; cases q3
              | some j =>
                rw [q4] at q3
                cases q3
                obtain ⟨⟨p1, sh1⟩, p2, sh2⟩ := okD_and hok
                obtain ⟨w, _, rfl, hw, rfl⟩ := rd
                have d1 := dp_top p1 hrt1
                have d2 := dp_of x w p2 hw
                simp only [toP] at d1 sh1
                obtain ⟨z, z1, z2, z3⟩ := fstIx_spec x xs j q4
                exact ⟨a, w, toP x, toPs xs, j, z, rfl, rfl, d1, d2, sh1, sh2, z1, z2, z3, g F1 H1 _ E1 s1 rfl⟩
            · cases q3
          · cases q3
      · exact g.elim
  · exact g.elim
/-! ### min, max of a list -/
theorem isrt_mem {n : Int} {ns : List Int} : n ∈ isrt ns ↔ n ∈ ns := (isrt_perm ns).mem_iff
def pMinL : Pr := fun ds => match ds with
  | [.lst xs] => (intsOf xs).bind fun bs => match isrt bs with
    | [] => none
    | b :: _ => some (.d (.int b))
  | _ => none
theorem pr_minL {K : PySem.W.Frag} : PrimR K pMinL (rMin K) := fun F H ds vs Q pr fd rt e q => by
  unfold pMinL at e
  split at e
  · rename_i xs
    obtain ⟨v, _, rfl, ⟨p, us, rfl, hp, r1⟩, rfl⟩ := rt
    cases hb : intsOf xs with
    | none => rw [hb] at e; cases e
    | some bs =>
      rw [hb, Option.bind_some] at e
      have := intsOf_v r1 hb
      subst this
      cases hs : isrt bs with
      | nil => rw [hs] at e; cases e
      | cons b t =>
        rw [hs] at e
        cases e
        have hbm : b ∈ bs := isrt_mem.mp (by rw [hs]; exact List.mem_cons_self ..)
        refine ⟨p, bs, rfl, SqL.of hp, List.length_pos_of_mem hbm, fun m hm hall => ?_⟩
        have hpair := isrt_pair bs
        rw [hs, List.pairwise_cons] at hpair
        have h1 : m ≤ b := hall b hbm
        have h2 : b ≤ m := by
          rcases List.mem_cons.mp (hs ▸ isrt_mem.mpr hm : m ∈ b :: t) with e | e
          · omega
          · exact hpair.1 m e
        have e : m = b := by omega
        subst e
        exact q H _ (Same.refl _) rfl
  · cases e
theorem x_minL (hc : X.calm = true) (hm : X.mg "min" = none) (ha : DOp X W e o) (hg : Gl X "min" := by rfl) (hs : S1 X e := by rfl) (hpl : (backTo pos (starEach [] X.env)).any (·.1) = false := by rfl) : DEv X W (.Call (.Name "min" p) [e] [] pos) (dPrim pMinL [o]) := e_callB (cr_min hc) pr_minL hg hm (by decide +kernel) (a1 ha hs) (he := hs) (hpl := hpl)
end
end DL
/-! DLZ8: calls that leave the last default (None) out. -/
namespace DL
open PySem PySem.Spec PyProof.Rows L2
section
variable {X : Cx} {W : WX}
def tCallD (sp : Sp) (W : WX) (t : TA) : TE := fun σ H Q => t σ H fun vs H1 => sp (vs ++ [V.non]) H1 Q (WE W σ)
theorem g_callD {k : Nat} {f : Addr} {fd : FuncData} {ps : List Str} {sp : Sp} {x : Str} {e : Expr} {es : List Expr} {t : TA} {p pos : Pos} (F : GOk X.prog X.w X.K X.mg X.base k f fd ps sp) (hr : GRoom k X.A) (hg : Gl X x) (hm : X.mg x = some (.ref f)) (hk : PySem.W.keepIn X.K (.ref f) = true) (hb : Binds X.K fd ps [.none]) (tk : Takes X W)
    (ha : PA X (e :: es) t) (hdb : (x == ("__debug__" : Str)) = false) (he : starEach (e :: es) X.env = (false, eval e X.env) :: starEach es X.env) (hpl : (backTo pos (starEach es X.env)).any (·.1) = false) :
    PE X (.Call (.Name x p) (e :: es) [] pos) (tCallD sp W t) := ⟨fun pins s σ H Q I h => by
  refine wpAny_Call_Name_kw (ld_glob I hg hm ?_ hdb)
  refine PySem.W.callWith_K (h₀ := X.base) I.ok.mod.kin hk (thn (ha.run pos pins s σ H _ I h) fun us s1 ⟨vs, H1, I1, r, q⟩ => ⟨I1.kIn, ?_⟩) he hpl
  have r2 : Vals (vs ++ [V.non]) (us ++ [Value.none]) := r.append (.cons rfl .nil)
  have b := hb s1 us I1.kIn (by rw [← r2.length]; exact F.len _ _ _ _ q)
  refine wpAny_call (codeAny_mono (g_run F hr tk I1 b r2 q) fun res s' hq => ?_)
  match res, hq with
  | .error e, hq => exact hq
  | .ok (.ret u), hq => exact hq⟩
theorem rep_non {K : PySem.W.Frag} {F : Fz} {H : Hp} {ds : List D} {vs : List V} (r : RepL K F H ds vs) : RepL K F H (ds ++ [.non]) (vs ++ [V.non]) := r.append (RepL.cons (show Rep K F H .non V.non from rfl) RepL.nil)
/-- f(a, ..), the last one left out -/
theorem e_callD {k n : Nat} {f : Addr} {fd : FuncData} {ps : List Str} {fn : DFn} {x : Str} {e : Expr} {es : List Expr} {os : List Opd} {p pos : Pos} (F : GOk X.prog X.w X.K X.mg X.base k f fd ps (spD X.K X.mg false n fn)) (hr : GRoom k X.A) (hm : X.mg x = some (.ref f))
    (hk : PySem.W.keepIn X.K (.ref f) = true) (hb : Binds X.K fd ps [.none]) (tk : Takes X W) (ha : DAs X W (e :: es) os) (hg : Gl X x := by rfl) (hv : allV os = true := by rfl) (hn : os.length + 1 = n := by rfl) (hdb : (x == ("__debug__" : Str)) = false := by decide)
    (he : starEach (e :: es) X.env = (false, eval e X.env) :: starEach es X.env := by rfl) (hpl : (backTo pos (starEach es X.env)).any (·.1) = false := by rfl) : DEv X W (.Call (.Name x p) (e :: es) [] pos) (dCall (fun args => fn (args ++ [⟨.shr, .non⟩])) os) := by
  obtain ⟨t, h, s⟩ := ha
  refine ⟨_, g_callD F hr hg hm hk hb tk h hdb he hpl, fun O F σ H env Q st g => ?_⟩
  refine s O F σ H env _ st ?_
  unfold dCall at g
  cases q : evOs os env with
  | bad => rw [q] at g; exact g.elim
  | err y e => rw [q] at g; exact g
  | ok avs env1 =>
    rw [q] at g
    simp only [R.bind] at g
    intro F1 H1 vs E1 s1 r1
    cases q2 : getAVs env1 avs with
    | none => rw [q2] at g; exact g.elim
    | some ds =>
      rw [q2] at g
      have rl := rep_non (AVs.vals hv q r1 q2)
      have hlen : (ds ++ [D.non]).length = n := by
        rw [List.length_append, ← hn, lenAV q q2]
        rfl
      have es : shrs (ds ++ [D.non]) = shrs ds ++ [⟨.shr, .non⟩] := by simp [shrs]
      refine call_core0 (f := fn) s1 rl hlen ?_
      rw [es]
      exact EGoal.step E1 g
/-- a def with one default, left out -/
theorem bindsD {K : PySem.W.Frag} {x qual : Str} {st : Stmt} {T : Addr} {o : Obj} {its : Array Value} {n : Nat} {kV doc pm : Value} {an : Option Addr} {cdv ct : Value} {ps : List Str} (lT : K.lookup T = some o) (oT : o.data = .seq its n)
    (h : ∀ us : List Value, us.length + 1 = ps.length → ∃ k, bindArgs (PySem.W.fnOf x qual (defArgs st) (defBody st) (defScope st) (.ref T) kV doc pm an cdv ct) ⟨us, []⟩ = seqItems? (.ref T) >>= k ∧ k (some its) = pure (ps.zip (us ++ [.none]))) : Binds K (PySem.W.fnOf x qual (defArgs st) (defBody st) (defScope st) (.ref T) kV doc pm an cdv ct) ps [.none] := fun s us X hlen => by
  rw [List.length_append] at hlen
  obtain ⟨k, e1, e2⟩ := h us hlen
  refine BindsTo.of_looks fun M => ?_
  rw [e1]
  exact looks_items X lT oT (.of_pure e2)
end
end DL
/-! DLZ9: texts: join, split, index, in, cut; a module's constant text. -/
namespace DL
open PySem PySem.Spec PyProof.Rows L2
section
variable {X : Cx} {W : WX} {a b : Expr} {oa ob : Opd} {pos : Pos}
theorem e_gstr {x : Str} {z : Str} {t : Tok} {pos : Pos} (hg : Gl X x) (hm : X.mg x = some (.str z t)) (hd : (x == ("__debug__" : Str)) = false := by decide) : DEv X W (.Name x pos) (dC (.str z)) := ⟨_, pe_glob (v := .str z) hg hm ⟨_, rfl⟩ hd, sem_c fun _ _ _ => rfl⟩
def strsOf : List D → Option (List Str)
  | [] => some []
  | .str b :: ds => (strsOf ds).map (b :: ·)
  | _ :: _ => none
theorem strsOf_v {K : PySem.W.Frag} {F : Fz} {H : Hp} : ∀ {ds : List D} {vs : List V} {bs : List Str}, RepL K F H ds vs → strsOf ds = some bs → vs = bs.map V.str
  | [], vs, bs, h, e => by cases e; exact h
  | d :: ds, vs, bs, h, e => by
    obtain ⟨v, r, rfl, h1, h2⟩ := h
    cases d with
    | str b =>
      cases q : strsOf ds with
      | none => simp [strsOf, q] at e
      | some cs =>
        simp [strsOf, q] at e
        subst e
        rw [show v = V.str b from h1, strsOf_v h2 q]
        rfl
    | _ => cases e
theorem repL_strs {K : PySem.W.Frag} {F : Fz} {H : Hp} : ∀ ys : List Str, RepL K F H (ys.map D.str) (ys.map V.str)
  | [] => rfl
  | y :: ys => ⟨_, _, rfl, rfl, repL_strs ys⟩
/-- a method of a text with one argument: the text a constant -/
abbrev Ps1 := Str → Pr
def MethR (K : PySem.W.Frag) (p : Ps1) (r : V → List V → Hp → VK → Prop) : Prop := ∀ z, PrimR K (p z) (fun vs H Q => r (.str z) vs H Q)
def dMeth (p : Ps1) (i : Nat) (o : Opd) : DE := fun env => match (env[i]? : Option (Option Ent)) with
  | some (some (Ent.mk Md.shr (.str z))) => dPrim (p z) [o] env
  | _ => .bad
theorem e_methC {id : String} {name : Str} {apos pos : Pos} {r : V → List V → Hp → VK → Prop} {p : Ps1} {z : Str} {o1 e : Expr} {o : Opd} (slot : Slot "str" name id) (ty : typeOf (.builtin id) = pure (.type "method_descriptor")) (rule : MtR X id r) (hp : MethR X.K p r)
    (hc : PE X o1 (tC (.str z))) (ha : DOp X W e o)
    (hs : starEach [e] X.env = [(false, eval e X.env)]) (hbase : attributeBase o1 name X.env (eval o1 X.env) = eval o1 X.env) (hline : (apos.endLine == pos.line) = true) :
    DEv X W (.Call (.Attribute o1 name apos) [e] [] pos) (dPrim (p z) [o]) := by
  obtain ⟨t, h, s⟩ := ha
  refine ⟨_, pe_m1 slot ty rule hc h hs hbase hline, fun O F σ H env Q st g => ?_⟩
  exact ⟨⟨z, rfl⟩, sem_prim (asem1 s) (hp z) O F σ H env Q st g⟩
theorem e_methV {id : String} {name : Str} {apos pos : Pos} {r : V → List V → Hp → VK → Prop} {p : Ps1} (i : Nat) {y : Str} {py : Pos} {e : Expr} {o : Opd} (slot : Slot "str" name id) (ty : typeOf (.builtin id) = pure (.type "method_descriptor")) (rule : MtR X id r) (hp : MethR X.K p r) (ha : DOp X W e o)
    (hN : X.N[i]? = some y) (hvis : Vis X.env.scope y) (hd : (y == ("__debug__" : Str)) = false) (hcd : (y == ("__classdict__" : Str)) = false)
    (hs : starEach [e] X.env = [(false, eval e X.env)]) (hbase : attributeBase (.Name y py) name X.env (eval (.Name y py) X.env) = eval (.Name y py) X.env) (hline : (apos.endLine == pos.line) = true) :
    DEv X W (.Call (.Attribute (.Name y py) name apos) [e] [] pos) (dMeth p i o) := by
  obtain ⟨t, h, s⟩ := ha
  refine ⟨_, pe_m1 slot ty rule (pe_var (pos := py) hN hvis hd hcd) h hs hbase hline, fun O F σ H env Q st g => ?_⟩
  unfold dMeth at g
  split at g
  · rename_i z hi
    obtain ⟨v, hv1, hr⟩ := st.shr i _ hi
    have hr : v = V.str z := hr
    subst hr
    exact ⟨_, hv1, ⟨z, rfl⟩, sem_prim (asem1 s) (hp z) O F σ H env Q st g⟩
  · exact g.elim
def pJoin : Ps1 := fun z ds => match ds with
  | [.lst xs] => (strsOf xs).bind fun ys => if (ys.map (·.length)).sum + ys.length * z.length ≤ 16777216 then some (.d (.str (Txt.join z ys))) else none
  | _ => none
theorem mr_join {K : PySem.W.Frag} : MethR K pJoin (fun x xs H Q => ∃ a p, ∃ ys : List Str, x = .str a ∧ xs = [.ref p] ∧ (SqL K H p (ys.map V.str) ∨ SqT K H p (ys.map V.str)) ∧
    (ys.map (·.length)).sum + ys.length * a.length ≤ 16777216 ∧ Q (.str (Txt.join a ys)) H) := fun z F H ds vs Q pr fd rt e q => by
  unfold pJoin at e
  split at e
  · rename_i xs
    obtain ⟨v, _, rfl, ⟨p, us, rfl, hp, r1⟩, rfl⟩ := rt
    cases hb : strsOf xs with
    | none => rw [hb] at e; cases e
    | some ys =>
      rw [hb, Option.bind_some] at e
      split at e
      · rename_i hl
        cases e
        have := strsOf_v r1 hb
        subst this
        exact ⟨z, p, ys, rfl, rfl, .inl (SqL.of hp), hl, q _ _ (Same.refl _) rfl⟩
      · cases e
  · cases e
def pSplit : Ps1 := fun z ds => match ds with
  | [.str b] => if (b.length == 0) = false ∧ z.length + 2 ≤ sizeLine then some (.nl ((Txt.split z b).map D.str)) else none
  | _ => none
theorem mr_split {K : PySem.W.Frag} : MethR K pSplit (fun x xs H Q => ∃ a b, x = .str a ∧ xs = [.str b] ∧ (b.length == 0) = false ∧ a.length + 2 ≤ sizeLine ∧ rNewStrs (Txt.split a b) H Q) := fun z F H ds vs Q pr fd rt e q => by
  unfold pSplit at e
  split at e
  · rename_i b
    obtain ⟨v, _, rfl, hv, rfl⟩ := rt
    have hv : v = V.str b := hv
    subst hv
    split at e
    · rename_i hl
      cases e
      exact ⟨z, b, rfl, rfl, hl.1, hl.2, fun c hc => q _ _ (same_new hc) ⟨c, _, rfl, hc, upd_same, repL_strs _⟩⟩
    · cases e
  · cases e
def pSIx : Ps1 := fun z ds => match ds with
  | [.str b] => (match Builtin.Str.occurrences z b 0 z.length 1 with
    | i :: _ => some (.d (.int (i : Nat)))
    | [] => none)
  | _ => none
theorem mr_sindex {K : PySem.W.Frag} : MethR K pSIx (fun x xs H Q => ∃ a b i rest, x = .str a ∧ xs = [.str b] ∧ Builtin.Str.occurrences a b 0 a.length 1 = i :: rest ∧ Q (.int (i : Nat)) H) := fun z F H ds vs Q pr fd rt e q => by
  unfold pSIx at e
  split at e
  · rename_i b
    obtain ⟨v, _, rfl, hv, rfl⟩ := rt
    have hv : v = V.str b := hv
    subst hv
    split at e
    · rename_i i rest ho
      cases e
      exact ⟨z, b, i, rest, rfl, rfl, ho, q _ _ (Same.refl _) rfl⟩
    · cases e
  · cases e
def pInS (neg : Bool) : Pr := fun ds => match ds with
  | [.str i, .str j] => some (.d (.bl (if neg = true then !(!(Builtin.Str.occurrences j i 0 j.length 1).isEmpty) else !(Builtin.Str.occurrences j i 0 j.length 1).isEmpty)))
  | _ => none
def rInS (neg : Bool) : R2 := fun x y H Q => ∃ i j, x = .str i ∧ y = .str j ∧ Q (.bl (if neg = true then !(!(Builtin.Str.occurrences j i 0 j.length 1).isEmpty) else !(Builtin.Str.occurrences j i 0 j.length 1).isEmpty)) H
theorem pr_inS {K : PySem.W.Frag} {neg : Bool} : PrimR K (pInS neg) (two (rInS neg)) := fun F H ds vs Q pr fd rt e q => by
  unfold pInS at e
  split at e
  · rename_i i j
    cases e
    obtain ⟨v1, _, rfl, h1, v2, _, rfl, h2, rfl⟩ := rt
    have h1 : v1 = V.str i := h1
    have h2 : v2 = V.str j := h2
    subst h1
    subst h2
    exact ⟨i, j, rfl, rfl, q _ _ (Same.refl _) rfl⟩
  · cases e
theorem op_inS : OpR X (compareOp .In) (rInS false) := op_in_str
theorem op_notinS : OpR X (compareOp .NotIn) (rInS true) := op_notin_str
theorem x_inS (hm : behindInMarks .In b = false) (ha : DOp X W a oa) (hb : DOp X W b ob) : DEv X W (.Compare a [.In] [b] pos) (dPrim (pInS false) [oa, ob]) := e_cmp op_inS pr_inS ha hb hm
theorem y_inS (hm : behindInMarks .In b = false) (ha : DOp X W a oa) (hb : DOp X W b ob) : DTst X W (.Compare a [.In] [b] pos) (dTst (dPrim (pInS false) [oa, ob])) := t_cmp op_inS pr_inS ha hb hm
theorem x_notInS (hm : behindInMarks .NotIn b = false) (ha : DOp X W a oa) (hb : DOp X W b ob) : DEv X W (.Compare a [.NotIn] [b] pos) (dPrim (pInS true) [oa, ob]) := e_cmp op_notinS pr_inS ha hb hm
theorem y_notInS (hm : behindInMarks .NotIn b = false) (ha : DOp X W a oa) (hb : DOp X W b ob) : DTst X W (.Compare a [.NotIn] [b] pos) (dTst (dPrim (pInS true) [oa, ob])) := t_cmp op_notinS pr_inS ha hb hm
def pSliceS : Ps := fun d l u => match d with
  | .str z => if z.length ≤ sizeLine then some (.d (.str (cutS z l u))) else none
  | _ => none
theorem sr_str {K : PySem.W.Frag} : SliceR K pSliceS rSlS := fun F H d v l u Q pr fd rt e q => by
  unfold pSliceS at e
  split at e
  · rename_i z
    have hv : v = V.str z := rt
    subst hv
    split at e
    · rename_i hl
      cases e
      exact ⟨z, rfl, hl, q _ _ (Same.refl _) rfl⟩
    · cases e
  · cases e
theorem x_sliceS {lo hi : Option Expr} {ml mh : Option DE} {p2 : Pos} (ha : DOp X W a oa) (hl : DPo X W lo ml) (hh : DPo X W hi mh) : DEv X W (.Subscript a (.Slice lo hi none p2) pos) (dSlice pSliceS oa ml mh) := e_slice sl_str sr_str ha hl hh
/-! the three methods -/
section
variable {e : Expr} {o : Opd} {z : Str} {apos : Pos} {o1 : Expr}
theorem x_join {j pj} (ha : DOp X W e o) (hs : starEach [e] X.env = [(false, eval e X.env)] := by rfl) (hbase : attributeBase (.Constant (.str z) j pj) "join" X.env (eval (.Constant (.str z) j pj) X.env) = eval (.Constant (.str z) j pj) X.env := by rfl) (hline : (apos.endLine == pos.line) = true := by rfl) :
    DEv X W (.Call (.Attribute (.Constant (.str z) j pj) "join" apos) [e] [] pos) (dPrim (pJoin z) [o]) := e_methC F.slot_str_join F.type_str_join mt_join mr_join pe_str ha hs hbase hline
theorem x_sindexG {x : Str} {t : Tok} {px : Pos} (hg : Gl X x) (hm : X.mg x = some (.str z t)) (ha : DOp X W e o) (hd : (x == ("__debug__" : Str)) = false := by decide) (hs : starEach [e] X.env = [(false, eval e X.env)] := by rfl) (hbase : attributeBase (.Name x px) "index" X.env (eval (.Name x px) X.env) = eval (.Name x px) X.env := by rfl) (hline : (apos.endLine == pos.line) = true := by rfl) :
    DEv X W (.Call (.Attribute (.Name x px) "index" apos) [e] [] pos) (dPrim (pSIx z) [o]) := e_methC F.slot_str_index F.type_str_index mt_sindex mr_sindex (pe_glob (v := .str z) hg hm ⟨_, rfl⟩ hd) ha hs hbase hline
theorem x_sindex (i : Nat) {y : Str} {py : Pos} (ha : DOp X W e o)
    (hN : X.N[i]? = some y := by rfl) (hvis : Vis X.env.scope y := by first | exact Or.inl rfl | exact Or.inr (Or.inl rfl) | exact Or.inr (Or.inr rfl)) (hd : (y == ("__debug__" : Str)) = false := by decide) (hcd : (y == ("__classdict__" : Str)) = false := by decide)
    (hs : starEach [e] X.env = [(false, eval e X.env)] := by rfl) (hbase : attributeBase (.Name y py) "index" X.env (eval (.Name y py) X.env) = eval (.Name y py) X.env := by rfl) (hline : (apos.endLine == pos.line) = true := by rfl) :
    DEv X W (.Call (.Attribute (.Name y py) "index" apos) [e] [] pos) (dMeth pSIx i o) := e_methV i F.slot_str_index F.type_str_index mt_sindex mr_sindex ha hN hvis hd hcd hs hbase hline
theorem x_split (i : Nat) {y : Str} {py : Pos} (ha : DOp X W e o)
    (hN : X.N[i]? = some y := by rfl) (hvis : Vis X.env.scope y := by first | exact Or.inl rfl | exact Or.inr (Or.inl rfl) | exact Or.inr (Or.inr rfl)) (hd : (y == ("__debug__" : Str)) = false := by decide) (hcd : (y == ("__classdict__" : Str)) = false := by decide)
    (hs : starEach [e] X.env = [(false, eval e X.env)] := by rfl) (hbase : attributeBase (.Name y py) "split" X.env (eval (.Name y py) X.env) = eval (.Name y py) X.env := by rfl) (hline : (apos.endLine == pos.line) = true := by rfl) :
    DEv X W (.Call (.Attribute (.Name y py) "split" apos) [e] [] pos) (dMeth pSplit i o) := e_methV i F.slot_str_split F.type_str_split mt_split mr_split ha hN hvis hd hcd hs hbase hline
end
end
/-! the last default, an int, left out -/
section
variable {X : Cx} {W : WX}
def tCallDI (i0 : Int) (sp : Sp) (W : WX) (t : TA) : TE := fun σ H Q => t σ H fun vs H1 => sp (vs ++ [V.int i0]) H1 Q (WE W σ)
theorem g_callDI {i0 : Int} {t0 : Tok} {k : Nat} {f : Addr} {fd : FuncData} {ps : List Str} {sp : Sp} {x : Str} {e : Expr} {es : List Expr} {t : TA} {p pos : Pos} (F : GOk X.prog X.w X.K X.mg X.base k f fd ps sp) (hr : GRoom k X.A) (hg : Gl X x) (hm : X.mg x = some (.ref f)) (hk : PySem.W.keepIn X.K (.ref f) = true) (hb : Binds X.K fd ps [.int i0 t0]) (tk : Takes X W)
    (ha : PA X (e :: es) t) (hdb : (x == ("__debug__" : Str)) = false) (he : starEach (e :: es) X.env = (false, eval e X.env) :: starEach es X.env) (hpl : (backTo pos (starEach es X.env)).any (·.1) = false) :
    PE X (.Call (.Name x p) (e :: es) [] pos) (tCallDI i0 sp W t) := ⟨fun pins s σ H Q I h => by
  refine wpAny_Call_Name_kw (ld_glob I hg hm ?_ hdb)
  refine PySem.W.callWith_K (h₀ := X.base) I.ok.mod.kin hk (thn (ha.run pos pins s σ H _ I h) fun us s1 ⟨vs, H1, I1, r, q⟩ => ⟨I1.kIn, ?_⟩) he hpl
  have r2 : Vals (vs ++ [V.int i0]) (us ++ [Value.int i0 t0]) := r.append (.cons ⟨t0, rfl⟩ .nil)
  have b := hb s1 us I1.kIn (by rw [← r2.length]; exact F.len _ _ _ _ q)
  refine wpAny_call (codeAny_mono (g_run F hr tk I1 b r2 q) fun res s' hq => ?_)
  match res, hq with
  | .error e, hq => exact hq
  | .ok (.ret u), hq => exact hq⟩
theorem rep_int0 {i0 : Int} {K : PySem.W.Frag} {F : Fz} {H : Hp} {ds : List D} {vs : List V} (r : RepL K F H ds vs) : RepL K F H (ds ++ [.int i0]) (vs ++ [V.int i0]) := r.append (RepL.cons (show Rep K F H (.int i0) (V.int i0) from rfl) RepL.nil)
/-- f(a, ..), the last one left out -/
theorem e_callDI {i0 : Int} {t0 : Tok} {k n : Nat} {f : Addr} {fd : FuncData} {ps : List Str} {fn : DFn} {x : Str} {e : Expr} {es : List Expr} {os : List Opd} {p pos : Pos} (F : GOk X.prog X.w X.K X.mg X.base k f fd ps (spD X.K X.mg false n fn)) (hr : GRoom k X.A) (hm : X.mg x = some (.ref f))
    (hk : PySem.W.keepIn X.K (.ref f) = true) (hb : Binds X.K fd ps [.int i0 t0]) (tk : Takes X W) (ha : DAs X W (e :: es) os) (hg : Gl X x := by rfl) (hv : allV os = true := by rfl) (hn : os.length + 1 = n := by rfl) (hdb : (x == ("__debug__" : Str)) = false := by decide)
    (he : starEach (e :: es) X.env = (false, eval e X.env) :: starEach es X.env := by rfl) (hpl : (backTo pos (starEach es X.env)).any (·.1) = false := by rfl) : DEv X W (.Call (.Name x p) (e :: es) [] pos) (dCall (fun args => fn (args ++ [⟨.shr, .int i0⟩])) os) := by
  obtain ⟨t, h, s⟩ := ha
  refine ⟨_, g_callDI F hr hg hm hk hb tk h hdb he hpl, fun O F σ H env Q st g => ?_⟩
  refine s O F σ H env _ st ?_
  unfold dCall at g
  cases q : evOs os env with
  | bad => rw [q] at g; exact g.elim
  | err y e => rw [q] at g; exact g
  | ok avs env1 =>
    rw [q] at g
    simp only [R.bind] at g
    intro F1 H1 vs E1 s1 r1
    cases q2 : getAVs env1 avs with
    | none => rw [q2] at g; exact g.elim
    | some ds =>
      rw [q2] at g
      have rl := rep_int0 (i0 := i0) (AVs.vals hv q r1 q2)
      have hlen : (ds ++ [D.int i0]).length = n := by
        rw [List.length_append, ← hn, lenAV q q2]
        rfl
      have es : shrs (ds ++ [D.int i0]) = shrs ds ++ [⟨.shr, .int i0⟩] := by simp [shrs]
      refine call_core0 (f := fn) s1 rl hlen ?_
      rw [es]
      exact EGoal.step E1 g
/-- a def with one default, left out -/
theorem bindsDI {i0 : Int} {t0 : Tok} {K : PySem.W.Frag} {x qual : Str} {st : Stmt} {T : Addr} {o : Obj} {its : Array Value} {n : Nat} {kV doc pm : Value} {an : Option Addr} {cdv ct : Value} {ps : List Str} (lT : K.lookup T = some o) (oT : o.data = .seq its n)
    (h : ∀ us : List Value, us.length + 1 = ps.length → ∃ k, bindArgs (PySem.W.fnOf x qual (defArgs st) (defBody st) (defScope st) (.ref T) kV doc pm an cdv ct) ⟨us, []⟩ = seqItems? (.ref T) >>= k ∧ k (some its) = pure (ps.zip (us ++ [.int i0 t0]))) : Binds K (PySem.W.fnOf x qual (defArgs st) (defBody st) (defScope st) (.ref T) kV doc pm an cdv ct) ps [.int i0 t0] := fun s us X hlen => by
  rw [List.length_append] at hlen
  obtain ⟨k, e1, e2⟩ := h us hlen
  refine BindsTo.of_looks fun M => ?_
  rw [e1]
  exact looks_items X lT oT (.of_pure e2)
end

/-! list(range(a, b)) -/
section
variable {X : Cx} {W : WX} {a b : Expr} {oa ob : Opd} {p pos : Pos}
def pLstRg2 : Pr := fun ds => match ds with
  | [.int i, .int j] => if rgOk i j = true then some (.nl (rngD i (j - i).toNat)) else none
  | _ => none
def rLstRg2 : Rl := two fun x y H Q => ∃ i j, x = .int i ∧ y = .int j ∧ RgOk i j ∧ ∀ q, H q = none → Q (.ref q) (upd H q (.lst (rgV i j)))
theorem pr_lstRg2 {K : PySem.W.Frag} : PrimR K pLstRg2 rLstRg2 := fun F H ds vs Q pr fd rt e q => by
  unfold pLstRg2 at e
  split at e
  · rename_i i j
    obtain ⟨v, _, rfl, h1, w, _, rfl, h2, rfl⟩ := rt
    cases h1
    cases h2
    split at e
    · rename_i h
      cases e
      exact ⟨i, j, rfl, rfl, rgOk_of h, fun c hc => q _ _ (same_new hc) ⟨c, _, rfl, hc, upd_same, repL_same (same_new hc) (repL_rg i j)⟩⟩
    · cases e
  · cases e
theorem x_lstRg2 {p2 pos2 : Pos} (hc : X.calm = true) (hl : X.mg "list" = none) (hm : X.mg "range" = none) (ha : DOp X W a oa) (hb : DOp X W b ob) (hg : Gl X "list" := by rfl) (hg2 : Gl X "range" := by rfl) (na : starEach [a, b] X.env = (false, eval a X.env) :: starEach [b] X.env := by rfl)
    (nb : starEach [b] X.env = (false, eval b X.env) :: starEach [] X.env := by rfl) (hp : (backTo pos2 (starEach [b] X.env)).any (·.1) = false := by rfl)
    (nc : starEach [.Call (.Name "range" p2) [a, b] [] pos2] X.env = (false, eval (.Call (.Name "range" p2) [a, b] [] pos2) X.env) :: starEach [] X.env := by rfl) :
    DEv X W (.Call (.Name "list" p) [.Call (.Name "range" p2) [a, b] [] pos2] [] pos) (dPrim pLstRg2 [oa, ob]) := by
  obtain ⟨ta, h1, s1⟩ := ha
  obtain ⟨tb, h2, s2⟩ := hb
  refine ⟨_, pe_listRg hc hg hl (prg_2 hg2 hm h1 h2 na nb hp) nc, fun O F σ H env Q st g => ?_⟩
  exact sem_prim (r := rLstRg2) (asem2 s1 s2) pr_lstRg2 O F σ H env Q st g
end
end DL
/-! DLZA: the signs of a text, one by one; str(int | None). -/
namespace DL
open PySem PySem.Spec PyProof.Rows L2
section
variable {X : Cx} {W : WX} {pos p : Pos} {e : Expr} {o : Opd}
def signsD (z : Str) : List D := z.cps.toList.map fun c => D.str ⟨#[c]⟩
def iStrD (m : DE) : DI := fun env => (m env).bind fun r env1 => match r.d with
  | .str z => .ok (signsD z) env1
  | _ => .bad
theorem walks_str {K : PySem.W.Frag} {O F : Fz} {H : Hp} {z : Str} : Walks K O F H (Its z) (signsD z) := fun F' H' E od i => by
  have e : (signsD z)[i]? = (z.cps[i]?).map fun c => D.str ⟨#[c]⟩ := by
    rw [signsD, List.getElem?_map, Array.getElem?_toList]
  refine ⟨fun d hx => ?_, fun hx => ?_⟩
  · rw [e] at hx
    cases hc : z.cps[i]? with
    | none => rw [hc] at hx; cases hx
    | some c =>
      rw [hc] at hx
      cases hx
      refine ⟨(Array.getElem?_eq_some_iff.mp hc).1, fun x H'' y => ?_⟩
      obtain ⟨e1, c2, h2, e3⟩ := y
      rw [hc] at h2
      cases h2
      subst e1
      exact ⟨Same.refl _, e3⟩
  · rw [e] at hx
    cases hc : z.cps[i]? with
    | none => exact Array.getElem?_eq_none_iff.mp hc
    | some c => rw [hc] at hx; cases hx
theorem it_str {tg e : Expr} {m : DE} (h : DEv X W e m) : DIt X W tg e (iStrD m) := by
  obtain ⟨t, p, s⟩ := h
  refine ⟨_, pi_str p, fun O F σ H env R' st g => ?_⟩
  refine s O F σ H env _ st ?_
  unfold iStrD at g
  cases q : m env with
  | bad => rw [q] at g; exact g.elim
  | err x e => rw [q] at g; exact g
  | ok r env1 =>
    rw [q] at g
    simp only [R.bind] at g
    intro F1 H1 v E1 s1 r1
    obtain ⟨F2, E2, s2, r2⟩ := freeze s1 r1
    obtain ⟨md, d⟩ := r
    cases d with
    | str z =>
      have hv : v = V.str z := r2
      subst hv
      exact ⟨z, rfl, g F2 H1 _ (E1.trans E2) s2 walks_str⟩
    | _ => exact g.elim
def pStrOf : Pr := fun ds => match ds with
  | [.int i] => if i.natAbs.log2 < 1920 then some (.d (.str (toString i))) else none
  | [.non] => some (.d (.str "None"))
  | _ => none
def rStr1 : Rl := fun xs H Q => (∃ i, xs = [.int i] ∧ i.natAbs.log2 < 1920 ∧ Q (.str (toString i)) H) ∨ (xs = [.non] ∧ Q (.str "None") H)
theorem call_str1 : CallR X (.type "str") rStr1 := by
  intro pins s σ H xs us Q I r h
  rcases h with ⟨i, rfl, hz, q⟩ | ⟨rfl, q⟩
  · obtain ⟨u, rfl, t, rfl⟩ := vals1 r
    exact PySem.P.str_of_int hz ⟨.str _, H, I.tok _, ⟨_, rfl⟩, q⟩
  · obtain ⟨u, rfl, r1⟩ := vals1 r
    cases r1
    exact PySem.P.str_of_none ⟨.str _, H, I.tok _, ⟨_, rfl⟩, q⟩
theorem pr_strOf {K : PySem.W.Frag} : PrimR K pStrOf rStr1 := fun F H ds vs Q pr fd rt e q => by
  unfold pStrOf at e
  split at e
  · rename_i i
    obtain ⟨v, _, rfl, h1, rfl⟩ := rt
    cases h1
    split at e
    · rename_i hl
      cases e
      exact .inl ⟨i, rfl, hl, q _ _ (Same.refl _) rfl⟩
    · cases e
  · obtain ⟨v, _, rfl, h1, rfl⟩ := rt
    cases h1
    cases e
    exact .inr ⟨rfl, q _ _ (Same.refl _) rfl⟩
  · cases e
theorem x_str (hm : X.mg "str" = none) (ha : DOp X W e o) (hg : Gl X "str" := by rfl) (hs : S1 X e := by rfl) (hpl : (backTo pos (starEach [] X.env)).any (·.1) = false := by rfl) : DEv X W (.Call (.Name "str" p) [e] [] pos) (dPrim pStrOf [o]) := e_callTy call_str1 pr_strOf hg hm (by decide +kernel) (a1 ha hs) (he := hs) (hpl := hpl)
end
end DL
/-! DLZB: min of a list of ranks: tuples of an int and a tuple of ints. -/
namespace DL
open PySem PySem.Spec PyProof.Rows L2
def rkD (r : Int × List Int) : D := .tup [.int r.1, .tup (r.2.map D.int)]
def rkOf : D → Option (Int × List Int)
  | .tup [.int n, .tup xs] => (intsOf xs).map fun is => (n, is)
  | _ => none
def rksOf : List D → Option (List (Int × List Int))
  | [] => some []
  | d :: ds => (rkOf d).bind fun r => (rksOf ds).map (r :: ·)
theorem intsOf_D : ∀ {ds : List D} {is : List Int}, intsOf ds = some is → ds = is.map D.int
  | [], is, e => by cases e; rfl
  | .int b :: ds, is, e => by
    cases q : intsOf ds with
    | none => simp [intsOf, q] at e
    | some cs =>
      simp [intsOf, q] at e
      subst e
      rw [intsOf_D q]
      rfl
  | .non :: _, _, e => by cases e
  | .bl _ :: _, _, e => by cases e
  | .str _ :: _, _, e => by cases e
  | .tup _ :: _, _, e => by cases e
  | .lst _ :: _, _, e => by cases e
  | .fz _ :: _, _, e => by cases e
  | .rng _ _ :: _, _, e => by cases e
  | .pr _ _ :: _, _, e => by cases e
  | .exc _ _ :: _, _, e => by cases e
theorem rkOf_D {d : D} {r : Int × List Int} (h : rkOf d = some r) : d = rkD r := by
  unfold rkOf at h
  split at h
  · rename_i n xs
    cases q : intsOf xs with
    | none => rw [q] at h; cases h
    | some is =>
      rw [q] at h
      cases h
      rw [intsOf_D q]
      rfl
  · cases h
theorem rksOf_D : ∀ {ds : List D} {rs : List (Int × List Int)}, rksOf ds = some rs → ds = rs.map rkD
  | [], rs, e => by cases e; rfl
  | d :: ds, rs, e => by
    unfold rksOf at e
    cases q : rkOf d with
    | none => rw [q] at e; cases e
    | some r =>
      cases q2 : rksOf ds with
      | none => rw [q, q2] at e; cases e
      | some t =>
        rw [q, q2] at e
        cases e
        rw [rkOf_D q, rksOf_D q2]
        rfl
def rkLt (a b : Int × List Int) : Bool := PySem.W.dataLt (toP (rkD a)) (toP (rkD b))
def leastR (x : Int × List Int) (xs : List (Int × List Int)) : Int × List Int := xs.foldl (fun a y => if rkLt y a then y else a) x
theorem toPs_map {α : Type} (f : α → D) : ∀ xs : List α, toPs (xs.map f) = xs.map fun x => toP (f x)
  | [] => by simp only [List.map_nil, toPs]
  | x :: xs => by simp only [List.map_cons, toPs, toPs_map f xs]
theorem minD_rk : ∀ (xs : List (Int × List Int)) (x : Int × List Int), PySem.W.minD (toP (rkD x)) (toPs (xs.map rkD)) = toP (rkD (leastR x xs))
  | [], x => by simp only [List.map_nil, toPs, PySem.W.minD, leastR, List.foldl_nil]
  | y :: xs, x => by
    have ih := minD_rk xs (if rkLt y x then y else x)
    simp only [List.map_cons, toPs, PySem.W.minD, leastR, List.foldl_cons] at ih ⊢
    rw [← ih]
    congr 1
    by_cases h : rkLt y x = true
    · have h2 : PySem.W.dataLt (toP (rkD y)) (toP (rkD x)) = true := h
      rw [if_pos h2, if_pos h]
    · have h2 : ¬ PySem.W.dataLt (toP (rkD y)) (toP (rkD x)) = true := h
      rw [if_neg h2, if_neg h]
theorem alike_ints : ∀ a b : List Int, PySem.W.alikeAll (a.map PyData.int) (b.map PyData.int) = true
  | [], _ => by simp only [List.map_nil, PySem.W.alikeAll]
  | _ :: _, [] => by simp only [List.map_nil, List.map_cons, PySem.W.alikeAll]
  | x :: a, y :: b => by simp only [List.map_cons, PySem.W.alikeAll, PySem.W.alike, alike_ints a b, Bool.and_self]
theorem toP_rk (r : Int × List Int) : toP (rkD r) = .tuple [.int r.1, .tuple (r.2.map PyData.int)] := by
  have e : toPs (r.2.map D.int) = r.2.map PyData.int := by
    rw [toPs_map]
    apply List.map_congr_left
    intro x _
    simp only [toP]
  simp only [rkD, toP, toPs, e]
theorem alike_rk (a b : Int × List Int) : PySem.W.alike (toP (rkD a)) (toP (rkD b)) = true := by
  rw [toP_rk, toP_rk]
  simp only [PySem.W.alike, PySem.W.alikeAll, alike_ints, Bool.and_self]
theorem rk_inj {a b : Int × List Int} (h : toP (rkD a) = toP (rkD b)) : a = b := by
  rw [toP_rk, toP_rk] at h
  injection h with h
  injection h with h1 h2
  injection h1 with h1
  injection h2 with h2 _
  injection h2 with h2
  have h3 : a.2 = b.2 := (List.map_inj_right (fun x y e => by injection e)).mp h2
  exact Prod.ext h1 h3
section
variable {X : Cx} {W : WX} {pos p : Pos} {e : Expr} {o : Opd}
def rMinT (K : PySem.W.Frag) : List V → Hp → VK → Prop := fun vs H Q => ∃ (a : Addr) (xs : List V) (d : PyData) (ds : List PyData), vs = [V.ref a] ∧ SqL K H a xs ∧ DpAll K H xs (d :: ds) ∧ PySem.W.AlikeAll (d :: ds) ∧ PyData.depthAll (d :: ds) ≤ 64 ∧
  ∀ (i : Nat) (v : V), xs[i]? = some v → (d :: ds)[i]? = some (PySem.W.minD d ds) → Q v H
theorem Vals.get2 {xs : List V} {us : List Value} {i : Nat} {u : Value} (r : Vals xs us) (h : us[i]? = some u) : ∃ x, xs[i]? = some x ∧ RelV x u := by
  have hi : i < xs.length := by
    rw [r.length]
    exact (List.getElem?_eq_some_iff.mp h).1
  obtain ⟨u2, h2, rr⟩ := r.get (List.getElem?_eq_getElem hi)
  rw [h] at h2
  cases h2
  exact ⟨_, List.getElem?_eq_getElem hi, rr⟩
theorem cr_minT (hc : X.calm = true) (hu : X.A.units + 65 < cLine) : CallR X (.builtin "min") (rMinT X.K) := by
  intro pins s σ H vs us Q I r h
  obtain ⟨a, xs, d, ds, rfl, hs, hd, al, dp, q⟩ := h
  obtain ⟨its, rv, hl, _⟩ := I.list hs
  rw [Vals.ref1 r]
  obtain ⟨as, hr⟩ := Dp.readsAll I (d :: ds) xs its hd rv
  refine PySem.W.min_list_data (vs := its.toArray) (I.ok.hd hc) hl.isList (by simpa using hr) al (by omega) fun i v h' tk bs hv rd hk => ?_
  have hv : its[i]? = some v := by simpa using hv
  obtain ⟨x, hx, rx⟩ := Vals.get2 rv hv
  obtain ⟨bs2, r2, hi, _, _⟩ := PySem.W.readsAll_at hr i v hv
  have r3 := PySem.W.reads_keeps hk r2
  have e := (PySem.Reads.unique r3 _ _ rd).1
  have e2 : (d :: ds)[i]? = some (PySem.W.minD d ds) := by
    rw [← e]
    unfold List.getD
    rw [List.getElem?_eq_getElem hi]
    rfl
  exact ⟨x, H, I.kept hk, rx, q i x hx e2⟩
def pMinT : Pr := fun ds => match ds with
  | [.lst xs] => (rksOf xs).bind fun rs => match rs with
    | [] => none
    | r :: t => if okD (.lst xs) = true then some (.d (rkD (leastR r t))) else none
  | _ => none
theorem pr_minT {K : PySem.W.Frag} : PrimR K pMinT (rMinT K) := fun F H ds vs Q pr fd rt e q => by
  unfold pMinT at e
  split at e
  · rename_i xs
    obtain ⟨v, _, rfl, ⟨p, us, rfl, hp, r1⟩, rfl⟩ := rt
    cases hb : rksOf xs with
    | none => rw [hb] at e; cases e
    | some rs =>
      rw [hb, Option.bind_some] at e
      cases rs with
      | nil => cases e
      | cons r t =>
        simp only [] at e
        split at e
        · rename_i ok
          cases e
          have ex := rksOf_D hb
          subst ex
          simp only [okD, Bool.and_eq_true] at ok
          have pl : plains ((r :: t).map rkD) = true := by simpa only [plain] using ok.1
          have dd := dps_of _ us pl r1
          have et : toPs ((r :: t).map rkD) = toP (rkD r) :: toPs (t.map rkD) := by simp only [List.map_cons, toPs]
          rw [et] at dd
          refine ⟨p, us, _, _, rfl, SqL.of hp, dd, ⟨fun a ha b hb => ?_, fun a ha z => ?_⟩, ?_, fun i v hv he => ?_⟩
          · rw [← et, toPs_map] at ha hb
            obtain ⟨x, _, rfl⟩ := List.mem_map.mp ha
            obtain ⟨y, _, rfl⟩ := List.mem_map.mp hb
            exact alike_rk x y
          · rw [← et, toPs_map] at ha
            obtain ⟨x, _, rfl⟩ := List.mem_map.mp ha
            rw [toP_rk] at z
            cases z
          · have := ok.2
            simp only [SeqAt.shaped, Bool.and_eq_true, decide_eq_true_eq] at this
            have h2 := this.2
            simp only [toP, PyData.depth] at h2
            rw [← et]
            omega
          · rw [minD_rk, ← et, toPs_map, List.getElem?_map] at he
            cases hr : (r :: t)[i]? with
            | none => rw [hr] at he; cases he
            | some x =>
              rw [hr] at he
              have ex : x = leastR r t := rk_inj (Option.some.inj he)
              subst ex
              obtain ⟨d, hd, rd⟩ := r1.get' hv
              rw [List.getElem?_map, hr] at hd
              cases hd
              exact q _ _ (Same.refl _) rd
        · cases e
  · cases e
theorem x_minT {k : Nat} (hr : GRoom k X.A) (hc : X.calm = true) (hm : X.mg "min" = none) (ha : DOp X W e o) (hg : Gl X "min" := by rfl) (hs : S1 X e := by rfl) (hpl : (backTo pos (starEach [] X.env)).any (·.1) = false := by rfl) : DEv X W (.Call (.Name "min" p) [e] [] pos) (dPrim pMinT [o]) := e_callB (cr_minT hc (by have := hr.room.un; omega)) pr_minT hg hm (by decide +kernel) (a1 ha hs) (he := hs) (hpl := hpl)
end
end DL
/-! DLZC: rows = [list(row) for row in ..]; line = rows[spot]; line[slot] = sign. -/
namespace DL
open PySem PySem.Spec PyProof.Rows L2
section
variable {X : Cx} {W : WX} {B : Bs}
def rowsOf : List D → Option (List (List D))
  | [] => some []
  | .tup xs :: r => (rowsOf r).map (xs :: ·)
  | _ :: _ => none
theorem rowsOf_get : ∀ {ds : List D} {rows : List (List D)}, rowsOf ds = some rows → rows.length = ds.length ∧ ∀ (i : Nat) (d : D), ds[i]? = some d → ∃ r, d = .tup r ∧ rows[i]? = some r
  | [], rows, h => by cases h; exact ⟨rfl, fun i d q => by simp at q⟩
  | d :: ds, rows, h => by
    cases d with
    | tup xs =>
      rw [rowsOf] at h
      cases q : rowsOf ds with
      | none => rw [q] at h; cases h
      | some rs =>
        rw [q] at h
        cases h
        obtain ⟨h1, h2⟩ := rowsOf_get q
        refine ⟨by simp [h1], fun i d q => ?_⟩
        cases i with
        | zero => simp at q; subst q; exact ⟨xs, rfl, rfl⟩
        | succ i => simpa using h2 i d (by simpa using q)
    | _ => cases h
def putRows (rows : List (List D)) (a b : Int) (d : D) : Option (Nat × List D) :=
  (ixN rows.length a).bind fun j => (rows[j]?).bind fun row => (ixN row.length b).map fun k => (j, row.set k d)
def dPut3 (ir il is it iv irow : Nat) (mi : DI) : DS := fun env => (mi env).bind fun xs env1 =>
  match rowsOf xs, ((((backD env1 (wipeD env1 [irow]) [irow]).set ir none).set il none)[is]? : Option (Option Ent)), ((((backD env1 (wipeD env1 [irow]) [irow]).set ir none).set il none)[it]? : Option (Option Ent)), ((((backD env1 (wipeD env1 [irow]) [irow]).set ir none).set il none)[iv]? : Option (Option Ent)) with
  | some rows, some (some (Ent.mk .shr (.int a))), some (some (Ent.mk .shr (.int b))), some (some (Ent.mk .shr d)) => (match putRows rows a b d with
     | some (j, row) => if rows.length ≤ sizeLine ∧ ir < env1.length ∧ il < env1.length ∧ irow < env1.length then .ok .nx (((((backD env1 (wipeD env1 [irow]) [irow]).set ir none).set il none).set ir (some ⟨.own, .lst ((rows.map D.lst).set j (.lst row))⟩)).set il (some ⟨.shr, .lst row⟩)) else .bad
     | none => .bad)
  | _, _, _, _ => .bad
theorem none2 {l : DEnv} {i j k : Nat} {x : Ent} (h : ((l.set i none).set j none)[k]? = some (some x)) : k ≠ i ∧ k ≠ j := by
  constructor
  · intro e
    subst e
    by_cases hj : j = k
    · subst hj
      by_cases hl : j < (l.set j none).length
      · rw [List.getElem?_set_self hl] at h; cases h
      · rw [List.getElem?_eq_none (by simpa using hl)] at h; cases h
    · rw [List.getElem?_set_ne hj] at h
      by_cases hl : k < l.length
      · rw [List.getElem?_set_self hl] at h; cases h
      · rw [List.getElem?_eq_none (by simpa using hl)] at h; cases h
  · intro e
    subst e
    by_cases hl : k < (l.set i none).length
    · rw [List.getElem?_set_self hl] at h; cases h
    · rw [List.getElem?_eq_none (by simpa using hl)] at h; cases h
theorem StOk.grow {K : PySem.W.Frag} {O F1 F2 : Fz} {H1 H2 : Hp} {σ : L2.St} {env : DEnv} (s : StOk K O F1 H1 σ env) (sm : Same H1 H2) (sub : ∀ x, F1 x → F2 x) (new : ∀ x, F2 x → F1 x ∨ (H1 x = none ∧ H2 x ≠ none)) :
    StOk K O F2 H2 σ env ∧ Ext O F1 H1 F2 H2 := by
  have keep : ∀ a, H1 a ≠ none → H2 a = H1 a := fun a h => by
    cases q : H1 a with
    | none => exact absurd q h
    | some o => exact sm a o q
  have E : Ext O F1 H1 F2 H2 := ⟨sub, fun a o _ e => sm a o e, fun a xs e => sm a _ e, fun a o u e => sm a _ e, fun a h => keep a (s.odom a h), fun a h f => by
    rcases new a f with q | ⟨q, _⟩
    · exact q
    · exact absurd q (s.odom a h)⟩
  refine ⟨⟨s.len, fun i d q => let ⟨v, h1, h2⟩ := s.shr i d q; ⟨v, h1, Rep.ext E d v h2⟩, fun i m d q n => ?_, s.inj, fun a f => ?_, fun a f => ?_⟩, E⟩
  · obtain ⟨a, vs, ds, h1, h2, h3, h4, h5, h6⟩ := s.own i m d q n
    refine ⟨a, vs, ds, h1, h2, sm _ _ h3, RepL.ext E ds vs h4, fun z => ?_, h6⟩
    rcases new a z with z | ⟨z, _⟩
    · exact h5 z
    · rw [h3] at z; cases z
  · rcases new a f with z | ⟨_, z⟩
    · rw [keep a (s.fdom a z)]; exact s.fdom a z
    · exact z
  · rw [keep a (s.odom a f)]; exact s.odom a f
theorem repL_of {K : PySem.W.Frag} {F : Fz} {H : Hp} : ∀ {ds : List D} {vs : List V}, ds.length = vs.length → (∀ (k : Nat) (d : D) (v : V), ds[k]? = some d → vs[k]? = some v → Rep K F H d v) → RepL K F H ds vs
  | [], [], _, _ => RepL.nil
  | [], _ :: _, h, _ => by simp at h
  | _ :: _, [], h, _ => by simp at h
  | d :: ds, v :: vs, h, k => RepL.cons (k 0 d v rfl rfl) (repL_of (by simpa using h) fun i e w h1 h2 => k (i + 1) e w (by simpa using h1) (by simpa using h2))
/-- new lists, one for each row -/
structure LsAt (K : PySem.W.Frag) (F1 : Fz) (H1 H : Hp) (Dl : Addr) (as : List Addr) (rows : List (List D)) : Prop where
  len : as.length = rows.length
  nd : as.Nodup
  new : ∀ a ∈ as, H1 a = none ∧ a ≠ Dl
  at_ : ∀ (k : Nat) (a : Addr) (r : List D), as[k]? = some a → rows[k]? = some r → ∃ ws, H a = some (.lst ws) ∧ RepL K F1 H r ws
theorem nodup_ix {as : List Addr} (nd : as.Nodup) {i j : Nat} {a : Addr} (h1 : as[i]? = some a) (h2 : as[j]? = some a) : i = j := by
  obtain ⟨hi, e1⟩ := List.getElem?_eq_some_iff.mp h1
  obtain ⟨hj, e2⟩ := List.getElem?_eq_some_iff.mp h2
  have pw := List.pairwise_iff_getElem.mp nd
  rcases Nat.lt_trichotomy i j with q | q | q
  · exact absurd (e1.trans e2.symm) (pw i j hi hj q)
  · exact q
  · exact absurd (e2.trans e1.symm) (pw j i hj hi q)
theorem pvn (i : Nat) {x : Str} {pos : Pos} (hN : X.N[i]? = some x := by rfl) (hv : Vis X.env.scope x := by first | exact Or.inl rfl | exact Or.inr (Or.inl rfl) | exact Or.inr (Or.inr rfl)) (hd : (x == ("__debug__" : Str)) = false := by decide)
    (hcd : (x == ("__classdict__" : Str)) = false := by decide) : PE X (.Name x pos) (tVar i) := pe_var hN hv hd hcd
theorem pe_listRow {e : Expr} {p pos : Pos} {i : Nat} (hm : X.mg "list" = none) (h : PE X e (tVar i)) (hg : Gl X "list" := by rfl) (hs : S1 X e := by rfl) (hpl : (backTo pos (starEach [] X.env)).any (·.1) = false := by rfl) :
    PE X (.Call (.Name "list" p) [e] [] pos) (tCB (rLstOf X.K) (tCons (tVar i) tNil)) := pe_callTy call_list_of hg hm (by decide +kernel) (pa_cons h pa_nil hs) (by decide) (by decide) hs hpl
theorem ss_put3 (ir il is it iv irow : Nat) {iter elt : Expr} {scope : Scope} {yr yl ys yt yv yrow : Str} {pos spos p1 p2 p3 p4 p5 p6 p7 p8 p9 p10 p11 p12 : Pos} {mi : DI} {rest : List Stmt} {mr : DS}
    (hc : X.calm = true) (hN : X.N.Nodup) (ok : BlkOk X.N X.env.scope scope [(yrow, irow)]) (hi : DIt X W (.Name yrow p2) iter mi)
    (hg : InBlk X scope fun Y => PG Y (.Name yrow p2) (gName irow)) (he : InBlk X scope fun Y => PE Y elt (tCB (rLstOf X.K) (tCons (tVar irow) tNil)))
    (hsw : swapsWith (.ListComp elt [⟨.Name yrow p2, iter, [], 0⟩] scope pos) (some (.Name yr p1)) spos.line X.env = pure true)
    (hr : DSs X W B rest mr)
    (hyr : X.N[ir]? = some yr := by rfl) (hyl0 : X.env.scope.names.lookup yr = some .local := by rfl) (hs : ∀ x, foldedSetIterable iter X.env x = pure x := by intro _; rfl)
    (hyl : X.N[il]? = some yl := by rfl) (hyll : Loc X.env.scope yl := by first | exact Or.inl rfl | exact Or.inr rfl)
    (hfl : X.fn yl = true ∨ X.env.scope.names.lookup yl = some .local := by first | exact .inl rfl | exact .inr rfl | assumption)
    (p2a : PE X (.Name yr p4) (tVar ir)) (p2b : PE X (.Name ys p5) (tVar is)) (p3a : PE X (.Name yl p8) (tVar il)) (p3b : PE X (.Name yt p9) (tVar it)) (p3c : PE X (.Name yv p10) (tVar iv))
    (hBr : B ir = false := by rfl) (hBl : B il = false := by rfl)
    (hs2 : swapsWithSole [.Subscript (.Name yl p8) (.Name yt p9) p11] (.Name yv p10) p12.line X.env = pure false := by rfl) (hw2 : swappedStores [.Subscript (.Name yl p8) (.Name yt p9) p11] (.Name yv p10) X.env = pure none := by rfl)
    (hasg : ∀ v, assign (.Subscript (.Name yl p8) (.Name yt p9) p11) X.env v = (do
      let ov ← holding [v] (eval (.Name yl p8) X.env)
      let iv ← holding [v, ov] (eval (.Name yt p9) X.env)
      standAt p11
      holding [v, ov, iv] (setItem ov iv v)
      release [v, ov, iv] []) := by intro _; rfl) :
    DSs X W B (.Assign [.Name yr p1] (.ListComp elt [⟨.Name yrow p2, iter, [], 0⟩] scope pos) spos :: .Assign [.Name yl p3] (.Subscript (.Name yr p4) (.Name ys p5) p6) p7 :: .Assign [.Subscript (.Name yl p8) (.Name yt p9) p11] (.Name yv p10) p12 :: rest)
      (dSeq (dPut3 ir il is it iv irow mi) mr) := by
  obtain ⟨wi, p, s⟩ := hi
  obtain ⟨tr, pr, sr⟩ := hr
  refine ⟨_, pss_cons (ps_setLc hc hN hyr hyl0 hsw p ok hg (fun s H C cl fp => pts_nil) he hs) (pss_cons (ps_set hN hyl hyll (pe_ix ix_seq p2a p2b (fun _ _ => rfl)) (hf := hfl)) (pss_cons (ps_asg p3c (pg_sub p3a p3b set_list hasg) hs2 hw2) pr)), ?_⟩
  have core : SSem X W B (tSeq (tAsg (tLc wi (gName irow) tYes (tCB (rLstOf X.K) (tCons (tVar irow) tNil)) [irow]) (gName ir)) (tSeq (tAsg (tOp (rIx X.K) (tVar ir) (tVar is)) (gName il)) (tAsg (tVar iv) (gSub (tVar il) (tVar it) rSetL)))) (dPut3 ir il is it iv irow mi) := by
    intro O F σ H env Dn st g0
    refine s O F σ H env _ st ?_
    unfold dPut3 at g0
    cases q : mi env with
    | bad => rw [q] at g0; exact g0.elim
    | err x e => rw [q] at g0; exact fun F' H' c d e' s' r => g0 F' H' σ c d e' s' Keeps.refl r
    | ok xs env1 =>
    rw [q] at g0
    simp only [R.bind] at g0
    intro F1 H1 J E1 st1 wk Dl hD
    have smD : Same H1 (upd H1 Dl (.lst [])) := same_new hD
    split at g0
    case h_2 => exact g0.elim
    case h_1 rows a b d hrows hia hib hid =>
    split at g0
    case h_2 => exact g0.elim
    case h_1 j row hput =>
    split at g0
    case isFalse => exact g0.elim
    case isTrue hsz =>
    obtain ⟨hsz, hlr, hll, hlw⟩ := hsz
    obtain ⟨hlen, hget⟩ := rowsOf_get hrows
    have stB : StOk X.K O F1 H1 σ (backD env1 (wipeD env1 [irow]) [irow]) := StOk.back st1 (st1.wiped [irow]) Ext.refl wipeD_none
    have stR : StOk X.K O F1 H1 σ (((backD env1 (wipeD env1 [irow]) [irow]).set ir none).set il none) := stB.drop.drop
    have nOwn : ∀ i, ¬ OwnAt (((backD env1 (wipeD env1 [irow]) [irow]).set ir none).set il none) σ i Dl := fun i ⟨m, d, h1, h2, h3⟩ => by
      obtain ⟨a', ws, _, _, e2, e3, _⟩ := stR.own i m d h1 h2
      rw [h3] at e2; cases e2
      rw [hD] at e3; cases e3
    have nF1 : ¬ F1 Dl := fun f => st1.fdom Dl f hD
    have nO : ¬ O Dl := fun f => st1.odom Dl f hD
    refine ⟨fun i m H' => ∃ as : List Addr, m = xs.length - i ∧ i ≤ xs.length ∧ Same H1 H' ∧ H' Dl = some (.lst (as.map V.ref)) ∧ LsAt X.K F1 H1 H' Dl as (rows.take i),
      ⟨xs.length, [], by simp, Nat.zero_le _, smD, upd_same, ⟨by simp, List.nodup_nil, by simp, by simp⟩⟩, ?_⟩
    rintro i m H' ⟨as, rfl, hi', sm', hDl, ls⟩
    have E' : Ext O F1 H1 F1 H' := Ext.same sm' st1.odom
    obtain ⟨w1, w2⟩ := wk F1 H' (E'.mono fun _ z => z.elim) (st1.same sm').odom i
    cases hx : xs[i]? with
    | none =>
      left
      refine ⟨w2 hx, ?_⟩
      have hi2 : i = xs.length := by
        have := List.getElem?_eq_none_iff.mp hx
        omega
      subst hi2
      rw [← hlen, List.take_length] at ls
      -- the indices
      obtain ⟨va, hva, ra⟩ := stR.shr is _ hia
      obtain ⟨vb, hvb, rb⟩ := stR.shr it _ hib
      obtain ⟨vd, hvd, rd⟩ := stR.shr iv _ hid
      cases ra
      cases rb
      obtain ⟨na1, na2⟩ := none2 hia
      obtain ⟨nb1, nb2⟩ := none2 hib
      obtain ⟨nd1, nd2⟩ := none2 hid
      unfold putRows at hput
      cases hj : ixN rows.length a with
      | none => rw [hj] at hput; cases hput
      | some j' =>
      rw [hj] at hput
      simp only [Option.bind] at hput
      cases hrw : rows[j']? with
      | none => rw [hrw] at hput; cases hput
      | some row0 =>
      rw [hrw] at hput
      simp only [Option.map] at hput
      cases hk : ixN row0.length b with
      | none => rw [hk] at hput; cases hput
      | some k =>
      rw [hk] at hput
      cases hput
      have hjl : j < as.length := by rw [ls.len]; exact (List.getElem?_eq_some_iff.mp hrw).1
      obtain ⟨aj, haj⟩ : ∃ aj, as[j]? = some aj := ⟨_, List.getElem?_eq_getElem hjl⟩
      obtain ⟨ws, hws, rws⟩ := ls.at_ j aj row0 haj hrw
      have ajm : aj ∈ as := List.mem_of_getElem? haj
      obtain ⟨ajn, ajD⟩ := ls.new aj ajm
      -- lengths
      have lσ : ir < σ.length := by rw [st1.len]; exact hlr
      have lσl : il < σ.length := by rw [st1.len]; exact hll
      -- rows[spot]
      refine ⟨.ref Dl, List.getElem?_set_self lσ, .int a, by rw [List.getElem?_set_ne (Ne.symm na1)]; exact hva, ?_⟩
      refine .inl ⟨Dl, as.map V.ref, a, .ref aj, rfl, rfl, SqL.of hDl, ?_, ?_⟩
      · unfold atI
        rw [List.length_map, ls.len, hj]
        show (as.map V.ref)[j]? = _
        rw [List.getElem?_map, haj]
        try rfl
      -- line[slot] = sign
      refine ⟨vd, by rw [List.getElem?_set_ne (Ne.symm nd2), List.getElem?_set_ne (Ne.symm nd1)]; exact hvd, ?_⟩
      refine ⟨.ref aj, List.getElem?_set_self (by rw [List.length_set]; exact lσl), .int b, by rw [List.getElem?_set_ne (Ne.symm nb2), List.getElem?_set_ne (Ne.symm nb1)]; exact hvb, ?_⟩
      refine ⟨aj, ws, b, k, rfl, rfl, hws, by rw [rws.length]; exact hk, ?_⟩
      -- the end
      have sm2 : Same H1 (upd H' aj (.lst (ws.set k vd))) := fun c o e => by
        have hc : c ≠ aj := fun z => by subst z; rw [ajn] at e; cases e
        rw [upd_ne hc]; exact sm' c o e
      have new : ∀ x, (F1 x ∨ x ∈ as) → F1 x ∨ (H1 x = none ∧ (upd H' aj (.lst (ws.set k vd))) x ≠ none) := fun x hx => by
        rcases hx with hx | hx
        · exact .inl hx
        · refine .inr ⟨(ls.new x hx).1, ?_⟩
          by_cases e : x = aj
          · subst e; rw [upd_same]; exact nofun
          · rw [upd_ne e]
            obtain ⟨n, hn⟩ := List.getElem?_of_mem hx
            have hn2 : n < rows.length := by rw [← ls.len]; exact (List.getElem?_eq_some_iff.mp hn).1
            obtain ⟨ws', h, _⟩ := ls.at_ n x _ hn (List.getElem?_eq_getElem hn2)
            rw [h]; exact nofun
      obtain ⟨st2, E2⟩ := stR.grow (F2 := fun x => F1 x ∨ x ∈ as) sm2 (fun x h => .inl h) new
      have rd2 : Rep X.K (fun x => F1 x ∨ x ∈ as) (upd H' aj (.lst (ws.set k vd))) d vd := Rep.ext E2 d vd rd
      have E3 : Ext (fun _ => False) F1 H' (fun x => F1 x ∨ x ∈ as) (upd H' aj (.lst (ws.set k vd))) :=
        ⟨fun _ h => .inl h, fun c o f e => by rw [upd_ne (fun z => by subst z; exact st1.fdom _ f ajn)]; exact e,
         fun c o e => by rw [upd_ne (fun z => by subst z; rw [hws] at e; cases e)]; exact e,
         fun c o u e => by rw [upd_ne (fun z => by subst z; rw [hws] at e; cases e)]; exact e, fun _ z => z.elim, fun _ z => z.elim⟩
      have repAj : RepL X.K (fun x => F1 x ∨ x ∈ as) (upd H' aj (.lst (ws.set k vd))) (row0.set k d) (ws.set k vd) := RepL.set rd2 k (RepL.ext E3 row0 ws rws)
      have repRows : RepL X.K (fun x => F1 x ∨ x ∈ as) (upd H' aj (.lst (ws.set k vd))) ((rows.map D.lst).set j (.lst (row0.set k d))) (as.map V.ref) := by
        refine repL_of (by rw [List.length_set, List.length_map, List.length_map, ls.len]) fun n e v h1 h2 => ?_
        rw [List.getElem?_map] at h2
        cases hn : as[n]? with
        | none => rw [hn] at h2; cases h2
        | some an =>
        rw [hn] at h2
        cases h2
        by_cases e2 : n = j
        · subst e2
          rw [hn] at haj
          cases haj
          rw [List.getElem?_set_self (by rw [List.length_map, ← ls.len]; exact hjl)] at h1
          cases h1
          exact ⟨aj, _, rfl, .inr ajm, upd_same, repAj⟩
        · rw [List.getElem?_set_ne (Ne.symm e2), List.getElem?_map] at h1
          cases hr2 : rows[n]? with
          | none => rw [hr2] at h1; cases h1
          | some r2 =>
          rw [hr2] at h1
          cases h1
          obtain ⟨ws2, h3, h4⟩ := ls.at_ n an r2 hn hr2
          have hne : an ≠ aj := fun z => by subst z; exact e2 (nodup_ix ls.nd hn haj)
          exact ⟨an, ws2, rfl, .inr (List.mem_of_getElem? hn), by rw [upd_ne hne]; exact h3, RepL.ext E3 r2 ws2 h4⟩
      have hDl2 : (upd H' aj (.lst (ws.set k vd))) Dl = some (.lst (as.map V.ref)) := by rw [upd_ne (Ne.symm ajD)]; exact hDl
      have st3 := StOk.set (e := ⟨.own, .lst ((rows.map D.lst).set j (.lst (row0.set k d)))⟩) (v := .ref Dl) (i := ir) st2 ⟨Dl, _, _, rfl, rfl, hDl2, repRows, fun z => z.elim nF1 fun z => (ls.new Dl z).2 rfl, nO, nOwn⟩ lσ
      have st4 := StOk.set (e := ⟨.shr, .lst (row0.set k d)⟩) (v := .ref aj) (i := il) st3 ⟨aj, _, rfl, .inr ajm, upd_same, repAj⟩ (by rw [List.length_set]; exact lσl)
      exact g0 _ _ _ (E1.trans E2) st4 ((keeps_set hBr).trans (keeps_set hBl))
    | some d0 =>
      right
      obtain ⟨go, yl⟩ := w1 d0 hx
      have hlt : i < xs.length := (List.getElem?_eq_some_iff.mp hx).1
      obtain ⟨r0, rfl, hr0⟩ := hget i d0 hx
      refine ⟨go, fun H3 => ∃ as : List Addr, Same H1 H3 ∧ H3 Dl = some (.lst (as.map V.ref)) ∧ LsAt X.K F1 H1 H3 Dl as (rows.take (i + 1)), ?_, fun x H2 hy => ?_⟩
      · rintro H3 ⟨as3, s3, h3, l3⟩
        exact ⟨xs.length - (i + 1), by omega, as3, rfl, hlt, s3, h3, l3⟩
      · obtain ⟨sm, rx⟩ := yl x H2 hy
        obtain ⟨ax, xs0, rfl, tpx, rlx⟩ := rx
        have lw : irow < (wipe σ [irow]).length := by rw [wipe_length, st1.len]; exact hlw
        have kw : Keeps (notIn [irow]) (wipe σ [irow]) ((wipe σ [irow]).set irow (some (.ref ax))) := keeps_set (by simp [notIn])
        refine ⟨by rw [keeps_wipe kw, wipe_wipe], ?_⟩
        unfold tYes
        simp only [if_true]
        refine ⟨.ref ax, List.getElem?_set_self lw, ?_⟩
        refine ⟨ax, xs0, rfl, .inr tpx.sq, fun l hl => ?_⟩
        have sm12 : Same H1 H2 := fun c o e => sm _ _ (sm' c o e)
        have hD2 : H2 Dl = some (.lst (as.map V.ref)) := sm _ _ hDl
        have l1 : H1 l = none := by
          cases q : H1 l with
          | none => rfl
          | some o => rw [sm12 l o q] at hl; cases hl
        have lD : l ≠ Dl := fun z => by subst z; rw [hD2] at hl; cases hl
        have old : ∀ a ∈ as, ∃ ws, H2 a = some (.lst ws) := fun a ha => by
          obtain ⟨n, hn⟩ := List.getElem?_of_mem ha
          have hn2 : n < (rows.take i).length := by rw [← ls.len]; exact (List.getElem?_eq_some_iff.mp hn).1
          obtain ⟨ws, h, _⟩ := ls.at_ n a _ hn (List.getElem?_eq_getElem hn2)
          exact ⟨ws, sm _ _ h⟩
        have lA : l ∉ as := fun z => by
          obtain ⟨ws, h⟩ := old l z
          rw [h] at hl; cases hl
        have nF1' : ¬ F1 l := fun f => st1.fdom l f l1
        have EN : Ext (fun _ => False) F1 H2 F1 (upd (upd H2 l (.lst xs0)) Dl (.lst (as.map V.ref ++ [.ref l]))) :=
          ⟨fun _ h => h, fun c o f e => by rw [upd_ne (fun z => by subst z; exact nF1 f), upd_ne (fun z => by subst z; exact nF1' f)]; exact e,
           fun c o e => by rw [upd_ne (fun z => by subst z; rw [hD2] at e; cases e), upd_ne (fun z => by subst z; rw [hl] at e; cases e)]; exact e,
           fun c o u e => by rw [upd_ne (fun z => by subst z; rw [hD2] at e; cases e), upd_ne (fun z => by subst z; rw [hl] at e; cases e)]; exact e, fun _ z => z.elim, fun _ z => z.elim⟩
        have lasl : as.length = i := by rw [ls.len, List.length_take, hlen]; omega
        refine ⟨as.map V.ref, by rw [upd_ne (Ne.symm lD)]; exact hD2, by rw [List.length_map, lasl]; omega, as ++ [l], ?_, ?_, ?_⟩
        · intro c o e
          have c1 : c ≠ Dl := fun z => by subst z; rw [hD] at e; cases e
          have c2 : c ≠ l := fun z => by subst z; rw [l1] at e; cases e
          rw [upd_ne c1, upd_ne c2]; exact sm12 c o e
        · rw [upd_same, List.map_append]; rfl
        · have tk : rows.take (i + 1) = rows.take i ++ [r0] := by
            rw [List.take_add_one, hr0]; rfl
          rw [tk]
          refine ⟨by rw [List.length_append, List.length_append, ls.len]; rfl, List.nodup_append.mpr ⟨ls.nd, by simp, fun a ha b hb z => ?_⟩, fun a ha => ?_, fun n a r h1 h2 => ?_⟩
          · simp at hb; subst hb; subst z; exact lA ha
          · rcases List.mem_append.mp ha with ha | ha
            · exact ls.new a ha
            · simp at ha; subst ha; exact ⟨l1, lD⟩
          · have ltl : (rows.take i).length = i := by rw [← ls.len, lasl]
            by_cases hn : n < i
            · rw [List.getElem?_append_left (by rw [lasl]; exact hn)] at h1
              rw [List.getElem?_append_left (by rw [ltl]; exact hn)] at h2
              obtain ⟨ws, h3, h4⟩ := ls.at_ n a r h1 h2
              have am : a ∈ as := List.mem_of_getElem? h1
              exact ⟨ws, by rw [upd_ne (ls.new a am).2, upd_ne (fun z => lA (by subst z; exact am))]; exact sm _ _ h3, RepL.ext EN _ _ (repL_same sm h4)⟩
            · have hn2 : n = i := by
                have := (List.getElem?_eq_some_iff.mp h1).1
                rw [List.length_append, lasl] at this
                simp at this
                omega
              subst hn2
              rw [List.getElem?_append_right (by omega), lasl] at h1
              rw [List.getElem?_append_right (by omega), ltl] at h2
              simp at h1 h2
              subst h1 h2
              exact ⟨xs0, by rw [upd_ne lD, upd_same], RepL.ext EN _ _ rlx⟩
  refine sem_seq (t := tSeq (tAsg (tLc wi (gName irow) tYes (tCB (rLstOf X.K) (tCons (tVar irow) tNil)) [irow]) (gName ir)) (tSeq (tAsg (tOp (rIx X.K) (tVar ir) (tVar is)) (gName il)) (tAsg (tVar iv) (gSub (tVar il) (tVar it) rSetL)))) core sr
end
end DL
/-! DLT0: an error that is caught and kept: it becomes a thing that stands. -/
namespace DL
open PySem PySem.Spec PyProof.Rows L2

/-- an error object that is kept -/
abbrev excO (oe : Obj) : HO := .frz oe (.ext fun _ => True)
theorem adopt {X : Cx} {pins : List (Addr × Obj)} {σ : List (Option V)} {H : Hp} {s : Shared} {a : Addr} {oe : Obj} (I : L2.Inv X ((a, oe) :: pins) σ H s) (n0 : X.s_0.heap.get? a = none) (np : ∀ p ∈ X.pn ++ pins, p.1 ≠ a) : L2.Inv X pins σ (upd H a (excO oe)) s := by
  obtain ⟨g1, g2, g3, g4, g5⟩ := I.pin (a, oe) (List.mem_append.mpr (.inr List.mem_cons_self))
  simp only [] at g1 g2 g3 g4 g5
  have ne : ∀ {b : Addr} {u : HO}, H b = some u → b ≠ a := fun h z => by subst z; rw [g2] at h; cases h
  refine ⟨I.ok, I.os, I.bare, ?_, I.loc, I.cell, ?_, ?_, ?_, ?_, I.len⟩
  · refine ⟨I.base.keep, I.base.slot, fun b o h1 h2 h3 => ?_, I.base.there, fun b xs h => ?_, fun b o u h => ?_, fun b ps h => ?_⟩
    · rw [upd_ne (fun z => by subst z; rw [n0] at h1; cases h1)]; exact I.base.free b o h1 h2 h3
    · have := I.base.tups b xs h
      rw [upd_ne (ne this)]; exact this
    · have := I.base.frzs b o u h
      rw [upd_ne (ne this)]; exact this
    · obtain ⟨more, this⟩ := I.base.tbls b ps h
      exact ⟨more, by rw [upd_ne (ne this)]; exact this⟩
  · rw [upd_ne (Ne.symm g3)]; exact I.free
  · intro x c hc
    rw [upd_ne (fun z => ?_)]
    · exact I.freeC x c hc
    · subst z
      obtain ⟨v, o, h1, h2⟩ := I.cell x c hc
      rw [g1] at h1
      cases h1
      exact g5 _ h2
  · intro p hp
    obtain ⟨k1, k2, k3⟩ := I.pin p (by
      rcases List.mem_append.mp hp with h | h
      · exact List.mem_append.mpr (.inl h)
      · exact List.mem_append.mpr (.inr (List.mem_cons_of_mem _ h)))
    exact ⟨k1, by rw [upd_ne (np p hp)]; exact k2, k3⟩
  · intro b o hb
    by_cases e : b = a
    · subst e
      rw [upd_same] at hb
      cases hb
      simp only [ObjOk]
      exact ⟨g1, trivial, ⟨oe, g1⟩, fun _ _ _ _ => trivial⟩
    · rw [upd_ne e] at hb
      exact (I.hok b o hb).stay (fun _ _ _ h => h) (fun c hc => by rw [upd_ne (ne hc)]; exact hc) (fun c xs hc => by rw [upd_ne (ne hc)]; exact hc)

def wKeep (K : PySem.W.Frag) (c : Value) (i : Nat) (ts : Addr → Value → Option Addr → TS) (D : Ends) : WX := fun cls d σ H => PySem.W.exmOne K cls c = some true ∧ ∀ a oe, H a = none → Zc cls d oe → (∃ vs, oe.data = .fields vs) →
  ts a cls d { nx := fun σ' H' => D.nx (List.set σ' i none) (upd H' a (excO oe)), rt := fun v H' => D.rt v (upd H' a (excO oe)), bk := fun σ' H' => D.bk (List.set σ' i none) (upd H' a (excO oe)), ct := fun σ' H' => D.ct (List.set σ' i none) (upd H' a (excO oe)) } (List.set σ i (some (V.ref a))) H

theorem ps_try_keep {X : Cx} {x n : Str} {c : Value} {i : Nat} {body suite : List Stmt} {b₀ : Stmt} {np pos pos' : Pos} {tb : WX → TS} {ts : Addr → Value → Option Addr → TS} (hs : X.stack = X.env :: X.outer) (hf : X.env.frame = some X.env.locals) (hex : X.ex = []) (hN : X.N.Nodup) (hi : X.N[i]? = some n) (hln : X.env.kindOf n = some .local) (hc : Names X x c)
    (hb : ∀ (W : WX) (pn : List (Addr × Obj)) (xe : Value → Shared → Prop), L2.Takes (X.tr pn xe) W → PassesOwn (model X.prog X.w) X.A X.env xe → PSs (X.tr pn xe) body (tb W))
    (hsu : ∀ (a : Addr) (oe : Obj) (cls : Value) (d : Option Addr) (pn : List (Addr × Obj)), Zc cls d oe → (∃ vs, oe.data = Data.fields vs) → PSs (X.suite a ((a, oe) :: pn)) (b₀ :: suite) (ts a cls d)) :
    PS X (.Try body [.ExceptHandler (some (.Name x np)) (some n) (b₀ :: suite) pos'] [] [] pos) (fun D σ H => tb (wKeep X.K c i ts D) D σ H) := by
  refine ⟨fun pins s σ H D I h => ?_⟩
  have ok := I.ok
  have hfr : X.A.frames = some (X.env :: X.outer) := by rw [ok.frames, hs]
  have hloc : L2.Loc X.env.scope n := Or.inl hln
  let xe : Value → Shared → Prop := fun e s₁ => wpAny (model X.prog X.w) X.A (noteFrame e X.env) (fun _ s₂ => wpAny (model X.prog X.w) X.A (setFlight e none) (fun _ s₃ => wpAny (model X.prog X.w) X.A (handleBy e X.env [.ExceptHandler (some (.Name x np)) (some n) (b₀ :: suite) pos']) (SP X pins D) X.xe s₃) X.xe s₂) X.xe s₁
  refine wpAny_Try_except (wpAny_mono ((hb (wKeep X.K c i ts D) (X.pn ++ pins) xe (fun u s' xx => ?_) PassesOwn.looking).run [] s σ H D (I.toTry xe) h) (fun f s1 hsp => ?_) fun e s1 he => he)
  · obtain ⟨a, B, sI, pins', σ', H', cls, d, rfl, J', nb, up, sky, na, os, ag, hb1, hyes⟩ := xx
    have J := Inv.ofTry J' ok
    have sky' : Sky B (X.env :: X.outer) a (Zc cls d) X.env.locals s'.heap := by rw [← hs]; exact sky
    refine sky'.land Zc.steady hfr hf fun h3 fl3 up3 => ?_
    have J3 : L2.Inv X pins σ' H' { heap := h3, gens := s'.gens, drawn := s'.drawn, toks := s'.toks, os := s'.os } := Inv.landed J nb fl3.1 (up.trans up3) os ag
    obtain ⟨oe3, vs3, he3, hz3, hd3⟩ := fl3.there
    have nfr : a ∉ frs (X.env :: X.outer) := fun hm => by
      obtain ⟨_, o', e', hnf⟩ := Heap.FunFrames.mem fl3.2.2.1 hm
      rw [he3] at e'
      cases e'
      exact hnf vs3 hd3
    have nL : a ≠ X.env.locals := fun z => nfr (List.mem_filterMap.mpr ⟨X.env, List.mem_cons_self, by rw [hf, z]⟩)
    have nF : a ∉ X.fs := fun hm => by
      obtain ⟨e, he, q⟩ := List.mem_filterMap.mp hm
      exact nfr (List.mem_filterMap.mpr ⟨e, List.mem_cons_of_mem _ he, q⟩)
    have S3 := Inv.suite J3 he3 hd3 na nL nF
    have newB : B.get? a = none := fl3.2.1
    have newI : sI.heap.get? a = none := by
      cases q : sI.heap.get? a with
      | none => rfl
      | some o =>
        have := nb a o q (by show a ∉ frs X.stack; rw [hs]; exact nfr)
        rw [newB] at this; cases this
    have new0 : X.s_0.heap.get? a = none := by
      cases q : X.s_0.heap.get? a with
      | none => rfl
      | some o =>
        obtain ⟨o', h⟩ := J.base.there a o q (by rw [hex]; simp)
        rw [newI] at h; cases h
    have npp : ∀ p ∈ X.pn ++ pins, p.1 ≠ a := fun p hp z => by
      have := (J.pin p hp).1
      rw [z, newI] at this; cases this
    have LT : PySem.W.Looks (model X.prog X.w) h3 (typeOf (.ref a)) cls := fun A Q E s k q => wpAny_typeOf_ref (k a oe3 he3) (by rw [hz3.1]; exact q)
    have LM := PySem.W.exm_one (Inv.kIn J3) LT hb1
    refine wpAny_handleBy_cons (codeAny_handlers_test ?_) (fun q => by cases q)
    have test : ∀ {Q : Value → Shared → Prop} {E : Value → Shared → Prop}, Q c { heap := h3, gens := s'.gens, drawn := s'.drawn, toks := s'.toks, os := s'.os } → wpAny (model X.prog X.w) (X.A.mark (some (.ref a))) (eval (.Name x np) X.env) Q E { heap := h3, gens := s'.gens, drawn := s'.drawn, toks := s'.toks, os := s'.os } := fun q => by
      obtain ⟨hg, hdbg, hm | ⟨hm, hv, hnn⟩⟩ := hc
      · exact ld_glob S3 hg hm q hdbg
      · exact ld_blt S3 hg hm hv q hnn hdbg
    refine test (PySem.W.Looks.here LM ?_)
    simp only [if_true]
    refine codeAny_handlers_suite_as (PySem.HandSPX.lands_againZ fl3 fun h4 fl4 up4 => ?_)
    have J4 : L2.Inv X pins σ' H' { heap := h4, gens := s'.gens, drawn := s'.drawn, toks := s'.toks, os := s'.os } := Inv.landed J nb fl4.1 ((up.trans up3).trans up4) os ag
    obtain ⟨oe4, vs4, he4, hz4, hd4⟩ := fl4.there
    have S4 := Inv.suite J4 he4 hd4 na nL nF
    refine store_ok (X := X.suite a ((a, oe4) :: (X.pn ++ pins))) S4 hN hi hloc (show L2.RelV (V.ref a) (Value.ref a) from rfl) (fun s5 S5 => ?_) (Or.inr hln)
    refine wpAny_mono ((hsu a oe4 cls d (X.pn ++ pins) hz4 ⟨vs4, hd4⟩).run [] s5 (List.set σ' i (some (.ref a))) H' _ S5 (hyes a oe4 na hz4 ⟨vs4, hd4⟩)) (fun f s6 hsp => ?_) (fun _ _ z => z.elim)
    have end_ : ∀ {σ6 : L2.St} {H6 : Hp} {Q : Unit → Shared → Prop}, L2.Inv (X.suite a ((a, oe4) :: (X.pn ++ pins))) [] σ6 H6 s6 → (∀ s7, L2.Inv X pins (List.set σ6 i none) (upd H6 a (excO oe4)) s7 → Q () s7) →
        wpAny (model X.prog X.w) X.A (do bindName X.env n .none; unbindBehindTheSuite X.env n pos') Q X.xe s6 := fun S6 hq => by
      have U := Inv.unsuite S6 ok
      have U2 : L2.Inv X ((a, oe4) :: pins) _ _ s6 := { U with pin := fun p hp => S6.pin p (List.mem_append.mpr (.inl (by
        rcases List.mem_append.mp hp with h | h
        · exact List.mem_cons_of_mem _ (List.mem_append.mpr (.inl h))
        · rcases List.mem_cons.mp h with h | h
          · rw [h]; exact List.mem_cons_self
          · exact List.mem_cons_of_mem _ (List.mem_append.mpr (.inr h))))) }
      exact gone_ok U2 hN hi hln fun s7 J7 => hq s7 (adopt J7 new0 npp)
    match f, hsp with
    | .next, ⟨σ6, H6, S6, q6⟩ => exact end_ S6 fun s7 J7 => ⟨_, _, J7, q6⟩
    | .brk, ⟨σ6, H6, S6, q6⟩ => exact end_ S6 fun s7 J7 => ⟨_, _, J7, q6⟩
    | .cont, ⟨σ6, H6, S6, q6⟩ => exact end_ S6 fun s7 J7 => ⟨_, _, J7, q6⟩
    | .ret u, ⟨v6, σ6, H6, S6, r6, q6⟩ => exact end_ S6 fun s7 J7 => ⟨v6, _, _, J7, r6, q6⟩
  · match f, hsp with
    | .next, ⟨σ', H', J', q⟩ => exact wpAny_execs_nil ⟨σ', H', Inv.ofTry J' ok, q⟩
    | .brk, ⟨σ', H', J', q⟩ => exact ⟨σ', H', Inv.ofTry J' ok, q⟩
    | .cont, ⟨σ', H', J', q⟩ => exact ⟨σ', H', Inv.ofTry J' ok, q⟩
    | .ret u, ⟨v, σ', H', J', r, q⟩ => exact ⟨v, σ', H', Inv.ofTry J' ok, r, q⟩

section
open PySem.W PySem.Calls
variable {prog : Program} {w : World} {A : Around} {E : Value → Shared → Prop} {s : Shared} {K : Frag} {x D : Addr} {ox : Obj} {od : Option Obj}
theorem findObj_dataD {C : Addr} {name : Str} {a g : Value} (hc : (clsIn K C).isSome = true) (ha : findIn K (.ref C) name = some (some a)) (hg : specialIn K a "__get__" = some (some g)) (ht : takesIn K a = some true) : findObj K C od name = some (.bind g a) := by
  obtain ⟨cd, hc⟩ := Option.isSome_iff_exists.mp hc
  unfold findObj
  rw [hc, Option.bind_some, ha, Option.bind_some]
  simp [hg, ht]
theorem kin_classD {Q : Option Value → Shared → Prop} (hga : findIn K (.ref D) "__getattribute__" = some (some (.builtin "BaseException.__getattribute__"))) (hgt : findIn K (.ref D) "__getattr__" = some none) (hsub : subIn K (.ref D) (.type "BaseException") = some true)
    (hdct : hasDictIn K D = true) (ha : findIn K (.ref D) "__class__" = some (some (.builtin "object.__class__")))
    (hn : specialIn K (.builtin "object.__class__") "__get__" = some (some (.builtin "getset_descriptor.__get__"))) (htk : takesIn K (.builtin "object.__class__") = some true) (hm : mroIn K D (.type "object") = some true)
    (X : K.In s.heap) (I : InstAt s.heap x ox D od) (h : Q (some (.ref D)) { s with toks := s.toks + 1 }) : wpAny (model prog w) A (getAttr? (.ref x) "__class__") Q E s := by
  have hf : findObj K D od "__class__" = some (.bind (.builtin "getset_descriptor.__get__") (.builtin "object.__class__")) := findObj_dataD (by obtain ⟨cd, hc, _⟩ := any_some hdct; rw [hc]; rfl) ha hn htk
  obtain ⟨hp, g, d, t, os⟩ := s
  have L0 := I.type (M := model prog w)
  have L1 := looks_findIn (M := model prog w) X hga
  have L2 := looks_findIn (M := model prog w) X hgt
  have L3 := looks_find (M := model prog w) X I hf
  have sub : Looks (model prog w) hp (isInstance (.ref x) (.type "BaseException")) true := L0.andThen (looks_subIn X hsub)
  have hx0 : (false && onTheHeap (Value.builtin "BaseException.__getattribute__")) = false := rfl
  have hx2 : (Value.builtin "BaseException.__getattribute__" == Value.builtin "object.__getattribute__") = false := by decide +kernel
  have hx1 : (onTheHeap (Value.ref D) && Value.builtin "BaseException.__getattribute__" == Value.builtin "object.__getattribute__") = false := by rw [hx2]; rfl
  unfold getAttr? getAttrBy? getAttrBy
  refine wpAny_bind (wpAny_mkText (wpAny_bind (wpAny_attempt (wpAny_holding (wpAny_bind (L0.at (wpAny_bind (L1.at ?_))))))))
  show wpAny _ _ (if (onTheHeap (Value.ref D) && Value.builtin "BaseException.__getattribute__" == Value.builtin "object.__getattribute__") = true then _ else _) _ _ _
  rw [hx1, if_neg Bool.false_ne_true]
  unfold getAttrByItsOwn hookBefore
  refine wpAny_bind ?_
  rw [if_pos (show onTheHeap (Value.ref D) = true from rfl)]
  refine L2.at ?_
  refine wpAny_bind (wpAny_attempt (wpAny_holding ?_))
  unfold callGetattribute
  rw [hx0, if_neg Bool.false_ne_true]
  unfold boundAndCalled
  rw [PySem.F.excAttr_ValueError.ga.bind (.ref x)]
  refine wpAny_bind (wpAny_pure ?_)
  show wpAny _ _ (call (.builtin "BaseException.__getattribute__") [.ref x, .str "__class__" t]) _ _ _
  refine wpAny_call (codeAny_call_builtin PySem.F.excAttr_ValueError.ga.plain PySem.F.entry_bexc_ga ?_)
  refine @check_slot (model prog w) _ _ ⟨hp, g, d, t + 1, os⟩ "BaseException.__getattribute__" "BaseException" "__getattribute__" (.ref x) [.str "__class__" t] [] _ (by decide +kernel) (by decide +kernel) sub (PySem.F.args_bexc_ga (.ref x) (.str "__class__" t)) ?_
  unfold Builtin.«object.__getattribute__»
  refine wpAny_bind (wpAny_of_eq (a := ((Value.ref x : Value), [Value.str "__class__" t])) (by first | rfl | (simp only [slotArgs]; rfl)) ?_)
  refine wpAny_bind (wpAny_pure (wpAny_bind (L0.at (wpAny_bind (L3.at ?_)))))
  show wpAny _ _ (holding [Value.builtin "object.__class__"] (call (.builtin "getset_descriptor.__get__") [.builtin "object.__class__", .ref x, .ref D]) >>= ret) _ _ _
  refine wpAny_bind (wpAny_holding (wpAny_call (class_get (s := ⟨hp, g, d, t + 1, os⟩) (ox := ox) (od := od) X I hm ?_)))
  refine wpAny_pure ?_
  show wpAny _ _ (handedOut (.ref D)) _ _ _
  rw [handedOut_of (v := .ref D) rfl]
  first
    | exact wpAny_pure (wpAny_pure h)
    | exact wpAny_pure h
    | exact wpAny_pure (wpAny_bind (wpAny_pure (wpAny_pure h)))
theorem kitx_excD (hga : findIn K (.ref D) "__getattribute__" = some (some (.builtin "BaseException.__getattribute__"))) (hgt : findIn K (.ref D) "__getattr__" = some none) (hsub : subIn K (.ref D) (.type "BaseException") = some true) (hdct : hasDictIn K D = true) (ha : findIn K (.ref D) "__class__" = some (some (.builtin "object.__class__")))
    (hn : specialIn K (.builtin "object.__class__") "__get__" = some (some (.builtin "getset_descriptor.__get__"))) (htk : takesIn K (.builtin "object.__class__") = some true) (hm : mroIn K D (.type "object") = some true) :
    KitX K (.ref x) (.ref D) (fun h => InstAt h x ox D od) where
  ty := fun _ _ _ I => I.type
  it := fun _ _ X _ => by
    obtain ⟨cdD, hcD, _⟩ := any_some hdct
    unfold clsIn at hcD
    split at hcD
    · rename_i c' d' cd' sl' ho
      intro A' Q' E' s' k q
      unfold isType loadHead
      exact wpAny_bind (wpAny_loadPart (k _ _ (X _ _ ho)) (wpAny_pure q))
    · cases hcD
  ne := fun h tp dd its n sl X htp => by
    obtain ⟨cdD, hcD, _⟩ := any_some hdct
    refine Bool.eq_false_iff.mpr fun q => ?_
    have e : D = tp := Value.ref.inj (beq_iff_eq.mp q)
    subst e
    unfold clsIn at hcD
    split at hcD
    · rename_i c' d' cd' sl' ho
      have z := (X _ _ ho).symm.trans htp
      cases z
    · cases hcD
  ca := fun X I k => kin_classD hga hgt hsub hdct ha hn htk hm X I k
end
/-- isinstance of an error that is kept -/
def rIsX (K : PySem.W.Frag) : List V → Hp → VK → Prop := fun xs H Q => ∃ (a D : Addr) (oe : Obj) (u : HO) (c : V) (cv : Value) (b : Bool), xs = [V.ref a, c] ∧ H a = some (.frz oe u) ∧ L2.ExcC K D ∧ (∃ d, Zc (.ref D) d oe ∧ DictAt H d) ∧ (∃ vs, oe.data = Data.fields vs) ∧ (∀ w : Value, RelV c w → w = cv) ∧ PySem.W.kitOne K (.ref D) cv = some b ∧ Q (.bl b) H
theorem call_isX {X : Cx} : CallR X (.builtin "isinstance") (rIsX X.K) := fun pins s σ H xs us Q I r h => by
  obtain ⟨a, D, oe, u, c, cv, b, rfl, ha, C, ⟨d, hz, hdt⟩, ⟨vs, hv⟩, hcv, hk, q⟩ := h
  cases r with
  | cons rx rr =>
  cases rr with
  | cons rt rr =>
  cases rr
  cases (show _ = Value.ref a from rx)
  have e := hcv _ rt
  subst e
  have hg := (I.hok a _ ha)
  simp only [ObjOk] at hg
  obtain ⟨oX, J⟩ : ∃ oX, PySem.W.InstAt s.heap a oe D oX := by
    obtain ⟨oc, od, oda, osl⟩ := oe
    obtain ⟨h1, h2⟩ := hz
    simp only [] at h1 h2 hv
    subst h1 h2 hv
    cases od with
    | none => exact ⟨none, hg.1, rfl, rfl, trivial⟩
    | some dx =>
      obtain ⟨od, u', hd⟩ := hdt dx rfl
      have hg2 := I.hok dx _ hd
      simp only [ObjOk] at hg2
      exact ⟨some od, hg.1, rfl, rfl, hg2.1⟩
  refine PySem.W.kia_one (kitx_excD (ox := oe) (od := oX) C.hg C.hk C.hs C.hd C.ha C.hn C.ht C.hm) (Inv.kIn I) J hk (fun z => by cases z) fun tk => ?_
  exact ⟨.bl b, H, I.kept (t' := tk) fun _ _ e => e, rfl, q⟩
end DL
/-! DLT1: try: .. except E as e: kept = e; isinstance of an error. -/
namespace DL
open PySem PySem.Spec PyProof.Rows L2

/-- a class of the program, by its name -/
structure XcT (K : PySem.W.Frag) (mg : Str → Option Value) (c : Str) where
  C : Addr
  n : PySem.W.nsIn K mainGlobals c = some (some (.ref C))
  g : mg c = some (.ref C)
/-- a class that is raised -/
structure XcR (K : PySem.W.Frag) (C : Addr) : Prop where
  q : PySem.W.excIn K C [.type "ValueError", .type "Exception", .type "BaseException", .type "object"] "ValueError.__new__" = true
  k : PySem.W.keepIn K (.ref C) = true
  r1 : PySem.W.subIn K (.ref C) (.type "BaseException") = some true
  r2 : PySem.W.typeIn K (.ref C) = some (.type "type")
theorem kit_own {K : PySem.W.Frag} {C Y : Addr} {b : Bool} (h2 : PySem.W.isClsIn K Y = true) (h3 : PySem.W.typeIn K (.ref Y) = some (.type "type")) (h0 : PySem.W.subIn K (.ref C) (.ref C) = some true) (h4 : PySem.W.subIn K (.ref C) (.ref Y) = some b) : PySem.W.kitOne K (.ref C) (.ref Y) = some b := by
  have e2 : ((PySem.W.clsIn K Y).isSome && PySem.W.typeIn K (.ref Y) == some (.type "type")) = true := by
    have h2' : (PySem.W.clsIn K Y).isSome = true := h2
    rw [h2', h3] <;> rfl
  show (if (Value.ref C == Value.ref Y) = true then some true else (if ((PySem.W.clsIn K Y).isSome && PySem.W.typeIn K (.ref Y) == some (.type "type")) = true then PySem.W.subIn K (.ref C) (.ref Y) else none)) = some b
  by_cases q : (Value.ref C == Value.ref Y) = true
  · rw [if_pos q]
    have e : Value.ref C = Value.ref Y := beq_iff_eq.mp q
    cases e
    rw [h0] at h4
    exact h4
  · rw [if_neg q, if_pos e2]
    exact h4
theorem kit_blt {K : PySem.W.Frag} {C : Addr} {T : String} {b : Bool} (hT : PySem.W.kitMeta T = true) (h4 : PySem.W.subIn K (.ref C) (.type T) = some b) : PySem.W.kitOne K (.ref C) (.type T) = some b := by
  have e : (Value.ref C == Value.type T) = false := by
    cases q : (Value.ref C == Value.type T) with
    | false => rfl
    | true =>
      have : Value.ref C = Value.type T := beq_iff_eq.mp q
      cases this
  show (if (Value.ref C == Value.type T) = true then some true else (if PySem.W.kitMeta T = true then PySem.W.subIn K (.ref C) (.type T) else none)) = some b
  rw [e, if_neg Bool.false_ne_true, if_pos hT]
  exact h4
theorem exm_own {K : PySem.W.Frag} {C Y : Addr} (h1 : PySem.W.subIn K (.ref Y) (.type "BaseException") = some true) (h2 : PySem.W.isClsIn K Y = true) (h3 : PySem.W.typeIn K (.ref Y) = some (.type "type")) (h4 : PySem.W.subIn K (.ref C) (.ref Y) = some true) : PySem.W.exmOne K (.ref C) (.ref Y) = some true := by
  have e1 : (PySem.W.subIn K (.ref Y) (.type "BaseException") == some true) = true := by rw [h1] <;> rfl
  have e2 : ((PySem.W.clsIn K Y).isSome && PySem.W.typeIn K (.ref Y) == some (.type "type")) = true := by
    have h2' : (PySem.W.clsIn K Y).isSome = true := h2
    rw [h2', h3] <;> rfl
  show (if (PySem.W.subIn K (.ref Y) (.type "BaseException") == some true) = true then (if ((PySem.W.clsIn K Y).isSome && PySem.W.typeIn K (.ref Y) == some (.type "type")) = true then PySem.W.subIn K (.ref C) (.ref Y) else none) else none) = some true
  rw [if_pos e1, if_pos e2]
  exact h4
section
variable {X : Cx} {W : WX} {B : Bs}
def tOfS (X : Cx) (W : WX) (B : Bs) (m : DS) : TS := fun D σ H => ∃ O F env, StOk X.K O F H σ env ∧ SGoal X W B O F σ H D (m env)
theorem DSs.ps {sts : List Stmt} {m : DS} (h : DSs X W B sts m) : PSs X sts (tOfS X W B m) := by
  obtain ⟨t, p, s⟩ := h
  exact ⟨fun pins s0 σ H D I ⟨O, F, env, st, g⟩ => p.run pins s0 σ H D I (s O F σ H env D st g)⟩
def dTry (ok : List Str) (i j : Nat) (body : DS) : DS := fun env => match body env with
  | .ok fl env1 => .ok fl env1
  | .err x env1 => if ok.contains x.c = true ∧ i < env1.length ∧ j < env1.length then .ok .nx ((env1.set i none).set j (some ⟨.shr, .exc x.c []⟩)) else .bad
  | .bad => .bad
theorem StOk.wild {K : PySem.W.Frag} {O F : Fz} {H : Hp} {σ : L2.St} {env : DEnv} (s : StOk K O F H σ env) {i : Nat} (o : Option V) (h : ∀ x, env[i]? ≠ some (some x)) : StOk K O F H (σ.set i o) env := by
  have g : ∀ {j : Nat} {x : Ent}, env[j]? = some (some x) → (σ.set i o)[j]? = σ[j]? := fun {j x} q => by
    rw [List.getElem?_set_ne (fun z => by subst z; exact h x q)]
  refine ⟨by rw [List.length_set]; exact s.len, fun j d q => ?_, fun j m d q n => ?_, fun j k a ⟨m, d, h1, h2, h3⟩ ⟨m', d', k1, k2, k3⟩ => ?_, s.fdom, s.odom⟩
  · obtain ⟨v, h1, h2⟩ := s.shr j d q
    exact ⟨v, by rw [g q]; exact h1, h2⟩
  · obtain ⟨a, vs, ds, h1, h2, h3⟩ := s.own j m d q n
    exact ⟨a, vs, ds, h1, by rw [g q]; exact h2, h3⟩
  · rw [g h1] at h3
    rw [g k1] at k3
    exact s.inj j k a ⟨m, d, h1, h2, h3⟩ ⟨m', d', k1, k2, k3⟩
theorem set_none_at {l : DEnv} {i : Nat} : ∀ x, (l.set i none)[i]? ≠ some (some x) := fun x q => by
  by_cases hl : i < l.length
  · rw [List.getElem?_set_self hl] at q; cases q
  · rw [List.getElem?_eq_none (by simpa using hl)] at q; cases q
theorem s_tryKeep (i j : Nat) {ok : List Str} {x n m : Str} {c : Value} {body : List Stmt} {mb : DS} {np pe pm pa pos pos' : Pos} (hij : i ≠ j) (hN : X.N.Nodup) (hc : Names X x c)
    (hb : ∀ (W' : WX) (pn : List (Addr × Obj)) (xe : Value → Shared → Prop), L2.Takes (X.tr pn xe) W' → PassesOwn (model X.prog X.w) X.A X.env xe → DSs (X.tr pn xe) W' B body mb)
    (hok : ∀ y ∈ ok, ∃ C, X.mg y = some (.ref C) ∧ PySem.W.nsIn X.K mainGlobals y = some (some (.ref C)) ∧ PySem.W.exmOne X.K (.ref C) c = some true)
    (hs : X.stack = X.env :: X.outer := by rfl) (hf : X.env.frame = some X.env.locals := by rfl) (hex : X.ex = [] := by rfl) (hi : X.N[i]? = some n := by rfl) (hln : X.env.kindOf n = some .local := by rfl) (hj : X.N[j]? = some m := by rfl) (hlm : L2.Loc X.env.scope m := by first | exact Or.inl rfl | exact Or.inr rfl)
    (hvn : Vis X.env.scope n := by first | exact Or.inl rfl | exact Or.inr (Or.inl rfl) | exact Or.inr (Or.inr rfl)) (hd : (n == ("__debug__" : Str)) = false := by decide) (hcd : (n == ("__classdict__" : Str)) = false := by decide)
    (hfm : X.fn m = true ∨ X.env.scope.names.lookup m = some .local := by first | exact .inl rfl | exact .inr rfl | assumption)
    (hsw : ∀ (a : Addr) (pn : List (Addr × Obj)), swapsWithSole [.Name m pm] (.Name n pe) pa.line X.env = pure false := by intro _ _; rfl)
    (hBi : B i = false := by rfl) (hBj : B j = false := by rfl) :
    DSt X W B (.Try body [.ExceptHandler (some (.Name x np)) (some n) [.Assign [.Name m pm] (.Name n pe) pa] pos'] [] [] pos) (dTry ok i j mb) := by
  refine ⟨_, ps_try_keep (ts := fun _ _ _ => tAsg (tVar i) (gName j)) (tb := fun W' => tOfS X W' B mb) hs hf hex hN hi hln hc (fun W' pn xe tk po => (hb W' pn xe tk po).ps) (fun a oe cls d pn hz hfl => pss_one (ps_set (X := X.suite a ((a, oe) :: pn)) hN hj hlm (pe_var (X := X.suite a ((a, oe) :: pn)) hi hvn hd hcd) (hf := hfm))), fun O F σ H env Dn st g => ?_⟩
  refine ⟨O, F, env, st, ?_⟩
  unfold dTry at g
  cases q : mb env with
  | bad => rw [q] at g; exact g.elim
  | ok fl env1 =>
    rw [q] at g
    cases fl <;> exact g
  | err y env1 =>
    rw [q] at g
    simp only [] at g
    split at g
    case isFalse => exact g.elim
    case isTrue hcond =>
    obtain ⟨hin, hl1, hl2⟩ := hcond
    intro F' H' σ' cls d E s' kp er
    obtain ⟨C, hC, rfl, hfs, rfl⟩ := er
    obtain ⟨C', h1, h2, h3⟩ := hok y.c (by simpa using hin)
    rw [hC] at h1
    cases h1
    refine ⟨h3, fun a oe ha hz hfl => ?_⟩
    refine ⟨.ref a, List.getElem?_set_self (by rw [s'.len]; exact hl1), ?_⟩
    have sm : Same H' (upd H' a (excO oe)) := same_new ha
    have s2 := (s'.same sm).drop (i := i)
    have s3 := s2.wild (some (V.ref a)) set_none_at
    have s4 := StOk.set (e := ⟨.shr, .exc y.c []⟩) (v := .ref a) (i := j) s3 ⟨[], a, oe, _, C, none, RepL.nil, DictAt.none, rfl, upd_same, h2, hz, hfl⟩ (by rw [List.length_set, s'.len]; exact hl2)
    have s5 := s4.wild (i := i) none (fun z q => by
      rw [List.getElem?_set_ne (Ne.symm hij)] at q
      exact set_none_at z q)
    exact g F' (upd H' a (excO oe)) _ (E.trans (Ext.same sm s'.odom)) s5 (((kp.trans (keeps_set hBi)).trans (keeps_set hBj)).trans (keeps_set hBi))

/-! ### isinstance of an error -/
theorem dataErr {fs : List D} {o : Obj} (h : ∀ r : List D, fs = .non :: r → False) (k : DataOk fs o) : ∃ vs, o.data = Data.fields vs := by
  cases fs with
  | nil => exact k
  | cons x r =>
    cases x with
    | non => exact (h r rfl).elim
    | _ => exact k
/-- R: the classes that are raised; all: every one of them stands under y -/
def pIsO (R : List Str) (y : Str) (all : Bool) : Pr := fun ds => match ds with
  | [.exc _ (.non :: _)] => none
  | [.exc c _] => if R.contains c = true then some (.d (.bl (all || c == y))) else none
  | _ => none
structure YT (K : PySem.W.Frag) (R : List Str) (y : Str) (all : Bool) (cv : Value) : Prop where
  t : ∀ c ∈ R, ∀ C, PySem.W.nsIn K mainGlobals c = some (some (.ref C)) → PySem.W.kitOne K (.ref C) cv = some (all || c == y)
theorem pr_isO {K : PySem.W.Frag} {R : List Str} {y : Str} {all : Bool} {cv : Value} {cV : V} (hcv : ∀ w : Value, RelV cV w → w = cv) (hE : ∀ c ∈ R, ∀ C, PySem.W.nsIn K mainGlobals c = some (some (.ref C)) → L2.ExcC K C) (T : YT K R y all cv) :
    PrimR K (pIsO R y all) (fun vs H Q => match vs with | [x] => rIsX K [x, cV] H Q | _ => False) := fun F H ds vs Q pr fd rt e q => by
  unfold pIsO at e
  split at e
  · cases e
  · rename_i c fs0 hne
    obtain ⟨v, _, rfl, h1, rfl⟩ := rt
    obtain ⟨fv, a, o, u, C, dq, rfv, hfd, rfl, ha, hn, hz, hv⟩ := h1
    split at e
    · rename_i hR
      cases e
      have hR' : c ∈ R := by simpa using hR
      exact ⟨a, C, o, u, cV, cv, _, rfl, ha, hE c hR' C hn, ⟨dq, hz, hfd.dict⟩, dataErr hne hv, hcv, T.t c hR' C hn, q H _ (Same.refl _) rfl⟩
    · cases e
  · cases e
section
variable {e : Expr} {o : Opd} {p py pos : Pos} {y : Str} {R : List Str} {all : Bool}
/-- isinstance(e, C), C a class of the program -/
theorem e_isO {C : Addr} (ha : DOp X W e o) (hm : X.mg "isinstance" = none) (hm2 : X.mg y = some (.ref C)) (hE : ∀ c ∈ R, ∀ C, PySem.W.nsIn X.K mainGlobals c = some (some (.ref C)) → L2.ExcC X.K C) (T : YT X.K R y all (.ref C)) (hg : Gl X "isinstance" := by rfl) (hg2 : Gl X y := by rfl)
    (hd : (y == ("__debug__" : Str)) = false := by decide)
    (h1 : starEach [e, .Name y py] X.env = (false, eval e X.env) :: starEach [.Name y py] X.env := by rfl) (h2 : starEach [.Name y py] X.env = (false, eval (.Name y py) X.env) :: starEach [] X.env := by rfl)
    (hpl : (backTo pos (starEach [.Name y py] X.env)).any (·.1) = false := by rfl) : DEv X W (.Call (.Name "isinstance" p) [e, .Name y py] [] pos) (dPrim (pIsO R y all) [o]) := by
  obtain ⟨t, h, s⟩ := ha
  refine ⟨_, pe_callB call_isX hg hm (by decide +kernel) (pa_cons h (pa_cons (pe_glob (v := .ref C) hg2 hm2 (show L2.RelV (V.ref C) (Value.ref C) from rfl) hd) pa_nil h2) h1) (he := h1) (hpl := hpl), ?_⟩
  exact fun O F σ H env Q st g => sem_prim (asem1 s) (pr_isO (cV := .ref C) (fun w h => h) hE T) O F σ H env Q st g
/-- isinstance(e, C), C a built-in class -/
theorem e_isOB {t : String} (ha : DOp X W e o) (hm : X.mg "isinstance" = none) (hm2 : X.mg y = none) (hv2 : bootBuiltins y = some (.type t)) (hE : ∀ c ∈ R, ∀ C, PySem.W.nsIn X.K mainGlobals c = some (some (.ref C)) → L2.ExcC X.K C) (T : YT X.K R y all (.type t)) (hg : Gl X "isinstance" := by rfl) (hg2 : Gl X y := by rfl)
    (hn : y ≠ "__name__" := by decide) (hd : (y == ("__debug__" : Str)) = false := by decide)
    (h1 : starEach [e, .Name y py] X.env = (false, eval e X.env) :: starEach [.Name y py] X.env := by rfl) (h2 : starEach [.Name y py] X.env = (false, eval (.Name y py) X.env) :: starEach [] X.env := by rfl)
    (hpl : (backTo pos (starEach [.Name y py] X.env)).any (·.1) = false := by rfl) : DEv X W (.Call (.Name "isinstance" p) [e, .Name y py] [] pos) (dPrim (pIsO R y all) [o]) := by
  obtain ⟨t', h, s⟩ := ha
  refine ⟨_, pe_callB call_isX hg hm (by decide +kernel) (pa_cons h (pa_cons (pe_bltn (v := .ty t) hg2 hm2 hv2 rfl hn hd) pa_nil h2) h1) (he := h1) (hpl := hpl), ?_⟩
  exact fun O F σ H env Q st g => sem_prim (asem1 s) (pr_isO (cV := .ty t) (fun w h => h) hE T) O F σ H env Q st g
end
end
end DL
/-! DLT2: try: .. except E as e: any suite, the error standing in e. -/
namespace DL
open PySem PySem.Spec PyProof.Rows L2
def wKeep2 (K : PySem.W.Frag) (c : Value) (i : Nat) (ts : TS) (D : Ends) : WX := fun cls d σ H => PySem.W.exmOne K cls c = some true ∧ ∀ a oe, H a = none → Zc cls d oe → (∃ vs, oe.data = .fields vs) →
  ts { nx := fun σ' H' => D.nx (List.set σ' i none) H', rt := D.rt, bk := fun σ' H' => D.bk (List.set σ' i none) H', ct := fun σ' H' => D.ct (List.set σ' i none) H' } (List.set σ i (some (V.ref a))) (upd H a (excO oe))
theorem Inv.unsuite2 {X : Cx} {pins pn' : List (Addr × Obj)} {σ : L2.St} {H : Hp} {s : Shared} {a : Addr} (S : L2.Inv (X.suite a (X.pn ++ pins)) pn' σ H s) (ok : X.Ok) : L2.Inv X pins σ H s :=
  ⟨ok, S.os, S.bare, S.base, S.loc, S.cell, S.free, S.freeC, fun p hp => S.pin p (List.mem_append.mpr (.inl hp)), S.hok, S.len⟩
theorem ps_try_keep2 {X : Cx} {x n : Str} {c : Value} {i : Nat} {body suite : List Stmt} {b₀ : Stmt} {np pos pos' : Pos} {tb : WX → TS} {ts : TS} (hs : X.stack = X.env :: X.outer) (hf : X.env.frame = some X.env.locals) (hex : X.ex = []) (hN : X.N.Nodup) (hi : X.N[i]? = some n) (hln : X.env.kindOf n = some .local) (hc : Names X x c)
    (hb : ∀ (W : WX) (pn : List (Addr × Obj)) (xe : Value → Shared → Prop), L2.Takes (X.tr pn xe) W → PassesOwn (model X.prog X.w) X.A X.env xe → PSs (X.tr pn xe) body (tb W))
    (hsu : ∀ (a : Addr) (pn : List (Addr × Obj)), PSs (X.suite a pn) (b₀ :: suite) ts) :
    PS X (.Try body [.ExceptHandler (some (.Name x np)) (some n) (b₀ :: suite) pos'] [] [] pos) (fun D σ H => tb (wKeep2 X.K c i ts D) D σ H) := by
  refine ⟨fun pins s σ H D I h => ?_⟩
  have ok := I.ok
  have hfr : X.A.frames = some (X.env :: X.outer) := by rw [ok.frames, hs]
  have hloc : L2.Loc X.env.scope n := Or.inl hln
  let xe : Value → Shared → Prop := fun e s₁ => wpAny (model X.prog X.w) X.A (noteFrame e X.env) (fun _ s₂ => wpAny (model X.prog X.w) X.A (setFlight e none) (fun _ s₃ => wpAny (model X.prog X.w) X.A (handleBy e X.env [.ExceptHandler (some (.Name x np)) (some n) (b₀ :: suite) pos']) (SP X pins D) X.xe s₃) X.xe s₂) X.xe s₁
  refine wpAny_Try_except (wpAny_mono ((hb (wKeep2 X.K c i ts D) (X.pn ++ pins) xe (fun u s' xx => ?_) PassesOwn.looking).run [] s σ H D (I.toTry xe) h) (fun f s1 hsp => ?_) fun e s1 he => he)
  · obtain ⟨a, B, sI, pins', σ', H', cls, d, rfl, J', nb, up, sky, na, os, ag, hb1, hyes⟩ := xx
    have J := Inv.ofTry J' ok
    have sky' : Sky B (X.env :: X.outer) a (Zc cls d) X.env.locals s'.heap := by rw [← hs]; exact sky
    refine sky'.land Zc.steady hfr hf fun h3 fl3 up3 => ?_
    have J3 : L2.Inv X pins σ' H' { heap := h3, gens := s'.gens, drawn := s'.drawn, toks := s'.toks, os := s'.os } := Inv.landed J nb fl3.1 (up.trans up3) os ag
    obtain ⟨oe3, vs3, he3, hz3, hd3⟩ := fl3.there
    have nfr : a ∉ frs (X.env :: X.outer) := fun hm => by
      obtain ⟨_, o', e', hnf⟩ := Heap.FunFrames.mem fl3.2.2.1 hm
      rw [he3] at e'
      cases e'
      exact hnf vs3 hd3
    have nL : a ≠ X.env.locals := fun z => nfr (List.mem_filterMap.mpr ⟨X.env, List.mem_cons_self, by rw [hf, z]⟩)
    have nF : a ∉ X.fs := fun hm => by
      obtain ⟨e, he, q⟩ := List.mem_filterMap.mp hm
      exact nfr (List.mem_filterMap.mpr ⟨e, List.mem_cons_of_mem _ he, q⟩)
    have S3 := Inv.suite J3 he3 hd3 na nL nF
    have newB : B.get? a = none := fl3.2.1
    have newI : sI.heap.get? a = none := by
      cases q : sI.heap.get? a with
      | none => rfl
      | some o =>
        have := nb a o q (by show a ∉ frs X.stack; rw [hs]; exact nfr)
        rw [newB] at this; cases this
    have new0 : X.s_0.heap.get? a = none := by
      cases q : X.s_0.heap.get? a with
      | none => rfl
      | some o =>
        obtain ⟨o', h⟩ := J.base.there a o q (by rw [hex]; simp)
        rw [newI] at h; cases h
    have npp : ∀ p ∈ X.pn ++ pins, p.1 ≠ a := fun p hp z => by
      have := (J.pin p hp).1
      rw [z, newI] at this; cases this
    have LT : PySem.W.Looks (model X.prog X.w) h3 (typeOf (.ref a)) cls := fun A Q E s k q => wpAny_typeOf_ref (k a oe3 he3) (by rw [hz3.1]; exact q)
    have LM := PySem.W.exm_one (Inv.kIn J3) LT hb1
    refine wpAny_handleBy_cons (codeAny_handlers_test ?_) (fun q => by cases q)
    have test : ∀ {Q : Value → Shared → Prop} {E : Value → Shared → Prop}, Q c { heap := h3, gens := s'.gens, drawn := s'.drawn, toks := s'.toks, os := s'.os } → wpAny (model X.prog X.w) (X.A.mark (some (.ref a))) (eval (.Name x np) X.env) Q E { heap := h3, gens := s'.gens, drawn := s'.drawn, toks := s'.toks, os := s'.os } := fun q => by
      obtain ⟨hg, hdbg, hm | ⟨hm, hv, hnn⟩⟩ := hc
      · exact ld_glob S3 hg hm q hdbg
      · exact ld_blt S3 hg hm hv q hnn hdbg
    refine test (PySem.W.Looks.here LM ?_)
    simp only [if_true]
    refine codeAny_handlers_suite_as (PySem.HandSPX.lands_againZ fl3 fun h4 fl4 up4 => ?_)
    have J4 : L2.Inv X pins σ' H' { heap := h4, gens := s'.gens, drawn := s'.drawn, toks := s'.toks, os := s'.os } := Inv.landed J nb fl4.1 ((up.trans up3).trans up4) os ag
    obtain ⟨oe4, vs4, he4, hz4, hd4⟩ := fl4.there
    have S4 := Inv.suite J4 he4 hd4 na nL nF
    have S4' : L2.Inv (X.suite a (X.pn ++ pins)) [(a, oe4)] σ' H' { heap := h4, gens := s'.gens, drawn := s'.drawn, toks := s'.toks, os := s'.os } :=
      ⟨⟨S4.ok.mod, S4.ok.kind, S4.ok.glob, S4.ok.blt, S4.ok.above, S4.ok.inj, S4.ok.has, S4.ok.cab, S4.ok.hd, S4.ok.frames, S4.ok.stk, S4.ok.exf, S4.ok.bs, S4.ok.bsz, S4.ok.noex, S4.ok.exfs, S4.ok.funs, S4.ok.frf⟩, S4.os, S4.bare, S4.base, S4.loc, S4.cell, S4.free, S4.freeC, fun p hp => S4.pin p (List.mem_append.mpr (.inl (by
        rcases List.mem_append.mp hp with h | h
        · exact List.mem_cons_of_mem _ h
        · rw [List.mem_singleton.mp h]; exact List.mem_cons_self))), S4.hok, S4.len⟩
    have S5' := adopt S4' new0 (fun p hp => npp p (by
      rcases List.mem_append.mp hp with h | h
      · exact h
      · exact absurd h List.not_mem_nil))
    refine store_ok (X := X.suite a (X.pn ++ pins)) S5' hN hi hloc (show L2.RelV (V.ref a) (Value.ref a) from rfl) (fun s5 S5 => ?_) (Or.inr hln)
    refine wpAny_mono ((hsu a (X.pn ++ pins)).run [] s5 (List.set σ' i (some (.ref a))) (upd H' a (excO oe4)) _ S5 (hyes a oe4 na hz4 ⟨vs4, hd4⟩)) (fun f s6 hsp => ?_) (fun _ _ z => z.elim)
    have end_ : ∀ {σ6 : L2.St} {H6 : Hp} {Q : Unit → Shared → Prop}, L2.Inv (X.suite a (X.pn ++ pins)) [] σ6 H6 s6 → (∀ s7, L2.Inv X pins (List.set σ6 i none) H6 s7 → Q () s7) →
        wpAny (model X.prog X.w) X.A (do bindName X.env n .none; unbindBehindTheSuite X.env n pos') Q X.xe s6 := fun S6 hq => gone_ok (Inv.unsuite2 S6 ok) hN hi hln fun s7 J7 => hq s7 J7
    match f, hsp with
    | .next, ⟨σ6, H6, S6, q6⟩ => exact end_ S6 fun s7 J7 => ⟨_, _, J7, q6⟩
    | .brk, ⟨σ6, H6, S6, q6⟩ => exact end_ S6 fun s7 J7 => ⟨_, _, J7, q6⟩
    | .cont, ⟨σ6, H6, S6, q6⟩ => exact end_ S6 fun s7 J7 => ⟨_, _, J7, q6⟩
    | .ret u, ⟨v6, σ6, H6, S6, r6, q6⟩ => exact end_ S6 fun s7 J7 => ⟨v6, _, _, J7, r6, q6⟩
  · match f, hsp with
    | .next, ⟨σ', H', J', q⟩ => exact wpAny_execs_nil ⟨σ', H', Inv.ofTry J' ok, q⟩
    | .brk, ⟨σ', H', J', q⟩ => exact ⟨σ', H', Inv.ofTry J' ok, q⟩
    | .cont, ⟨σ', H', J', q⟩ => exact ⟨σ', H', Inv.ofTry J' ok, q⟩
    | .ret u, ⟨v, σ', H', J', r, q⟩ => exact ⟨v, σ', H', Inv.ofTry J' ok, r, q⟩
section
variable {X : Cx} {W : WX} {B : Bs}
def afterS (i : Nat) : R Fl → R Fl
  | .ok (.ret r) e => .ok (.ret r) e
  | .ok fl e => .ok fl (e.set i none)
  | _ => .bad
def dTryS (ok : List Str) (i : Nat) (body ms : DS) : DS := fun env => match body env with
  | .ok fl env1 => .ok fl env1
  | .err x env1 => if ok.contains x.c = true ∧ i < env1.length then afterS i (ms (env1.set i (some ⟨.shr, .exc x.c []⟩))) else .bad
  | .bad => .bad
theorem s_tryS (i : Nat) {ok : List Str} {x n : Str} {c : Value} {body suite : List Stmt} {b₀ : Stmt} {mb ms : DS} {np pos pos' : Pos} (hN : X.N.Nodup) (hc : Names X x c)
    (hb : ∀ (W' : WX) (pn : List (Addr × Obj)) (xe : Value → Shared → Prop), L2.Takes (X.tr pn xe) W' → PassesOwn (model X.prog X.w) X.A X.env xe → DSs (X.tr pn xe) W' B body mb)
    (hsu : ∀ (a : Addr) (pn : List (Addr × Obj)), DSs (X.suite a pn) (fun _ _ _ _ => False) B (b₀ :: suite) ms)
    (hok : ∀ y ∈ ok, ∃ C, X.mg y = some (.ref C) ∧ PySem.W.nsIn X.K mainGlobals y = some (some (.ref C)) ∧ PySem.W.exmOne X.K (.ref C) c = some true)
    (hs : X.stack = X.env :: X.outer := by rfl) (hf : X.env.frame = some X.env.locals := by rfl) (hex : X.ex = [] := by rfl) (hi : X.N[i]? = some n := by rfl) (hln : X.env.kindOf n = some .local := by rfl) (hBi : B i = false := by rfl) :
    DSt X W B (.Try body [.ExceptHandler (some (.Name x np)) (some n) (b₀ :: suite) pos'] [] [] pos) (dTryS ok i mb ms) := by
  refine ⟨_, ps_try_keep2 (ts := tOfS X (fun _ _ _ _ => False) B ms) (tb := fun W' => tOfS X W' B mb) hs hf hex hN hi hln hc (fun W' pn xe tk po => (hb W' pn xe tk po).ps) (fun a pn => (hsu a pn).ps), fun O F σ H env Dn st g => ?_⟩
  refine ⟨O, F, env, st, ?_⟩
  unfold dTryS at g
  cases q : mb env with
  | bad => rw [q] at g; exact g.elim
  | ok fl env1 =>
    rw [q] at g
    cases fl <;> exact g
  | err y env1 =>
    rw [q] at g
    simp only [] at g
    split at g
    case isFalse => exact g.elim
    case isTrue hcond =>
    obtain ⟨hin, hl1⟩ := hcond
    intro F' H' σ' cls d E s' kp er
    obtain ⟨C, hC, rfl, hfs, rfl⟩ := er
    obtain ⟨C', h1, h2, h3⟩ := hok y.c (by simpa using hin)
    rw [hC] at h1
    cases h1
    refine ⟨h3, fun a oe ha hz hfl => ?_⟩
    have sm : Same H' (upd H' a (excO oe)) := same_new ha
    have s2 := (s'.same sm).drop (i := i)
    have s4 := StOk.set (e := ⟨.shr, .exc y.c []⟩) (v := .ref a) (i := i) (s'.same sm) ⟨[], a, oe, _, C, none, RepL.nil, DictAt.none, rfl, upd_same, h2, hz, hfl⟩ (by rw [s'.len]; exact hl1)
    refine ⟨O, F', _, s4, ?_⟩
    have E2 : Ext O F H F' (upd H' a (excO oe)) := E.trans (Ext.same sm s'.odom)
    have kp2 : Keeps B σ (List.set σ' i (some (V.ref a))) := kp.trans (keeps_set hBi)
    cases qm : ms (env1.set i (some ⟨.shr, .exc y.c []⟩)) with
    | bad => rw [qm] at g; exact g.elim
    | err z e => rw [qm] at g; exact g.elim
    | ok fl e2 =>
      rw [qm] at g
      have dr : ∀ {F3 H3 σ3}, StOk X.K O F3 H3 σ3 e2 → StOk X.K O F3 H3 (List.set σ3 i none) (e2.set i none) := fun s3 => (s3.drop (i := i)).wild none set_none_at
      cases fl with
      | nx => exact fun F3 H3 σ3 E3 s3 k3 => g F3 H3 _ (E2.trans E3) (dr s3) ((kp2.trans k3).trans (keeps_set hBi))
      | brk => exact fun F3 H3 σ3 E3 s3 k3 => g F3 H3 _ (E2.trans E3) (dr s3) ((kp2.trans k3).trans (keeps_set hBi))
      | cnt => exact fun F3 H3 σ3 E3 s3 k3 => g F3 H3 _ (E2.trans E3) (dr s3) ((kp2.trans k3).trans (keeps_set hBi))
      | ret r => exact fun F3 H3 σ3 v E3 s3 k3 r3 => g F3 H3 σ3 v (E2.trans E3) s3 (kp2.trans k3) r3
end
end DL
/-! DLT3: defs that call themselves. -/
namespace DL
open PySem PySem.Spec PyProof.Rows L2
/-- nothing is promised where the depth is used up -/
theorem ok_bad {P : Program} {w : World} {K : PySem.W.Frag} {mg : Str → Option Value} {base : Heap} {k : Nat} {f : Addr} {fd : FuncData} {ps : List Str} {br : Bool} {n : Nat} : GOk P w K mg base k f fd ps (spD K mg br n fun _ => .bad) :=
  ⟨fun vs H Q E ⟨_, _, _, _, _, z⟩ => z.elim, fun A outer s H args us vs Q E _ _ _ _ ⟨_, _, _, _, _, z⟩ => z.elim⟩
end DL
/-! DLT4: t * k, k to 4000. -/
namespace DL
open PySem PySem.Spec PyProof.Rows L2
section
variable {X : Cx} {W : WX}
def rRepB (K : PySem.W.Frag) : R2 := fun x y H Q => ∃ l k xs, x = .ref l ∧ y = .int k ∧ SqT K H l xs ∧ xs ≠ [] ∧ 0 ≤ k ∧ k ≤ 4000 ∧ xs.length ≤ 1000 ∧ (k = 1 → Q (.ref l) H) ∧ (k ≠ 1 → NewT (List.replicate k.toNat xs).flatten H Q)
theorem op_repB : OpR X (binaryOp .Mult) (rRepB X.K) := by
  intro pins s σ H x y v u Q I rx ry h
  obtain ⟨l, k, xs, rfl, rfl, hT, hne, h1, h2, hz, qa, q⟩ := h
  cases rx
  obtain ⟨t, rfl⟩ := ry
  obtain ⟨its, r, ⟨⟨cls, dd, data, sl⟩, ho, hc, n, hd⟩, hs⟩ := I.tuple hT
  simp only at hc hd
  subst hc hd
  have hle : its.length = xs.length := r.length.symm
  have hn : its ≠ [] := fun e => hne (by
    rw [e] at hle
    exact List.eq_nil_of_length_eq_zero hle.symm)
  have hi : its.toArray.isEmpty = false := by
    cases its with
    | nil => exact absurd rfl hn
    | cons a b => rfl
  have hsz0 : its.toArray.size = xs.length := by rw [List.size_toArray, hle]
  have hm : ((its.toArray.size : Nat) : Int) * k ≤ 4000000 := by
    rw [hsz0]
    have a1 : ((xs.length : Nat) : Int) * k ≤ 1000 * k := Int.mul_le_mul_of_nonneg_right (by omega) (by omega)
    omega
  have flen : (List.replicate k.toNat its).flatten.length ≤ sizeLine := by
    rw [PyProof.Rows.lm_len_rep_flat, hle, sizeLine_eq]
    have a1 : k.toNat * xs.length ≤ 4000 * 1000 := Nat.mul_le_mul (by omega) hz
    omega
  have flen2 : (List.replicate k.toNat xs).flatten.length ≤ sizeLine := by
    rw [PyProof.Rows.lm_len_rep_flat, sizeLine_eq]
    have a1 : k.toNat * xs.length ≤ 4000 * 1000 := Nat.mul_le_mul (by omega) hz
    omega
  have c0 : (decide (k < -(2 ^ 63)) || decide (k ≥ 2 ^ 63)) = false := by
    rw [decide_eq_false (by omega), decide_eq_false (by omega)] <;> rfl
  refine wpAny_binaryOp_repeat_ref (T := "tuple") (U := "int") (by decide) ⟨_, ho, rfl⟩ (fun s' => typeIs_int s' k t) noFill_tuple_mul F.fills_int_mul F.slot_int_rmul repeat_tuple F.slot_int_index.lookup
    (call_meets F.slot_int_rmul (typeIs_int s k t) F.entry_int_rmul (F.args_int_rmul_2 _ _) (int_rmul_tuple k t l its.toArray n dd sl)
      ⟨ho, rfl, ⟨_, ho, rfl⟩, ?_⟩)
  by_cases hk1 : k = 1
  · subst hk1
    exact call_meets F.slot_tuple_mul ⟨_, ho, rfl⟩ F.entry_tuple_mul (F.args_tuple_mul_2 _ _) (tuple_mulOne l its.toArray n sl dd t) ⟨ho, .ref l, H, I, rfl, qa rfl⟩
  · have c1 : (its.toArray.isEmpty || k == 1) = false := by
      rw [hi, Bool.false_or]
      exact beq_eq_false_iff_ne.mpr hk1
    by_cases hk0 : k = 0
    · subst hk0
      refine call_meets F.slot_tuple_mul ⟨_, ho, rfl⟩ F.entry_tuple_mul (F.args_tuple_mul_2 _ _) (tuple_mulNone l its.toArray n sl dd 0 t c0 c1 (by rw [hi]; decide)) ⟨ho, ?_⟩
      exact lay_tup (us := []) (xs := []) I .nil (by show 0 ≤ sizeLine; exact Nat.zero_le _) (q hk1)
    · have c2 : (decide (k ≤ 0) || its.toArray.isEmpty) = false := by
        rw [hi, Bool.or_false]
        exact decide_eq_false (by omega)
      have c4 : Builtin.Tuple.tupleTooMany (((its.toArray.size : Nat) : Int) * k) = false := by
        unfold Builtin.Tuple.tupleTooMany
        rw [sizeLine_eq]
        exact decide_eq_false (by omega)
      refine call_meets F.slot_tuple_mul ⟨_, ho, rfl⟩ F.entry_tuple_mul (F.args_tuple_mul_2 _ _) (tuple_mulW l its.toArray n dd sl k t c0 c1 c2 (by omega) c4 (by rw [size_rep, List.size_toArray]; exact flen)) ⟨ho, ?_⟩
      rw [size_rep]
      exact lay_tup I (r.rep k.toNat) flen2 (q hk1)
def pMulB : Pr := fun ds => match ds with
  | [.tup a, .int k] => if a ≠ [] ∧ 0 ≤ k ∧ k ≤ 4000 ∧ a.length ≤ 1000 then some (.d (.tup (List.replicate k.toNat a).flatten)) else none
  | _ => none
theorem pr_mulB {K : PySem.W.Frag} : PrimR K pMulB (two (rRepB K)) := fun F H ds vs Q pr fd rt e q => by
  unfold pMulB at e
  split at e
  · rename_i a k
    obtain ⟨v, _, rfl, ⟨p, us, rfl, hp, r1⟩, w, _, rfl, h2, rfl⟩ := rt
    cases h2
    split at e
    · rename_i hl
      cases e
      refine ⟨p, k, us, rfl, rfl, hp.sq, fun z => ?_, hl.2.1, hl.2.2.1, by rw [r1.length]; exact hl.2.2.2, fun hk => ?_, fun _ c o hd hc => ?_⟩
      · subst z
        exact hl.1 (List.eq_nil_of_length_eq_zero (by rw [← r1.length]; rfl))
      · subst hk
        refine q H _ (Same.refl _) ⟨p, us, rfl, hp, ?_⟩
        have := r1.rep 1
        simpa using this
      · exact q _ _ (same_new hc) ⟨c, _, rfl, ⟨o, hd, upd_same⟩, repL_same (same_new hc) (r1.rep k.toNat)⟩
    · cases e
  · cases e
theorem x_mulB {a b : Expr} {oa ob : Opd} {pos : Pos} (ha : DOp X W a oa) (hb : DOp X W b ob) : DEv X W (.BinOp a .Mult b pos) (dPrim pMulB [oa, ob]) := e_op op_repB pr_mulB ha hb
end
end DL
/-! DLT5: errors made as values: E("x"); isinstance and type(x) == T of any value, errors too. -/
namespace DL
open PySem PySem.Spec PyProof.Rows L2

theorem rc_same_declined {M : Model} {A : Around} {E : Value → Shared → Prop} {s : Shared} {a b : Value} {T ida idb : String} {k : Bool} {Q : Value → Shared → Prop}
    (ha : s.TypeIs a T) (hb : s.TypeIs b T) (h1 : Slot T (cmpInfo CmpOp.Eq).snd.fst ida) (h2 : Slot T (cmpInfo CmpOp.Eq).snd.snd idb)
    (c1 : ∀ Q' : Value → Shared → Prop, Q' Value.notImplemented s → wpAny M A (call (Value.builtin ida) [a, b]) Q' E s)
    (c2 : ∀ Q' : Value → Shared → Prop, Q' Value.notImplemented s → wpAny M A (call (Value.builtin idb) [b, a]) Q' E s)
    (hk : ∀ Q' : Bool → Shared → Prop, Q' k s → wpAny M A (isSame a b) Q' E s) (hr : [a, b].any Value.onHeap = false ∨ A.units < cLine) (q : Q (Value.bool k) s) : wpAny M A (richCompare CmpOp.Eq a b) Q E s := by
  rcases hi : cmpInfo CmpOp.Eq with ⟨sym, f, r⟩
  rw [hi] at h1 h2
  unfold richCompare
  simp only [ha.oneThing_none, hi]
  refine wpAny_holding (wpAny_bind (wpAny_cRoomFor_or hr ?_))
  refine wpAny_bind (wpAny_typeOf ha ?_)
  refine wpAny_bind (wpAny_typeOf hb ?_)
  simp only [bne_self_eq_false, Bool.false_eq_true, if_false, pure_bind]
  refine wpAny_bind (wpAny_tryCompare_declines ha h1 (c1 _ ⟨rfl, ?_⟩))
  simp only [Bool.not_false, if_true]
  refine wpAny_bind (wpAny_tryCompare_declines hb h2 (c2 _ ⟨rfl, ?_⟩))
  exact wpAny_bind (wpAny_rule (wpAny_bind (hk _ (wpAny_pure q))))
section
variable {X : Cx} {W : WX}
/-! ### type(x) -/
def rTypX (K : PySem.W.Frag) : List V → Hp → VK → Prop := fun xs H Q => rTyp K xs H Q ∨ ∃ (a D : Addr) (oe : Obj) (u : HO), xs = [V.ref a] ∧ H a = some (.frz oe u) ∧ (∃ d, Zc (.ref D) d oe) ∧ Q (V.ref D) H
theorem call_typeX : CallR X (.type "type") (rTypX X.K) := fun pins s σ H xs us Q I r h => by
  rcases h with h | ⟨a, D, oe, u, rfl, ha, ⟨dq, hz⟩, q⟩
  · exact call_type1 pins s σ H xs us Q I r h
  · cases r with
    | cons rx rr =>
    cases rr
    cases (show _ = Value.ref a from rx)
    have hg := I.hok a _ ha
    simp only [ObjOk] at hg
    refine call_type_obj (h := s.heap) (g := s.gens) (d := s.drawn) (t := s.toks) (os := s.os) hg.1 ?_ ?_
    · rw [hz.1]; rfl
    · rw [hz.1]; exact ⟨V.ref D, H, I, rfl, q⟩
def rTyEqX (K : PySem.W.Frag) : R2 := fun x y H Q => rTyEq x y H Q ∨ ∃ (D : Addr) (T : String), x = V.ref D ∧ y = .ty T ∧ PySem.W.typeIn K (.ref D) = some (.type "type") ∧ metaN.contains T = true ∧ Q (.bl false) H
theorem op_tyEqX (hr : X.A.units < cLine) : OpR X (compareOp .Eq) (rTyEqX X.K) := by
  intro pins s σ H x y v u Q I rx ry h
  rcases h with h | ⟨D, T, rfl, rfl, h1, h2, q⟩
  · exact op_tyEq pins s σ H x y v u Q I rx ry h
  · cases (show v = Value.ref D from rx)
    cases (show u = Value.type T from ry)
    have hX : s.TypeIs (.ref D) "type" := by
      have h1' : (X.K.lookup D).map (fun x => x.cls) = some (.type "type") := h1
      cases e : X.K.lookup D with
      | none => rw [e] at h1'; cases h1'
      | some o =>
        rw [e] at h1'
        have hc : o.cls = .type "type" := Option.some.inj h1'
        obtain ⟨c, d, da, sl⟩ := o
        exact ⟨_, (Inv.kIn I) D _ e, hc⟩
    have hY := meta_of h2 s
    refine rc_same_declined (k := false) hX hY TypeEq.slot_type_eq TypeEq.slot_type_eq_refl (fun Q' q' => call_gives TypeEq.slot_type_eq hX F.entry_object_eq (F.args_object_eq_2 _ _) (TypeEq.object_eq_other rfl rfl) q') (fun Q' q' => call_gives TypeEq.slot_type_eq_refl hY F.entry_object_eq (F.args_object_eq_2 _ _) (TypeEq.object_eq_other rfl rfl) q') (fun Q' q' => wpAny_of_eq (isSame_plain rfl) q') (.inr hr) ⟨.bl false, H, I, rfl, q⟩
/-- R: the classes of the errors that there are -/
def excR (R : List Str) : D → Bool
  | .exc _ (.non :: _) => false
  | .exc c _ => R.contains c
  | _ => false
def pTyIsO (R : List Str) (T : String) : Pr := fun ds => match ds with
  | [d] => if metaN.contains T = true then (match tyOf d with
    | some a => some (.d (.bl (decide (a = T))))
    | none => if excR R d = true then some (.d (.bl false)) else none) else none
  | _ => none
def rTyIsO (K : PySem.W.Frag) (T : String) : Rl := fun vs H Q => rTypX K vs H fun x H' => rTyEqX K x (.ty T) H' Q
theorem pr_tyIsO {K : PySem.W.Frag} {R : List Str} {T : String} (hR : ∀ c ∈ R, ∀ C, PySem.W.nsIn K mainGlobals c = some (some (.ref C)) → PySem.W.typeIn K (.ref C) = some (.type "type")) : PrimR K (pTyIsO R T) (rTyIsO K T) := fun F H ds vs Q pr fd rt e q => by
  unfold pTyIsO at e
  split at e
  · rename_i d
    obtain ⟨v, _, rfl, h1, rfl⟩ := rt
    split at e
    · rename_i hT
      cases ht : tyOf d with
      | none =>
        rw [ht] at e
        simp only [] at e
        split at e
        · rename_i hx
          cases e
          unfold excR at hx
          split at hx
          · cases hx
          · rename_i c fs0 hne
            obtain ⟨fv, a, o, u, C, dq, rfv, hfd, rfl, ha, hn, hz, hv⟩ := h1
            exact .inr ⟨a, C, o, u, rfl, ha, ⟨dq, hz⟩, .inr ⟨C, T, rfl, rfl, hR c (by simpa using hx) C hn, hT, q H _ (Same.refl _) rfl⟩⟩
          · cases hx
        · cases e
      | some a =>
        rw [ht] at e
        cases e
        exact .inl ⟨_, a, rfl, tyB_of h1 ht, .inl ⟨a, T, rfl, rfl, tyOf_meta ht, hT, q H _ (Same.refl _) rfl⟩⟩
    · cases e
  · cases e
theorem e_tyIsO {k : Nat} {R : List Str} {T : String} {y : Str} {e : Expr} {o : Opd} {p py cp pos : Pos} (hr : GRoom k X.A) (hR : ∀ c ∈ R, ∀ C, PySem.W.nsIn X.K mainGlobals c = some (some (.ref C)) → PySem.W.typeIn X.K (.ref C) = some (.type "type")) (ha : DOp X W e o) (hm : X.mg "type" = none) (hm2 : X.mg y = none) (hv2 : bootBuiltins y = some (.type T)) (hg : Gl X "type" := by rfl) (hg2 : Gl X y := by rfl)
    (hn : y ≠ "__name__" := by decide) (hd : (y == ("__debug__" : Str)) = false := by decide)
    (h1 : starEach [e] X.env = (false, eval e X.env) :: starEach [] X.env := by rfl) : DEv X W (.Compare (.Call (.Name "type" p) [e] [] cp) [.Eq] [.Name y py] pos) (dPrim (pTyIsO R T) [o]) := by
  obtain ⟨t, h, s⟩ := ha
  refine ⟨_, pe_cmpR (op_tyEqX (by have := units_of hr; omega)) (pe_callTy call_typeX hg hm (by decide +kernel) (pa_cons h pa_nil h1) (by decide) (by decide) h1 (by rfl)) (pe_bltn (v := .ty T) hg2 hm2 hv2 rfl hn hd) (nomark _), ?_⟩
  exact fun O F σ H env Q st g => sem_prim (asem1 s) (pr_tyIsO (T := T) hR) O F σ H env Q st g
theorem t_tyIsO {k : Nat} {R : List Str} {T : String} {y : Str} {e : Expr} {o : Opd} {p py cp pos : Pos} (hr : GRoom k X.A) (hR : ∀ c ∈ R, ∀ C, PySem.W.nsIn X.K mainGlobals c = some (some (.ref C)) → PySem.W.typeIn X.K (.ref C) = some (.type "type")) (ha : DOp X W e o) (hm : X.mg "type" = none) (hm2 : X.mg y = none) (hv2 : bootBuiltins y = some (.type T)) (hg : Gl X "type" := by rfl) (hg2 : Gl X y := by rfl)
    (hn : y ≠ "__name__" := by decide) (hd : (y == ("__debug__" : Str)) = false := by decide)
    (h1 : starEach [e] X.env = (false, eval e X.env) :: starEach [] X.env := by rfl) : DTst X W (.Compare (.Call (.Name "type" p) [e] [] cp) [.Eq] [.Name y py] pos) (dTst (dPrim (pTyIsO R T) [o])) := by
  obtain ⟨t, h, s⟩ := ha
  refine ⟨_, pt_cmpR (op_tyEqX (by have := units_of hr; omega)) (pe_callTy call_typeX hg hm (by decide +kernel) (pa_cons h pa_nil h1) (by decide) (by decide) h1 (by rfl)) (pe_bltn (v := .ty T) hg2 hm2 hv2 rfl hn hd) (nomark _), ?_⟩
  exact sem_tst (t := tOp (rTyEqX X.K) (tCB (rTypX X.K) (tCons t tNil)) (tC (.ty T))) (fun O F σ H env Q st g => sem_prim (asem1 s) (pr_tyIsO (T := T) hR) O F σ H env Q st g) fun σ H Q q => q
/-! ### isinstance(x, T), T built in -/
def rIsIX (K : PySem.W.Frag) : List V → Hp → VK → Prop := fun xs H Q => rIsi K xs H Q ∨ rIsX K xs H Q
theorem call_isIX : CallR X (.builtin "isinstance") (rIsIX X.K) := fun pins s σ H xs us Q I r h => by
  rcases h with h | h
  · exact call_isi pins s σ H xs us Q I r h
  · exact call_isX pins s σ H xs us Q I r h
def pIsIO (R : List Str) (T : String) : Pr := fun ds => match ds with
  | [d] => (match tyOf d with
    | some a => (kitB a T).map fun b => PR.d (.bl b)
    | none => if excR R d = true then some (.d (.bl false)) else none)
  | _ => none
def rIsIO (K : PySem.W.Frag) (T : String) : Rl := fun vs H Q => match vs with
  | [x] => rIsIX K [x, .ty T] H Q
  | _ => False
/-- no class of R stands under T -/
def NoT (K : PySem.W.Frag) (R : List Str) (T : String) : Prop := ∀ c ∈ R, ∀ C, PySem.W.nsIn K mainGlobals c = some (some (.ref C)) → PySem.W.kitOne K (.ref C) (.type T) = some false
theorem pr_isIO {K : PySem.W.Frag} {R : List Str} {T : String} (hE : ∀ c ∈ R, ∀ C, PySem.W.nsIn K mainGlobals c = some (some (.ref C)) → L2.ExcC K C) (hT : NoT K R T) : PrimR K (pIsIO R T) (rIsIO K T) := fun F H ds vs Q pr fd rt e q => by
  unfold pIsIO at e
  split at e
  · rename_i d
    obtain ⟨v, _, rfl, h1, rfl⟩ := rt
    cases ht : tyOf d with
    | none =>
      rw [ht] at e
      simp only [] at e
      split at e
      · rename_i hx
        cases e
        unfold excR at hx
        split at hx
        · cases hx
        · rename_i c fs0 hne
          obtain ⟨fv, a, o, u, C, dq, rfv, hfd, rfl, ha, hn, hz, hv⟩ := h1
          have hc : c ∈ R := by simpa using hx
          exact .inr ⟨a, C, o, u, .ty T, .type T, _, rfl, ha, hE c hc C hn, ⟨dq, hz, hfd.dict⟩, dataErr hne hv, fun w h => h, hT c hc C hn, q H _ (Same.refl _) rfl⟩
        · cases hx
      · cases e
    | some a =>
      rw [ht] at e
      cases hk : kitB a T with
      | none => simp [hk] at e
      | some b =>
        simp [hk] at e
        subst e
        exact .inl ⟨v, .ty T, .type a, .type T, b, rfl, .ty T, tyX_of h1 ht, kit_ty hk, q H _ (Same.refl _) rfl⟩
  · cases e
theorem e_isIO {R : List Str} {T : String} {y : Str} {e : Expr} {o : Opd} {p py pos : Pos} (hE : ∀ c ∈ R, ∀ C, PySem.W.nsIn X.K mainGlobals c = some (some (.ref C)) → L2.ExcC X.K C) (hT : NoT X.K R T) (ha : DOp X W e o) (hm : X.mg "isinstance" = none) (hm2 : X.mg y = none) (hv2 : bootBuiltins y = some (.type T)) (hg : Gl X "isinstance" := by rfl) (hg2 : Gl X y := by rfl)
    (hn : y ≠ "__name__" := by decide) (hd : (y == ("__debug__" : Str)) = false := by decide)
    (h1 : starEach [e, .Name y py] X.env = (false, eval e X.env) :: starEach [.Name y py] X.env := by rfl) (h2 : starEach [.Name y py] X.env = (false, eval (.Name y py) X.env) :: starEach [] X.env := by rfl)
    (hpl : (backTo pos (starEach [.Name y py] X.env)).any (·.1) = false := by rfl) : DEv X W (.Call (.Name "isinstance" p) [e, .Name y py] [] pos) (dPrim (pIsIO R T) [o]) := by
  obtain ⟨t, h, s⟩ := ha
  refine ⟨_, pe_callB call_isIX hg hm (by decide +kernel) (pa_cons h (pa_cons (pe_bltn (v := .ty T) hg2 hm2 hv2 rfl hn hd) pa_nil h2) h1) (he := h1) (hpl := hpl), ?_⟩
  exact fun O F σ H env Q st g => sem_prim (asem1 s) (pr_isIO (T := T) hE hT) O F σ H env Q st g
/-! ### E("x") -/
theorem freezeX {pins : List (Addr × Obj)} {σ : L2.St} {H : Hp} {s : Shared} {a : Addr} {cls : Value} (h0 : H a = none) (I : L2.Inv X pins σ (upd H a (ExO cls a)) s) : ∃ oe : Obj, Zc cls none oe ∧ (∃ vs, oe.data = Data.fields vs) ∧ L2.Inv X pins σ (upd H a (excO oe)) s := by
  have g := I.hok a _ upd_same
  simp only [ExO, ObjOk] at g
  obtain ⟨⟨oe, vs, g1, g2, g3, _⟩, _⟩ := g
  have hx : upd H a (ExO cls a) a = some (ExO cls a) := upd_same
  have ne : ∀ {b : Addr}, b ≠ a → upd H a (excO oe) b = upd H a (ExO cls a) b := fun h => by rw [upd_ne h, upd_ne h]
  refine ⟨oe, g2, ⟨vs, g3⟩, I.ok, I.os, I.bare, ?_, I.loc, I.cell, ?_, ?_, ?_, ?_, I.len⟩
  · refine ⟨I.base.keep, I.base.slot, fun b o h1 h2 h3 => ?_, I.base.there, fun b xs h => ?_, fun b o u h => ?_, fun b ps h => ?_⟩
    · have := I.base.free b o h1 h2 h3
      rw [ne (fun z => by subst z; rw [hx] at this; cases this)]; exact this
    · have := I.base.tups b xs h
      rw [ne (fun z => by subst z; rw [hx] at this; cases this)]; exact this
    · have := I.base.frzs b o u h
      rw [ne (fun z => by subst z; rw [hx] at this; cases this)]; exact this
    · obtain ⟨more, this⟩ := I.base.tbls b ps h
      exact ⟨more, by rw [ne (fun z => by subst z; rw [hx] at this; cases this)]; exact this⟩
  · have := I.free
    rw [ne (fun z => by rw [z, hx] at this; cases this)]; exact this
  · intro x c hc
    have := I.freeC x c hc
    rw [ne (fun z => by rw [z, hx] at this; cases this)]; exact this
  · intro p hp
    obtain ⟨k1, k2, k3⟩ := I.pin p hp
    exact ⟨k1, by rw [ne (fun z => by rw [z, hx] at k2; cases k2)]; exact k2, k3⟩
  · intro b o hb
    by_cases e : b = a
    · subst e
      rw [upd_same] at hb
      cases hb
      simp only [ObjOk]
      exact ⟨g1, trivial, ⟨oe, g1⟩, fun _ _ _ _ => trivial⟩
    · rw [ne e] at hb
      refine (I.hok b o hb).stay (fun _ _ _ h => h) (fun c hc => ?_) (fun c xs hc => ?_)
      · rw [ne (fun z => by rw [z, hx] at hc; cases hc)]; exact hc
      · rw [ne (fun z => by rw [z, hx] at hc; cases hc)]; exact hc
/-- E(x), E a class of errors: the error as a worth -/
def dExcV (c : Str) (m : DE) : DE := fun env => (m env).bind fun _ e => .ok ⟨.shr, .exc c []⟩ e
theorem e_excV {C : Addr} {c : Str} {e : Expr} {m : DE} {p pos : Pos} (hq : PySem.W.excIn X.K C [.type "ValueError", .type "Exception", .type "BaseException", .type "object"] "ValueError.__new__" = true) (hk : PySem.W.keepIn X.K (.ref C) = true)
    (hn : PySem.W.nsIn X.K mainGlobals c = some (some (.ref C))) (hm : X.mg c = some (.ref C)) (ha : DEv X W e m) (hg : Gl X c := by rfl)
    (hs : starEach [e] X.env = (false, eval e X.env) :: starEach [] X.env := by rfl) (hd : (c == ("__debug__" : Str)) = false := by decide) : DEv X W (.Call (.Name c p) [e] [] pos) (dExcV c m) := by
  obtain ⟨t, h, s⟩ := ha
  have P := pe_exc1 (p := p) (pos := pos) PySem.F.excBase_ValueError hq hm hk hg h hs hd
  refine ⟨fun σ H Q => t σ H fun x H1 => ∀ a, H1 a = none → (fun v H2 => ∃ a H1, v = V.ref a ∧ H1 a = none ∧ H2 = upd H1 a (ExO (.ref C) a) ∧ ∀ oe : Obj, Zc (.ref C) none oe → (∃ vs, oe.data = Data.fields vs) → Q v (upd H1 a (excO oe))) (V.ref a) (upd H1 a (ExO (.ref C) a)), ⟨fun pins s0 σ H Q I q => ?_⟩, fun O F σ H env Q st g => ?_⟩
  · refine wpAny_mono (P.run pins s0 σ H (fun v H2 => ∃ a H1, v = V.ref a ∧ H1 a = none ∧ H2 = upd H1 a (ExO (.ref C) a) ∧ ∀ oe : Obj, Zc (.ref C) none oe → (∃ vs, oe.data = Data.fields vs) → Q v (upd H1 a (excO oe))) I q) ?_ fun _ _ h => h
    rintro u s' ⟨v, H2, I2, r2, a, H1, rfl, h0, rfl, q2⟩
    obtain ⟨oe, hz, hf, I3⟩ := freezeX h0 I2
    exact ⟨_, _, I3, r2, q2 oe hz hf⟩
  · refine s O F σ H env _ st ?_
    unfold dExcV at g
    cases q : m env with
    | bad => rw [q] at g; exact g.elim
    | err x e => rw [q] at g; exact g
    | ok r env1 =>
      rw [q] at g
      intro F1 H1 v E1 s1 rep a h0
      refine ⟨a, H1, rfl, h0, rfl, fun oe hz hf => ?_⟩
      have sm : Same H1 (upd H1 a (excO oe)) := same_new h0
      exact g F1 _ _ (E1.trans (Ext.same sm s1.odom)) (s1.same sm) ⟨[], a, oe, _, C, none, RepL.nil, DictAt.none, rfl, upd_same, hn, hz, hf⟩
/-! ### x == [], x == () -/
def pEqE : Pr := fun ds => match ds with
  | [.lst xs, .lst []] => some (.d (.bl xs.isEmpty))
  | [.tup xs, .tup []] => some (.d (.bl xs.isEmpty))
  | _ => none
def rEqE (K : PySem.W.Frag) : R2 := fun x y H Q => (∃ a b us, x = V.ref a ∧ y = V.ref b ∧ H a = some (.lst us) ∧ H b = some (.lst []) ∧ Q (.bl us.isEmpty) H) ∨ (∃ a b us, x = V.ref a ∧ y = V.ref b ∧ TpL H a us ∧ TpL H b [] ∧ Q (.bl us.isEmpty) H)
theorem is_tup_of {h : Heap} {a : Addr} {its : Array Value} (g : IsTup h a its) : h.IsTuple a its := by
  first
  | exact g
  | (obtain ⟨o, h1, h2, n, h3⟩ := g; exact ⟨o, h1, h2, n, h3⟩)
theorem tpl_is {pins : List (Addr × Obj)} {σ : L2.St} {H : Hp} {s : Shared} {a : Addr} {us : List V} (I : L2.Inv X pins σ H s) (h : TpL H a us) : ∃ its : List Value, Vals us its ∧ s.heap.IsTuple a its.toArray := by
  obtain ⟨o, _, h⟩ := h
  have g := I.hok a _ h
  simp only [ObjOk] at g
  obtain ⟨_, _, its, hv, hg⟩ := g
  exact ⟨its, hv, is_tup_of hg⟩
theorem op_eqE (hu : X.A.units < cLine) : OpR X (compareOp .Eq) (rEqE X.K) := by
  intro pins s σ H x y v u Q I rx ry h
  rcases h with ⟨a, b, us, rfl, rfl, ha, hb, q⟩ | ⟨a, b, us, rfl, rfl, ha, hb, q⟩
  · cases (show v = Value.ref a from rx)
    cases (show u = Value.ref b from ry)
    have g := I.hok a _ ha
    have g2 := I.hok b _ hb
    simp only [ObjOk] at g g2
    obtain ⟨_, its, n, hv, hg⟩ := g
    obtain ⟨_, its2, n2, hv2, hg2⟩ := g2
    cases hv2
    cases hv with
    | nil => exact SeqAt.eq_listAt (e := fun _ => true) ⟨_, hg, rfl, _, rfl⟩ ⟨_, hg2, rfl, _, rfl⟩ rfl hu (fun j h1 => by exact absurd h1 (Nat.not_lt_zero _)) ⟨.bl true, H, I, rfl, q⟩
    | cons => exact SeqAt.eq_list_lengthsAt ⟨_, hg, rfl, _, rfl⟩ ⟨_, hg2, rfl, _, rfl⟩ (by simp) hu ⟨.bl false, H, I, rfl, q⟩
  · cases (show v = Value.ref a from rx)
    cases (show u = Value.ref b from ry)
    obtain ⟨its, hv, g⟩ := tpl_is I ha
    obtain ⟨its2, hv2, g2⟩ := tpl_is I hb
    cases hv2
    refine SeqAt.eq_tupleAt (e := fun _ => true) g g2 hu (fun j _ h2 => by exact absurd h2 (Nat.not_lt_zero _)) ?_
    cases hv with
    | nil => exact ⟨.bl true, H, I, rfl, q⟩
    | cons =>
      refine ⟨.bl false, H, I, ?_, q⟩
      show Value.bool _ = Value.bool false
      simp
theorem pr_eqE {K : PySem.W.Frag} : PrimR K pEqE (two (rEqE K)) := fun F H ds vs Q pr fd rt e q => by
  unfold pEqE at e
  split at e
  · rename_i xs
    cases e
    obtain ⟨v, _, rfl, h1, u, _, rfl, h2, rfl⟩ := rt
    obtain ⟨a, us, rfl, ha, ra⟩ := h1
    obtain ⟨b, us2, rfl, hb, rb⟩ := h2
    have e2 : us2 = [] := rb
    subst e2
    have hl : us.isEmpty = xs.isEmpty := by
      have := RepL.length ra
      cases us <;> cases xs <;> simp_all
    exact .inl ⟨a, b, us, rfl, rfl, ha, hb, by rw [hl]; exact q H _ (Same.refl _) rfl⟩
  · rename_i xs
    cases e
    obtain ⟨v, _, rfl, h1, u, _, rfl, h2, rfl⟩ := rt
    obtain ⟨a, us, rfl, ha, ra⟩ := h1
    obtain ⟨b, us2, rfl, hb, rb⟩ := h2
    have e2 : us2 = [] := rb
    subst e2
    have hl : us.isEmpty = xs.isEmpty := by
      have := RepL.length ra
      cases us <;> cases xs <;> simp_all
    exact .inr ⟨a, b, us, rfl, rfl, ha, hb, by rw [hl]; exact q H _ (Same.refl _) rfl⟩
  · cases e
theorem x_eqE {k : Nat} {a b : Expr} {oa ob : Opd} {pos : Pos} (hr : GRoom k X.A) (ha : DOp X W a oa) (hb : DOp X W b ob) : DEv X W (.Compare a [.Eq] [b] pos) (dPrim pEqE [oa, ob]) := e_cmp (op_eqE (by have := units_of hr; omega)) pr_eqE ha hb (nomark _)
theorem y_eqE {k : Nat} {a b : Expr} {oa ob : Opd} {pos : Pos} (hr : GRoom k X.A) (ha : DOp X W a oa) (hb : DOp X W b ob) : DTst X W (.Compare a [.Eq] [b] pos) (dTst (dPrim pEqE [oa, ob])) := t_cmp (op_eqE (by have := units_of hr; omega)) pr_eqE ha hb (nomark _)
/-- an expression that is never reckoned -/
def dNeverE : DE := fun _ => .bad
theorem e_never {e : Expr} : DEv X W e dNeverE := ⟨fun _ _ _ => False, ⟨fun _ _ _ _ _ _ h => h.elim⟩, fun _ _ _ _ _ _ _ g => g.elim⟩
/-! ### w.upper() -/
def dUpper (m : DE) : DE := fun env => (m env).bind fun r e => match r with
  | Ent.mk Md.shr (.str z) => if z.length ≤ 5592405 then .ok ⟨.shr, .str (Txt.upper z)⟩ e else .bad
  | _ => .bad
theorem e_upper {o : Expr} {m : DE} {apos pos : Pos} (ha : DEv X W o m) (hbase : attributeBase o "upper" X.env (eval o X.env) = eval o X.env := by rfl) (hline : (apos.endLine == pos.line) = true := by rfl) :
    DEv X W (.Call (.Attribute o "upper" apos) [] [] pos) (dUpper m) := by
  obtain ⟨t, h, s⟩ := ha
  refine ⟨_, pe_upper h hbase hline, fun O F σ H env Q st g => ?_⟩
  refine s O F σ H env _ st ?_
  unfold dUpper at g
  cases q : m env with
  | bad => rw [q] at g; exact g.elim
  | err x e => rw [q] at g; exact g
  | ok r env1 =>
    rw [q] at g
    intro F1 H1 v E1 s1 rep
    simp only [R.bind] at g
    split at g
    · rename_i z
      have hv : v = V.str z := rep
      subst hv
      split at g
      · rename_i hl
        exact ⟨⟨z, rfl⟩, z, rfl, rfl, hl, g F1 H1 _ E1 s1 rfl⟩
      · exact g.elim
    · exact g.elim
end
end DL
/-! DLR0: an error whose class has an __init__ that says super().__init__("..") and keeps one field: made, on the heap. -/
namespace DL
open PySem PySem.W PySem.Calls PyProof.Rows

section
variable {prog : Program} {w : World} {M : Model} {A : Around} {E : Value → Shared → Prop} {h : Heap} {g : Array GenState} {d : Drawn} {t : Nat} {os : OsState}
/-- the bound __init__ of the built-in class is called -/
theorem call_mw {K : Frag} {nm q : Str} {C N u x t0 : Addr} {bs bm : List Value} {hdct : Bool} {sn : List Str} {sub : List Value} {ab : Bool} {col : Option Bool} {dd : Option Addr} {k0 k1 k2 k3 k5 : Option Value} {rest : List Value} {Q : Value → Shared → Prop}
    (hC : h.get? C = some (excClassObj nm q C N bs bm hdct sn sub ab col dd k0 k1 k2 k3 k5 "ValueError.__new__")) (hx : h.get? x = some (PySem.HandSPX.excO C t0)) (hu : h.get? u = some (kxs_mw "ValueError.__init__" x)) (hz : rest.length ≤ sizeLine)
    (hq : ∀ h' t1, (∀ b o, b ≠ x → h.get? b = some o → h'.get? b = some o) → h'.get? x = some (PySem.HandSPX.excO C t1) → Q .none ⟨h', g, d, t, os⟩) :
    wpAny (model prog w) A (call (.ref u) rest) Q E ⟨h, g, d, t, os⟩ := by
  refine wpAny_call (codeAny_of_tree ?_)
  show wpAny _ A.in1 (callAny (.ref u) ⟨rest, []⟩) _ _ _
  simp only [callAny]
  refine wpAny_bind (wpAny_load hu ?_)
  simp only [kxs_mw, show (Value.type "method-wrapper" == Value.type "method" || Value.type "method-wrapper" == Value.type "builtin_function_or_method" || Value.type "method-wrapper" == Value.type "method-wrapper") = true by decide, if_true]
  refine KFB.if_so (by decide) ?_
  refine wpAny_bind (check_bound_init PySem.F.excBase_ValueError.toExcCallFacts hC hx rfl ?_)
  refine wpAny_bind (wpAny_pure (wpAny_pure ?_))
  refine ⟨plainId_quiet PySem.F.excBase_ValueError.init.plain _, codeAny_builtin PySem.F.excBase_ValueError.initEntry ?_⟩
  exact exc_init_tree (cls := .ref C) (t0 := t0) (dv := none) (c2 := .none) (c3 := .none) (b4 := .bool false) hx hz fun h' k e' _ => hq h' _ k e'
end

/-- what super().__init__ finds, the class above having none of its own -/
theorem ks_of {K : Frag} {C W : Addr} {nm q : Str} {N : Addr} {bs bm r : List Value} {hd : Bool} {sn : List Str} {sub : List Value} {ab : Bool} {col : Option Bool} {dd wd : Option Addr} {k0 k1 k2 k3 k5 : Option Value} {ni : String} {wc : Value} {wcd : ClassData} {wsl : Array (Option Value)}
    (hC : K.lookup C = some (excClassObj nm q C N bs bm hd sn sub ab col dd k0 k1 k2 k3 k5 ni)) (e : bm = .ref W :: .type "ValueError" :: r) (hW : K.lookup W = some ⟨wc, wd, .cls wcd, wsl⟩) (hn : nsIn K wcd.ns "__init__" = some none) :
    ks_superIn K C C "__init__" = some (some (.builtin "ValueError.__init__")) := by
  have hcl : clsIn K C = some { name := nm, bases := bs, mro := .ref C :: bm, ns := N, qualname := q, hasDict := hd, slotNames := sn, subclasses := sub, abstract := ab, collection := col, hasDel := false } := by unfold clsIn; rw [hC] <;> rfl
  unfold ks_superIn
  rw [hcl, Option.bind_some]
  have h1 : ((Value.ref C :: bm).dropWhile (· != .ref C)).drop 1 = bm := by simp [List.dropWhile_cons]
  show alongIn K "__init__" (((Value.ref C :: bm).dropWhile (· != .ref C)).drop 1) = _
  rw [h1, e]
  have h2 : ownIn K "__init__" (.ref W) = some none := by
    show (match K.lookup W with | some ⟨_, _, .cls cd, _⟩ => nsIn K cd.ns "__init__" | _ => none) = _
    rw [hW]
    exact hn
  have h3 : ownIn K "__init__" (.type "ValueError") = some (some (.builtin "ValueError.__init__")) := by
    show some (fastBuiltinOwn "ValueError" "__init__") = _
    kernel_rfl
  unfold alongIn
  rw [h2]
  simp only []
  unfold alongIn
  rw [h3]
/-- the body of a class statement -/
def clsB (s : Stmt) : List Stmt := match s with
  | .ClassDef _ _ _ b _ _ _ _ _ _ _ => b
  | _ => []
/-- what the text says of such an __init__: f the field, x the second parameter -/
structure IniS (st : Stmt) (f x : Str) : Prop where
  body : ∃ (z : Str) (kz : Nat) (p0 p1 p2 p3 p4 pz q1 q2 q3 q4 : Pos), L2.defBody st = [.Expr (.Call (.Attribute (.Call (.Name "super" p0) [] [] p1) "__init__" p2) [.Constant (.str z) kz pz] [] p3) p4, .Assign [.Attribute (.Name "self" q1) f q2] (.Name x q3) q4] ∧
    (∀ env : Env, ∃ pl : Sem Bool, eval (.Call (.Attribute (.Call (.Name "super" p0) [] [] p1) "__init__" p2) [.Constant (.str z) kz pz] [] p3) env = (do
      let ov ← attributeBase (.Call (.Name "super" p0) [] [] p1) "__init__" env (eval (.Call (.Name "super" p0) [] [] p1) env)
      standAt p2.atName
      let (f, first) ← holding [ov] (getMethod ov "__init__" pl)
      callWith p3 f first (backTo p3 (starEach [.Constant (.str z) kz pz] env)) [])) ∧
    (∀ env : Env, swapsWith (.Call (.Attribute (.Call (.Name "super" p0) [] [] p1) "__init__" p2) [.Constant (.str z) kz pz] [] p3) none p4.line env = pure false) ∧ (∀ env : Env, swapsWith (.Name x q3) (some (.Attribute (.Name "self" q1) f q2)) q4.line env = pure false) ∧
    (∀ env : Env, starEach [.Constant (.str z) kz pz] env = [(false, eval (.Constant (.str z) kz pz) env)])
  kind : (L2.defScope st).kind = .function
  co : (L2.defScope st).isCoroutine = false
  gen : (L2.defScope st).isGenerator = false
  names : (L2.defScope st).names = [(("self" : Str), NameKind.local), (x, .local), ("__class__", .free), ("super", .globalImplicit)]
  head : ∃ ar, ((L2.defArgs st).posonlyargs ++ (L2.defArgs st).args).head? = some ar ∧ ar.arg = "self"
  bind : ∀ (name qual : Str) (cc : Addr) (kV doc pm : Value) (an : Option Addr) (cdv ct a b : Value), bindArgs (fnX name qual (L2.defArgs st) (L2.defBody st) (L2.defScope st) [("__class__", cc)] .none kV doc pm an cdv ct) ⟨[a, b], []⟩ = pure [(("self" : Str), a), (x, b)]
  bindk : ∀ (name qual : Str) (cc : Addr) (kV doc pm : Value) (an : Option Addr) (cdv ct a b : Value), bindArgs (fnX name qual (L2.defArgs st) (L2.defBody st) (L2.defScope st) [("__class__", cc)] .none kV doc pm an cdv ct) ⟨[a], [(x, b)]⟩ = pure [(("self" : Str), a), (x, b)]
  hx : x ≠ "self" ∧ x ≠ "super" ∧ x ≠ "__class__" ∧ (x == ("__debug__" : Str)) = false
/-- what the written part says of such a class -/
structure IniC (K : Frag) (prog : Program) (C : Addr) (f x : Str) : Prop where
  oex : L2.OexC K C
  no : findIn K (.ref C) f = some none
  sup : nsIn K mainGlobals "super" = some none
  opq : nsIn K cStatics "thirdparty.any" = some none
  ksi : ks_superIn K C C "__init__" = some (some (.builtin "ValueError.__init__"))
  sB : subIn K (.ref C) (.type "ValueError") = some true
  sC : mroIn K C (.ref C) = some true
  htop : (prog.main.scope.names.lookup ("super" : Str)).isSome = false
  ini : ∃ (st : Stmt) (fI cc cda : Addr) (name qual : Str) (kV doc pm ct oc ccl cl : Value) (an od cdd cld : Option Addr) (osl ccs csl : Array (Option Value)) (vs : Array Value) (file : Str) (tf : Tok), IniS st f x ∧
    findIn K (.ref C) "__init__" = some (some (.ref fI)) ∧ typeIn K (.ref fI) = some (.type "function") ∧
    K.lookup fI = some ⟨oc, od, .func (fnX name qual (L2.defArgs st) (L2.defBody st) (L2.defScope st) [("__class__", cc)] .none kV doc pm an (.ref cda) ct), osl⟩ ∧
    codeIn K (.ref cda) qual = true ∧ K.lookup cda = some ⟨ccl, cdd, .fields vs, ccs⟩ ∧ vs[2]? = some (.str file tf) ∧ ((prog.main.file : Str) == file) = true ∧
    K.lookup cc = some ⟨cl, cld, .cell (some (.ref C)), csl⟩

section
variable {prog : Program} {w : World} {A : Around} {E : Value → Shared → Prop} {hp : Heap} {g : Array GenState} {d : Drawn} {t : Nat} {os : OsState} {K : Frag} {C : Addr} {f x : Str} {v : Value} {mg : Str → Option Value} {Q : Value → Shared → Prop}
theorem ini_run {R : Result → Shared → Prop} {fI e t0 : Addr} {H1 : Heap} {args : Args} (T : IniC K prog C f x) (X1 : K.In H1) (X3' : ∀ h', (∀ b o, b ≠ e → H1.get? b = some o → h'.get? b = some o) → K.In h') (nl : H1.NoLimit) (G : H1.Ns mainGlobals mg) (B : ∃ mb, H1.Ns builtinsNs mb ∧ ∀ x : Str, x ≠ "__name__" → mb x = bootBuiltins x)
    (room : A.depth < recursionLimit) (hget : H1.get? e = some (PySem.HandSPX.excO C t0)) (iC : findIn K (.ref C) "__init__" = some (some (.ref fI))) (hargs : args = ⟨[.ref e, v], []⟩ ∨ args = ⟨[.ref e], [(x, v)]⟩)
    (hq : ∀ h' tk' dx t1, (∀ b o, b ≠ e → H1.get? b = some o → h'.get? b = some o) → H1.objs.size ≤ dx → dx ≠ e → h'.get? e = some ({ cls := .ref C, dict := some dx, data := .fields #[.ref t1, .none, .none, .none, .bool false, .none] } : Obj) →
      h'.Ns1 dx (fun y => if y = f then some v else none) → R (.ok (.ret .none)) ⟨h', g, d, tk', os⟩) :
    codeAny (model prog w) A (.call (.ref fI) args) R ⟨H1, g, d, t, os⟩ := by
  obtain ⟨nm, q, N, bs, bm, sn, sub, ab, col, dd, k0, k1, k2, k3, k5, hC, hbm⟩ := T.oex.cls
  obtain ⟨st, fI', cc, cda, name, qual, kV, doc, pm, ct, oc, ccl, cl, an, od, cdd, cld, osl, ccs, csl, vs, file, tf, TS, iC', tI, hfn, hcode, hcda, hvs, hfile, hcc⟩ := T.ini
  obtain rfl : fI = fI' := by
    have z := iC.symm.trans iC'
    simpa using z
  obtain ⟨z, kz, p0, p1, p2, p3, p4, pz, q1, q2, q3, q4, hbody, heval, hsw1, hsw2, hst⟩ := TS.body
  obtain ⟨ar, hhead, har⟩ := TS.head
  obtain ⟨hx1, hx2, hx3, hx4⟩ := TS.hx
  have hbind : bindArgs (fnX name qual (L2.defArgs st) (L2.defBody st) (L2.defScope st) [("__class__", cc)] .none kV doc pm an (.ref cda) ct) args = pure [(("self" : Str), .ref e), (x, v)] := by
    rcases hargs with rfl | rfl
    · exact TS.bind name qual cc kV doc pm an (.ref cda) ct _ _
    · exact TS.bindk name qual cc kV doc pm an (.ref cda) ct _ _
  have sk := TS.kind
  have sco := TS.co
  have sgen := TS.gen
  have snames := TS.names
  rw [hbody] at hfn hbind
  generalize L2.defArgs st = params at hhead hfn hbind
  generalize L2.defScope st = scope at sk sco sgen snames hfn hbind
  have hcl : clsIn K C = some { name := nm, bases := bs, mro := .ref C :: bm, ns := N, qualname := q, hasDict := true, slotNames := sn, subclasses := sub, abstract := ab, collection := col, hasDel := false } := by unfold clsIn; rw [hC] <;> rfl
  have lk : ∀ y, scope.names.lookup y = ([(("self" : Str), NameKind.local), (x, .local), ("__class__", .free), ("super", .globalImplicit)] : List (Str × NameKind)).lookup y := fun y => by rw [snames]
  have l1 : scope.names.lookup ("self" : Str) = some .local := by rw [lk]; rfl
  have l2 : scope.names.lookup x = some .local := by
    rw [lk]
    have e1 : (x == ("self" : Str)) = false := by simpa using hx1
    simp [List.lookup, e1]
  have l3 : scope.names.lookup ("__class__" : Str) = some .free := by
    rw [lk]
    have e1 : (("__class__" : Str) == x) = false := by simpa using Ne.symm hx3
    have e0 : (("__class__" : Str) == ("self" : Str)) = false := by decide
    simp [List.lookup, e1, e0]
  have l4 : scope.names.lookup ("super" : Str) = some .globalImplicit := by
    rw [lk]
    have e1 : (("super" : Str) == x) = false := by simpa using Ne.symm hx2
    have e0 : (("super" : Str) == ("self" : Str)) = false := by decide
    have e2 : (("super" : Str) == ("__class__" : Str)) = false := by decide
    simp [List.lookup, e1, e0, e2]
  refine ks_codeAny_call_defAt room (X1 _ _ hfn) rfl nl (codeRec_of X1 hcode) rfl (BindsTo.of_eq hbind) (fun y hy => ?_) (fun y hy => ?_) (fun h0 hns hk0 => ?_) sco sgen sk
  · have hy' : y ∈ scope.names := hy
    rw [snames] at hy'
    simp only [List.mem_cons, List.not_mem_nil, or_false] at hy'
    rcases hy' with rfl | rfl | rfl | rfl <;> exact nofun
  · simp only [List.mem_cons, List.not_mem_nil, or_false] at hy
    rcases hy with rfl | rfl
    · exact l1
    · exact l2
  have ns1 : ([(("self" : Str), Value.ref e), (x, v)] : List (Str × Value)).reverse.lookup ("self" : Str) = some (Value.ref e) := by
    have e1 : (("self" : Str) == x) = false := by simpa using Ne.symm hx1
    simp [List.lookup, e1]
  have ns2 : ([(("self" : Str), Value.ref e), (x, v)] : List (Str × Value)).reverse.lookup x = some v := by
    simp [List.lookup]
  have X0 : K.In h0 := X1.keeps hk0
  have hx0 := hk0 _ _ hget
  have f1 : interactive (callEnv (fnX name qual params [.Expr (.Call (.Attribute (.Call (.Name "super" p0) [] [] p1) "__init__" p2) [.Constant (.str z) kz pz] [] p3) p4, .Assign [.Attribute (.Name "self" q1) f q2] (.Name x q3) q4] scope [("__class__", cc)] .none kV doc pm an (.ref cda) ct) H1.objs.size fI) = false := by
    unfold interactive
    first
      | rfl
      | (show (_ && _) = false; simp [callEnv, newEnv, sk]; done)
      | (simp [callEnv, newEnv, sk]; done)
  have f2 : ∀ y, (callEnv (fnX name qual params [.Expr (.Call (.Attribute (.Call (.Name "super" p0) [] [] p1) "__init__" p2) [.Constant (.str z) kz pz] [] p3) p4, .Assign [.Attribute (.Name "self" q1) f q2] (.Name x q3) q4] scope [("__class__", cc)] .none kV doc pm an (.ref cda) ct) H1.objs.size fI).kindOf y = scope.names.lookup y := fun y => rfl
  have f3 : (callEnv (fnX name qual params [.Expr (.Call (.Attribute (.Call (.Name "super" p0) [] [] p1) "__init__" p2) [.Constant (.str z) kz pz] [] p3) p4, .Assign [.Attribute (.Name "self" q1) f q2] (.Name x q3) q4] scope [("__class__", cc)] .none kV doc pm an (.ref cda) ct) H1.objs.size fI).scope = scope := rfl
  have f4 : (callEnv (fnX name qual params [.Expr (.Call (.Attribute (.Call (.Name "super" p0) [] [] p1) "__init__" p2) [.Constant (.str z) kz pz] [] p3) p4, .Assign [.Attribute (.Name "self" q1) f q2] (.Name x q3) q4] scope [("__class__", cc)] .none kV doc pm an (.ref cda) ct) H1.objs.size fI).func = some fI := rfl
  have f5 : (callEnv (fnX name qual params [.Expr (.Call (.Attribute (.Call (.Name "super" p0) [] [] p1) "__init__" p2) [.Constant (.str z) kz pz] [] p3) p4, .Assign [.Attribute (.Name "self" q1) f q2] (.Name x q3) q4] scope [("__class__", cc)] .none kV doc pm an (.ref cda) ct) H1.objs.size fI).code = .ref cda := rfl
  have f6 : (callEnv (fnX name qual params [.Expr (.Call (.Attribute (.Call (.Name "super" p0) [] [] p1) "__init__" p2) [.Constant (.str z) kz pz] [] p3) p4, .Assign [.Attribute (.Name "self" q1) f q2] (.Name x q3) q4] scope [("__class__", cc)] .none kV doc pm an (.ref cda) ct) H1.objs.size fI).cells.lookup ("__class__" : Str) = some cc := rfl
  have f7 : (callEnv (fnX name qual params [.Expr (.Call (.Attribute (.Call (.Name "super" p0) [] [] p1) "__init__" p2) [.Constant (.str z) kz pz] [] p3) p4, .Assign [.Attribute (.Name "self" q1) f q2] (.Name x q3) q4] scope [("__class__", cc)] .none kV doc pm an (.ref cda) ct) H1.objs.size fI).locals = H1.objs.size := rfl
  have f8 : (callEnv (fnX name qual params [.Expr (.Call (.Attribute (.Call (.Name "super" p0) [] [] p1) "__init__" p2) [.Constant (.str z) kz pz] [] p3) p4, .Assign [.Attribute (.Name "self" q1) f q2] (.Name x q3) q4] scope [("__class__", cc)] .none kV doc pm an (.ref cda) ct) H1.objs.size fI).globals = mainGlobals := rfl
  have f9 : (callEnv (fnX name qual params [.Expr (.Call (.Attribute (.Call (.Name "super" p0) [] [] p1) "__init__" p2) [.Constant (.str z) kz pz] [] p3) p4, .Assign [.Attribute (.Name "self" q1) f q2] (.Name x q3) q4] scope [("__class__", cc)] .none kV doc pm an (.ref cda) ct) H1.objs.size fI).builtins = builtinsNs := rfl
  revert f1 f2 f3 f4 f5 f6 f7 f8 f9
  show _ → _ → _ → _ → _ → _ → _ → _ → _ → _root_.PySem.wpAt (model prog w) (A.deeper (callEnv (fnX name qual params [.Expr (.Call (.Attribute (.Call (.Name "super" p0) [] [] p1) "__init__" p2) [.Constant (.str z) kz pz] [] p3) p4, .Assign [.Attribute (.Name "self" q1) f q2] (.Name x q3) q4] scope [("__class__", cc)] .none kV doc pm an (.ref cda) ct) H1.objs.size fI)) _ _ _ _ _
  generalize (callEnv (fnX name qual params [.Expr (.Call (.Attribute (.Call (.Name "super" p0) [] [] p1) "__init__" p2) [.Constant (.str z) kz pz] [] p3) p4, .Assign [.Attribute (.Name "self" q1) f q2] (.Name x q3) q4] scope [("__class__", cc)] .none kV doc pm an (.ref cda) ct) H1.objs.size fI) = env
  intro f1 f2 f3 f4 f5 f6 f7 f8 f9
  obtain ⟨pl, hev⟩ := heval env
  have sk' : env.scope.kind = .function := by rw [f3]; exact sk
  refine ks_wpAt_execs_cons (ks_wpAt_Expr_any (ks_wpAt_MethodCall (pl := pl) ?_ hev) f1 (hsw1 _))
  refine ks_wpAt_super_base ((f2 _).trans l4) ((f2 _).trans l3) (by decide) f4 (X0 _ _ hfn) rfl hhead f5 (X0 _ _ hcda) rfl hvs hfile T.htop ?_
  obtain ⟨mb, hmb1, hmb2⟩ := B
  refine ks_loadName_global sk' ((f2 _).trans l4) (loadGlobal_builtin (by rw [f8]; exact G.keeps hk0) (mg_none_of X1 G T.sup) (by rw [f9]; exact hmb1.keeps hk0) ((hmb2 _ (by decide)).trans PyProof.Rows.Boot.«super») ⟨rfl, ?_⟩)
  refine wpAny_loadName_free sk' ((f2 _).trans l3) f6 ⟨_, X0 _ _ hcc, rfl⟩ ?_
  rw [har]
  have hns' : h0.Ns env.locals (fun x_1 => ([(("self" : Str), Value.ref e), (x, v)] : List (Str × Value)).reverse.lookup x_1) := by rw [f7]; exact hns
  refine wpAny_loadName_local sk' ((f2 _).trans l1) hns' ns1 ?_
  refine ks_wpAny_isType_cls (X0 _ _ hC) rfl ⟨rfl, ?_⟩
  refine ks_wpAny_call_super (X0 _ _ hC) rfl hx0 rfl (fun c e => by cases e) (looks_mroIn X0 T.sC) (fun h1 e1 kh1 => ?_)
  have X2 : K.In h1 := X0.keeps kh1
  have hx1' := kh1 _ _ hx0
  have I1 : InstAt h1 e (PySem.HandSPX.excO C t0) C none := ⟨hx1', rfl, rfl, trivial⟩
  have hksi := T.ksi
  unfold ks_superIn at hksi
  rw [hcl] at hksi
  refine kxs_getMethod kxs_ValueError e1 (looks_opaque X2 T.opq) (l₀ := .ref C :: bm) (fun A Q E s k q => wpAny_bind ((looks_clsIn X2 hcl) A _ E s k (wpAny_pure q))) rfl X2 hksi (I1.type.andThen (looks_subIn X2 T.sB)) (ks_ne X2 I1 hcl) (by decide) ?_
  have k2 : ∀ b o, h1.get? b = some o → (h1.push (kxs_mw "ValueError.__init__" e)).get? b = some o := fun b o e => Heap.get?_push_of_some _ e
  have hu : (h1.push (kxs_mw "ValueError.__init__" e)).get? h1.objs.size = some (kxs_mw "ValueError.__init__" e) := Heap.get?_push_size _ rfl
  have hx2' := k2 _ _ hx1'
  have X3 : K.In (h1.push (kxs_mw "ValueError.__init__" e)) := X2.keeps k2
  have hns2 : (h1.push (kxs_mw "ValueError.__init__" e)).Ns env.locals (fun x_1 => ([(("self" : Str), Value.ref e), (x, v)] : List (Str × Value)).reverse.lookup x_1) := hns'.keeps fun b o e => k2 b o (kh1 b o e)
  have kall : ∀ b o, H1.get? b = some o → (h1.push (kxs_mw "ValueError.__init__" e)).get? b = some o := fun b o e => k2 b o (kh1 b o (hk0 b o e))
  generalize (h1.push (kxs_mw "ValueError.__init__" e)) = H2 at k2 hu hx2' X3 hns2 kall ⊢
  refine kxs_callWith (i := "ValueError.__init__") (x := e) (by rw [hst]; rfl) ?_
  rw [hst]
  refine evalArgs_plain (spliced_cons (Calls.Constant_str (k := kz) (pos := pz) (spliced_nil ⟨hu, ?_⟩)))
  refine call_mw (K := K) (X3 _ _ hC) hx2' hu (by show 1 ≤ sizeLine; rw [sizeLine_eq]; decide) fun h3 t1 k3 e3 => ?_
  have hle : e < H1.objs.size := Heap.lt_size hget
  have xK : ∀ b o, b ≠ e → H1.get? b = some o → h3.get? b = some o := fun b o ne z => k3 b o ne (kall b o z)
  have X4 : K.In h3 := X3' h3 xK
  have hns3 : h3.Ns env.locals (fun x_1 => ([(("self" : Str), Value.ref e), (x, v)] : List (Str × Value)).reverse.lookup x_1) := by
    obtain ⟨oL, es, ep, hL, r⟩ := hns2
    exact ⟨oL, es, ep, k3 _ _ (by rw [f7]; exact Nat.ne_of_gt hle) hL, r⟩
  refine ks_wpAt_execs_cons (wpAt_of_wpAny (plainObj_wpAny_Assign_Attribute ?_ (hsw2 _)))
  refine wpAny_Name (wpAny_loadName_local sk' ((f2 _).trans l2) hns3 ns2 ?_) hx4
  refine wpAny_Name (wpAny_loadName_local sk' ((f2 _).trans l1) hns3 ns1 ?_)
  refine set_plain X4 (ox := PySem.HandSPX.excO C t1) (od := none) ⟨e3, rfl, rfl, trivial⟩ T.oex.sa ?_
  refine PySem.HandSPX.exc_osa X4 e3 hcl (show PySem.HandSPX.refsVE (.ref C :: bm) = true from hbm) rfl T.no (fun h' tk' dx k dn dne hx hn => ?_)
  refine wpAt_of_wpAny (wpAny_execs_nil ?_)
  refine hq h' tk' dx t1 (fun b o ne z => k b o ne (xK b o ne z)) (Nat.le_trans ?_ dn) dne hx hn
  obtain ⟨oL, es, ep, hL, _⟩ := hns3
  rw [f7] at hL
  exact Nat.le_of_lt (Heap.lt_size hL)
theorem call_ini (T : IniC K prog C f x) (X : K.In hp) (nl : hp.NoLimit) (G : hp.Ns mainGlobals mg) (B : ∃ mb, hp.Ns builtinsNs mb ∧ ∀ x : Str, x ≠ "__name__" → mb x = bootBuiltins x)
    (room : (A.under (.builtin "type.__call__" ⟨[.ref C, v], []⟩)).depth < recursionLimit)
    (hq : ∀ h' tk' a dx t1, (∀ b o, hp.get? b = some o → h'.get? b = some o) → hp.objs.size ≤ a → hp.objs.size ≤ dx → dx ≠ a → h'.get? a = some ({ cls := .ref C, dict := some dx, data := .fields #[.ref t1, .none, .none, .none, .bool false, .none] } : Obj) →
      h'.Ns1 dx (fun y => if y = f then some v else none) → Q (.ref a) ⟨h', g, d, tk', os⟩) :
    wpAny (model prog w) A (call (.ref C) [v]) Q E ⟨hp, g, d, t, os⟩ := by
  obtain ⟨nm, q, N, bs, bm, sn, sub, ab, col, dd, k0, k1, k2, k3, k5, hC, hbm⟩ := id T.oex.cls
  obtain ⟨st, fI, cc, cda, name, qual, kV, doc, pm, ct, oc, ccl, cl, an, od, cdd, cld, osl, ccs, csl, vs, file, tf, TS, iC, tI, hrest⟩ := id T.ini
  refine wpAny_call (PySem.HandSPX.call_own PySem.F.excBase_ValueError (fun Y => PySem.HandSPX.refsVE_contains Y bm hbm) (X _ _ hC) (looks_findIn X iC) (fun self => bind_fn X self tI) (by show 1 ≤ sizeLine; rw [sizeLine_eq]; decide) ?_)
  have kk : ∀ b o, hp.get? b = some o → ((hp.push (kdv_tup [v])).push (PySem.HandSPX.excO C hp.objs.size)).get? b = some o := fun b o e => Heap.get?_push_of_some _ (Heap.get?_push_of_some _ e)
  have hget : ((hp.push (kdv_tup [v])).push (PySem.HandSPX.excO C hp.objs.size)).get? (hp.objs.size + 1) = some (PySem.HandSPX.excO C hp.objs.size) := by heap_get
  generalize ((hp.push (kdv_tup [v])).push (PySem.HandSPX.excO C hp.objs.size)) = H1 at kk hget ⊢
  refine ini_run T (X.keeps kk) (fun h' k => X.keeps fun b o e => k b o (Nat.ne_of_lt (Nat.lt_succ_of_lt (Heap.lt_size e))) (kk b o e)) (nl.keeps kk) (G.keeps kk) (let ⟨mb, h1, h2⟩ := B; ⟨mb, h1.keeps kk, h2⟩) room hget iC (.inl rfl) fun h' tk' dx t1 k ld ne hx hn => ⟨rfl, ?_⟩
  exact hq h' tk' (hp.objs.size + 1) dx t1 (fun b o e => k b o (Nat.ne_of_lt (Nat.lt_succ_of_lt (Heap.lt_size e))) (kk b o e)) (Nat.le_succ _) (Nat.le_trans (Nat.le_of_lt (Nat.lt_of_succ_lt (Heap.lt_size hget))) ld) ne hx hn
end
end DL
/-! DLR1: such an error made by C(f = v). -/
namespace DL
section
open PySem PySem.HandSPX Builtin Builtin.ObjectAttr
section
variable {M : Model} {A : Around} {E : Value → Shared → Prop} {h : Heap} {g : Array GenState} {d : Drawn} {t : Nat} {os : OsState}
variable {nm q : Str} {C N : Addr} {bs bm bmB : List Value} {hdct : Bool} {sn : List Str} {sub : List Value} {ab : Bool} {col : Option Bool} {dd : Option Addr} {k0 k1 k2 k3 k5 : Option Value} {B newId initId : String} {kw : List (Str × Value)}
theorem check_new_ownK (F : ExcBaseFacts B newId initId bmB) (hT : ∀ X : String, bm.contains (.type X) = bmB.contains (.type X)) {rest : List Value} {Q : Unit → Shared → Prop}
    (hC : h.get? C = some (excClassObj nm q C N bs bm hdct sn sub ab col dd k0 k1 k2 k3 k5 newId)) (hq : Q () ⟨h, g, d, t, os⟩) : wpAny M A (checkBuiltinCall newId ⟨.ref C :: rest, kw⟩) Q E ⟨h, g, d, t, os⟩ := by
  have hcont : (Value.ref C :: bm).contains (.type B) = true := by rw [List.contains_cons, hT, F.hasB, Bool.or_true]
  have hstar := F.noStar
  simp only [checkBuiltinCall, F.newKind, F.newSplit, F.newRow]
  repeat (first | refine wpAny_loadPart_at hC ?_ | (refine wpAny_isSubtype_exc hC ?_; rw [hcont]) | refine wpAny_staticBase_exc hC ?_ | refine wpAny_madeBy_exc hC ?_ | simp only [bne_self_eq_false, Bool.false_eq_true, if_false] | wp_step)
  exact hq
end
section
variable {prog : Program} {w : World} {A : Around} {E : Value → Shared → Prop} {R : Result → Shared → Prop} {h : Heap} {g : Array GenState} {d : Drawn} {t : Nat} {os : OsState}
variable {nm q : Str} {C N : Addr} {bs bm bmB : List Value} {hdct : Bool} {sn : List Str} {sub : List Value} {ab : Bool} {col : Option Bool} {dd : Option Addr} {k0 k1 k2 k3 k5 : Option Value} {B newId initId : String} {kw : List (Str × Value)}
theorem new_ownK (F : ExcBaseFacts B newId initId bmB) (hT : ∀ X : String, bm.contains (.type X) = bmB.contains (.type X)) {rest : List Value}
    (hC : h.get? C = some (excClassObj nm q C N bs bm hdct sn sub ab col dd k0 k1 k2 k3 k5 newId))
    (hq : R (.ok (.ret (.ref (h.objs.size + 1)))) ⟨(h.push { cls := .type "tuple", data := .seq rest.toArray }).push
      { cls := .ref C, data := .fields #[.ref h.objs.size, .none, .none, .none, .bool false, .none] }, g, d, t, os⟩) (hrest : rest.length ≤ sizeLine) :
    codeAny (model prog w) A (.builtin newId ⟨.ref C :: rest, kw⟩) R ⟨h, g, d, t, os⟩ := by
  have hends := F.ends
  have hcB : (Value.ref C :: bm).contains (.type B) = true := by rw [List.contains_cons, hT, F.hasB, Bool.or_true]
  have hcA : (Value.ref C :: bm).contains (.type "AttributeError") = false := by rw [List.contains_cons, hT, F.noAttr]; rfl
  have hcN : (Value.ref C :: bm).contains (.type "NameError") = false := by rw [List.contains_cons, hT, F.noName]; rfl
  refine codeAny_builtinAt F.entry ?_
  unfold Builtin.«BaseException.__new__»
  refine wpAt_bind ?_
  show wpAt _ _ _ (stack >>= _) _ _ _
  refine wpAt_bind (wpAt_stack fun p below => wpAt_of_wpAny ?_)
  wp_walk
  refine wpAt_of_wpAny ?_
  rw [F.owner]
  repeat (first | with_reducible refine wpAny_madeHere_exc F.canon hC ?_ | with_reducible refine wpAny_loadPart_at hC ?_ | (with_reducible refine wpAny_isSubtype_exc hC ?_; first | rw [hcB] | rw [hcA] | rw [hcN]) | wp_step)
  show R _ _
  rw [Heap.size_push]
  exact hq

theorem type_call_ownK (F : ExcBaseFacts B newId initId bmB) (hT : ∀ X : String, bm.contains (.type X) = bmB.contains (.type X)) {rest : List Value} {fI : Addr} {Q : Fin → Shared → Prop}
    (hC : h.get? C = some (excClassObj nm q C N bs bm hdct sn sub ab col dd k0 k1 k2 k3 k5 newId))
    (hi : W.Looks (model prog w) h (typeLookup (.ref C) "__init__") (some (.ref fI))) (hb : ∀ self, W.Looks (model prog w) h (bindSpecial (.ref fI) self) (.ref fI, [self])) (hrest : rest.length ≤ sizeLine)
    (hq : codeAny (model prog w) A (.call (.ref fI) ⟨.ref (h.objs.size + 1) :: rest, kw⟩)
      (fun r s' => match r with | .ok (.ret v) => v = .none ∧ Q (.done (.ret (.ref (h.objs.size + 1)))) s' | .ok _ => False | .error e => E e s')
      ⟨(h.push (W.kdv_tup rest)).push (PySem.HandSPX.excO C h.objs.size), g, d, t, os⟩) :
    wpAny (model prog w) A (Builtin.«type.__call__» ⟨.ref C :: rest, kw⟩) Q E ⟨h, g, d, t, os⟩ := by
  repeat (first | with_reducible refine wpAny_loadPart_at hC ?_ | with_reducible refine wpAny_madeBy_exc hC ?_ | wp_step)
  refine codeAny_call_builtin_code (Code.quiet_builtin _ F.quiet) (check_new_ownK F hT hC ?_)
  refine new_ownK F hT hC ?_ hrest
  show wpAny _ _ _ _ _ _
  have k : ∀ b o, h.get? b = some o → ((h.push (W.kdv_tup rest)).push (PySem.HandSPX.excO C h.objs.size)).get? b = some o := fun b o e => Heap.get?_push_of_some _ (Heap.get?_push_of_some _ e)
  have hC₁ := k _ _ hC
  have hget : ((h.push (W.kdv_tup rest)).push (PySem.HandSPX.excO C h.objs.size)).get? (h.objs.size + 1) = some (PySem.HandSPX.excO C h.objs.size) := by heap_get
  have hcC : (Value.ref C :: bm).contains (.ref C) = true := by simp
  have i1 := hi.keeps k
  have b1 := (hb (.ref (h.objs.size + 1))).keeps k
  unfold isInstance
  repeat (first | with_reducible refine wpAny_loadPart_at hget ?_ | (with_reducible refine wpAny_isSubtype_exc hC₁ ?_; rw [hcC]) | wp_step)
  show wpAny _ _ (typeLookup (.ref C) _) _ _ _
  refine i1.at ?_
  refine wpAny_holding (wpAny_bind (b1.at ?_))
  refine wpAny_bind (wpAny_call (codeAny_mono hq fun r s' z => ?_))
  rcases r with e | (v | _ | _ | _) <;> first | exact z | exact z.elim | skip
  obtain ⟨rfl, z⟩ := z
  first
    | exact wpAny_pure (wpAny_pure z)
    | (wp_walk; exact z)

theorem call_ownK (F : ExcBaseFacts B newId initId bmB) (hT : ∀ X : String, bm.contains (.type X) = bmB.contains (.type X)) {rest : List Value} {fI : Addr}
    (hC : h.get? C = some (excClassObj nm q C N bs bm hdct sn sub ab col dd k0 k1 k2 k3 k5 newId))
    (hi : W.Looks (model prog w) h (typeLookup (.ref C) "__init__") (some (.ref fI))) (hb : ∀ self, W.Looks (model prog w) h (bindSpecial (.ref fI) self) (.ref fI, [self])) (hrest : rest.length ≤ sizeLine)
    (hq : codeAny (model prog w) (A.under (.builtin "type.__call__" ⟨.ref C :: rest, kw⟩)) (.call (.ref fI) ⟨.ref (h.objs.size + 1) :: rest, kw⟩) (W.InitBack (h.objs.size + 1) R)
      ⟨(h.push (W.kdv_tup rest)).push (PySem.HandSPX.excO C h.objs.size), g, d, t, os⟩) :
    codeAny (model prog w) A (.call (.ref C) ⟨rest, kw⟩) R ⟨h, g, d, t, os⟩ := by
  have f1 := tc_lookup
  have f2 := tc_bind (.ref C)
  have hTy : (⟨h, g, d, t, os⟩ : Shared).TypeIs (.ref C) "type" := ⟨_, hC, rfl⟩
  refine codeAny_of_tree ?_
  show wpAny _ _ (callAny (.ref C) _) _ _ _
  repeat (any_goals (first | assumption | with_reducible refine wpAny_loadPart_at hC ?_ | wp_step))
  refine ⟨rfl, ?_⟩
  refine codeAny_call_builtin_at (Code.quiet_builtin _ (by decide +kernel)) entry_typeCall (wpAny_check_type_call_sub hC (type_call_ownK F hT hC hi hb hrest ?_))
  refine codeAny_mono hq fun r s' z => ?_
  rcases r with e | (v | _ | _ | _) <;> exact z

end
end
section
open PySem PySem.W PySem.Calls PyProof.Rows
variable {prog : Program} {w : World} {A : Around} {E : Value → Shared → Prop} {hp : Heap} {g : Array GenState} {d : Drawn} {t : Nat} {os : OsState} {K : Frag} {C : Addr} {f x : Str} {v : Value} {mg : Str → Option Value} {Q : Value → Shared → Prop}
theorem call_iniK (T : IniC K prog C f x) (X : K.In hp) (nl : hp.NoLimit) (G : hp.Ns mainGlobals mg) (B : ∃ mb, hp.Ns builtinsNs mb ∧ ∀ x : Str, x ≠ "__name__" → mb x = bootBuiltins x)
    (room : (A.under (.builtin "type.__call__" ⟨[.ref C], [(x, v)]⟩)).depth < recursionLimit)
    (hq : ∀ h' tk' a dx t1, (∀ b o, hp.get? b = some o → h'.get? b = some o) → hp.objs.size ≤ a → hp.objs.size ≤ dx → dx ≠ a → h'.get? a = some ({ cls := .ref C, dict := some dx, data := .fields #[.ref t1, .none, .none, .none, .bool false, .none] } : Obj) →
      h'.Ns1 dx (fun y => if y = f then some v else none) → Q (.ref a) ⟨h', g, d, tk', os⟩) :
    wpAny (model prog w) A (call (.ref C) [] [(x, v)]) Q E ⟨hp, g, d, t, os⟩ := by
  obtain ⟨nm, q, N, bs, bm, sn, sub, ab, col, dd, k0, k1, k2, k3, k5, hC, hbm⟩ := id T.oex.cls
  obtain ⟨st, fI, cc, cda, name, qual, kV, doc, pm, ct, oc, ccl, cl, an, od, cdd, cld, osl, ccs, csl, vs, file, tf, TS, iC, tI, hrest⟩ := id T.ini
  refine wpAny_call (call_ownK PySem.F.excBase_ValueError (fun Y => PySem.HandSPX.refsVE_contains Y bm hbm) (X _ _ hC) (looks_findIn X iC) (fun self => bind_fn X self tI) (by show 0 ≤ sizeLine; rw [sizeLine_eq]; decide) ?_)
  have kk : ∀ b o, hp.get? b = some o → ((hp.push (kdv_tup [])).push (PySem.HandSPX.excO C hp.objs.size)).get? b = some o := fun b o e => Heap.get?_push_of_some _ (Heap.get?_push_of_some _ e)
  have hget : ((hp.push (kdv_tup [])).push (PySem.HandSPX.excO C hp.objs.size)).get? (hp.objs.size + 1) = some (PySem.HandSPX.excO C hp.objs.size) := by heap_get
  generalize ((hp.push (kdv_tup [])).push (PySem.HandSPX.excO C hp.objs.size)) = H1 at kk hget ⊢
  refine ini_run T (X.keeps kk) (fun h' k => X.keeps fun b o e => k b o (Nat.ne_of_lt (Nat.lt_succ_of_lt (Heap.lt_size e))) (kk b o e)) (nl.keeps kk) (G.keeps kk) (let ⟨mb, h1, h2⟩ := B; ⟨mb, h1.keeps kk, h2⟩) room hget iC (.inr rfl) fun h' tk' dx t1 k ld ne hx hn => ⟨rfl, ?_⟩
  exact hq h' tk' (hp.objs.size + 1) dx t1 (fun b o e => k b o (Nat.ne_of_lt (Nat.lt_succ_of_lt (Heap.lt_size e))) (kk b o e)) (Nat.le_succ _) (Nat.le_trans (Nat.le_of_lt (Nat.lt_of_succ_lt (Heap.lt_size hget))) ld) ne hx hn
end
end DL
/-! DLT6: E(x) for a class of errors with an __init__ of its own. -/
namespace DL
open PySem PySem.Spec PyProof.Rows L2
section
variable {X : Cx} {W : WX}
theorem laid2 {pins : List (Addr × Obj)} {σ : L2.St} {H : Hp} {s : Shared} {h' : Heap} {t' : Nat} {a b : Addr} {o u : HO} (I : L2.Inv X pins σ H s) (k : ∀ b u, s.heap.get? b = some u → h'.get? b = some u) (ha : s.heap.objs.size ≤ a) (hb : s.heap.objs.size ≤ b) (ne : b ≠ a)
    (na : ObjOk X.prog X.w (upd (upd H b u) a o) h' a o) (nb : ObjOk X.prog X.w (upd (upd H b u) a o) h' b u) : L2.Inv X pins σ (upd (upd H b u) a o) { s with heap := h', toks := t' } := by
  have hna : H a = none := I.hok.fresh ha
  have hnb : H b = none := I.hok.fresh hb
  have up : ∀ {c : Addr}, c ≠ a → c ≠ b → upd (upd H b u) a o c = H c := fun h1 h2 => by rw [upd_ne h1, upd_ne h2]
  have old : ∀ {c : Addr} {x : HO}, H c = some x → upd (upd H b u) a o c = some x := fun {c x} q => by rw [up (ne_of_none q hna) (ne_of_none q hnb)]; exact q
  have neh : ∀ {c : Addr} {x : Obj}, s.heap.get? c = some x → c ≠ a ∧ c ≠ b := fun {c x} q => ⟨Nat.ne_of_lt (Nat.lt_of_lt_of_le (Heap.lt_size q) ha), Nat.ne_of_lt (Nat.lt_of_lt_of_le (Heap.lt_size q) hb)⟩
  refine I.un (t' := t') { keep := fun c x q _ _ _ => k c x q, slot := fun c x q _ _ _ => ⟨x.slots, k c x q⟩, free := fun c x q n _ => by rw [up (neh q).1 (neh q).2]; exact n, there := fun c x q _ => ⟨x, k c x q⟩, tups := fun c xs q => old q, frzs := fun c x v q => old q, tbls := fun c ps q => ⟨#[], by rw [old q]; simp⟩ } fun c x q => ?_
  by_cases h1 : c = a
  · subst h1
    rw [upd_same] at q
    cases q
    exact na
  · rw [upd_ne h1] at q
    by_cases h2 : c = b
    · subst h2
      rw [upd_same] at q
      cases q
      exact nb
    · rw [upd_ne h2] at q
      exact (I.hok c x q).stay (fun c v _ z => k c v z) (fun c z => old z) fun c xs z => old z
/-- E(v) or E(x = v): the error and its dict stand -/
def tIni (C : Addr) (f : Str) (t : TE) : TE := fun σ H Q => t σ H fun v H1 => ∀ (a dx : Addr) (od oe : Obj), H1 a = none → H1 dx = none → dx ≠ a → Zc (.ref C) (some dx) oe → (∃ vs, oe.data = Data.fields vs) → Q (V.ref a) (upd (upd H1 dx (.frz od (.xd [(f, v)]))) a (excO oe))
theorem ini_end {pins : List (Addr × Obj)} {σ : L2.St} {H1 : Hp} {hp h' : Heap} {gg : Array GenState} {dd : Drawn} {tt tk' : Nat} {oo : OsState} {C a dx t1 : Addr} {f : Str} {v : V} {u : Value} {Q : VK} (I1 : L2.Inv X pins σ H1 ⟨hp, gg, dd, tt, oo⟩) (r1 : RelV v u) (kk : ∀ b o, hp.get? b = some o → h'.get? b = some o) (la : hp.objs.size ≤ a) (ld : hp.objs.size ≤ dx) (ne : dx ≠ a)
    (ea : h'.get? a = some ({ cls := .ref C, dict := some dx, data := .fields #[.ref t1, .none, .none, .none, .bool false, .none] } : Obj)) (en : h'.Ns1 dx (fun y => if y = f then some u else none))
    (q1 : ∀ (a dx : Addr) (od oe : Obj), H1 a = none → H1 dx = none → dx ≠ a → Zc (.ref C) (some dx) oe → (∃ vs, oe.data = Data.fields vs) → Q (V.ref a) (upd (upd H1 dx (.frz od (.xd [(f, v)]))) a (excO oe))) :
    EP X pins σ Q (.ref a) ⟨h', gg, dd, tk', oo⟩ := by
  obtain ⟨od, es, ep, ho, hr'⟩ := id en
  have na : ∀ H2, ObjOk X.prog X.w H2 h' a (excO ({ cls := .ref C, dict := some dx, data := .fields #[.ref t1, .none, .none, .none, .bool false, .none] } : Obj)) := fun H2 => by
    simp only [ObjOk]
    exact ⟨ea, trivial, ⟨_, ea⟩, fun _ _ _ _ => trivial⟩
  have nb : ∀ H2, ObjOk X.prog X.w H2 h' dx (.frz od (.xd [(f, v)])) := fun H2 => by
    simp only [ObjOk]
    refine ⟨ho, _, en, fun y => ?_⟩
    rw [lookup_put]
    by_cases z : y = f
    · rw [if_pos z, if_pos z]; exact r1
    · rw [if_neg z, if_neg z]; exact trivial
  exact ⟨V.ref a, _, laid2 (t' := tk') I1 kk la ld ne (na _) (nb _), rfl, q1 a dx od _ (I1.hok.fresh la) (I1.hok.fresh ld) ne ⟨rfl, rfl⟩ ⟨_, rfl⟩⟩
theorem pe_ini {k : Nat} {C : Addr} {c f x : Str} {e : Expr} {t : TE} {p pos : Pos} (T : IniC X.K X.prog C f x) (hr : GRoom k X.A) (hm : X.mg c = some (.ref C)) (h : PE X e t) (hg : Gl X c := by rfl)
    (hs : starEach [e] X.env = (false, eval e X.env) :: starEach [] X.env := by rfl) (hd : (c == ("__debug__" : Str)) = false := by decide) : PE X (.Call (.Name c p) [e] [] pos) (tIni C f t) := by
  refine ⟨fun pins s0 σ H Q I q => ?_⟩
  refine wpAny_Call_Name_kw (ld_glob I hg hm ?_ hd)
  refine PySem.W.callWith_K (h₀ := X.base) I.ok.mod.kin T.oex.kC ?_ hs (by rfl)
  rw [hs]
  show wpAny _ _ (spliced ((false, eval e X.env) :: backTo pos (starEach [] X.env))) _ _ s0
  refine Calls.spliced_cons (thn (h.run pins s0 σ H _ I q) fun u s1 ⟨v, H1, I1, r1, q1⟩ => ?_)
  refine Calls.spliced_nil ⟨I1.kIn, ?_⟩
  show wpAny _ _ (call (.ref C) [u]) _ _ _
  obtain ⟨hp, gg, dd, tt, oo⟩ := s1
  refine call_ini T I1.kIn I1.nolimit (I1.mod.glob.keeps I1.bk) (let ⟨mb, h1, h2⟩ := I1.mod.blt; ⟨mb, h1.keeps I1.bk, h2⟩) ?_ fun h' tk' a dx t1 kk la ld ne ea en => ini_end I1 r1 kk la ld ne ea en q1
  have := hr.room.dp
  rw [make_depth]
  omega
def rIni (C : Addr) (f : Str) : Rl := fun vs H1 Q => match vs with
  | [v] => ∀ (a dx : Addr) (od oe : Obj), H1 a = none → H1 dx = none → dx ≠ a → Zc (.ref C) (some dx) oe → (∃ vs, oe.data = Data.fields vs) → Q (V.ref a) (upd (upd H1 dx (.frz od (.xd [(f, v)]))) a (excO oe))
  | _ => False
theorem pe_iniK {k : Nat} {C : Addr} {c f x : Str} {kw : Keyword} {t : TA} {p pos : Pos} (T : IniC X.K X.prog C f x) (hr : GRoom k X.A) (hm : X.mg c = some (.ref C)) (h : PK X [kw] t) (hg : Gl X c := by rfl) (hd : (c == ("__debug__" : Str)) = false := by decide)
    (hall : (backToKw pos (keywordEach [kw] X.env)).all (·.1.isSome) = true := by rfl) (hks : (backToKw pos (keywordEach [kw] X.env)).filterMap (·.1) = [x] := by rfl)
    (hpl : ((backTo pos (starEach [] X.env)).any (·.1) || (backToKw pos (keywordEach [kw] X.env)).any (·.1.isNone)) = false := by rfl) :
    PE X (.Call (.Name c p) [] [kw] pos) (fun σ H Q => t σ H fun vs H1 => rIni C f vs H1 Q) := by
  refine ⟨fun pins s0 σ H Q I q => ?_⟩
  refine wpAny_Call_Name_kw (ld_glob I hg hm ?_ hd)
  refine PySem.W.callWith_KW0 (h₀ := X.base) I.ok.mod.kin T.oex.kC hall ?_ hpl
  refine thn (h.run pos pins s0 σ H _ I q) fun ws s1 ⟨zs, H1, I1, rz, q1⟩ => ⟨I1.kIn, ?_⟩
  rw [hks]
  cases rz with
  | nil => exact q1.elim
  | @cons v u _ _ r1 rr =>
  cases rr with
  | cons _ _ => exact q1.elim
  | nil =>
  obtain ⟨hp, gg, dd, tt, oo⟩ := s1
  show wpAny _ _ (call (.ref C) [] [(x, u)]) _ _ _
  refine call_iniK T I1.kIn I1.nolimit (I1.mod.glob.keeps I1.bk) (let ⟨mb, h1, h2⟩ := I1.mod.blt; ⟨mb, h1.keeps I1.bk, h2⟩) ?_ fun h' tk' a dx t1 kk la ld ne ea en => ini_end I1 r1 kk la ld ne ea en q1
  have := hr.room.dp
  rw [make_depth]
  omega
theorem rep_ini {F : Fz} {H1 : Hp} {a dx C : Addr} {od oe : Obj} {c f : Str} {v : V} {x : D} (hn : PySem.W.nsIn X.K mainGlobals c = some (some (.ref C))) (ha : H1 a = none) (hd : H1 dx = none) (ne : dx ≠ a) (hz : Zc (.ref C) (some dx) oe) (hf : ∃ vs, oe.data = Data.fields vs) (r : Rep X.K F H1 x v) :
    Same H1 (upd (upd H1 dx (.frz od (.xd [(f, v)]))) a (excO oe)) ∧ Rep X.K F (upd (upd H1 dx (.frz od (.xd [(f, v)]))) a (excO oe)) (.exc c [.str f, x]) (.ref a) := by
  have sm : Same H1 (upd (upd H1 dx (.frz od (.xd [(f, v)]))) a (excO oe)) := fun b x e => by
    rw [upd_ne (ne_of_none e ha), upd_ne (ne_of_none e hd)]
    exact e
  exact ⟨sm, [.str f, v], a, oe, _, C, some dx, ⟨_, _, rfl, rfl, _, _, rfl, rep_same sm r, RepL.nil⟩, ⟨dx, od, [(f, v)], rfl, by rw [upd_ne ne, upd_same], ⟨_, _, _, _, rfl, rfl, rfl, rfl⟩⟩, rfl, upd_same, hn, hz, hf⟩
theorem e_excI {k : Nat} {C : Addr} {c f x : Str} {e : Expr} {m : DE} {p pos : Pos} (T : IniC X.K X.prog C f x) (hr : GRoom k X.A)
    (hn : PySem.W.nsIn X.K mainGlobals c = some (some (.ref C))) (hm : X.mg c = some (.ref C)) (ha : DEv X W e m) (hg : Gl X c := by rfl)
    (hs : starEach [e] X.env = (false, eval e X.env) :: starEach [] X.env := by rfl) (hd : (c == ("__debug__" : Str)) = false := by decide) : DEv X W (.Call (.Name c p) [e] [] pos) (dExcV c m) := by
  obtain ⟨t, h, s⟩ := ha
  refine ⟨_, pe_ini T hr hm h hg hs hd, fun O F σ H env Q st g => ?_⟩
  refine s O F σ H env _ st ?_
  unfold dExcV at g
  cases q : m env with
  | bad => rw [q] at g; exact g.elim
  | err x e => rw [q] at g; exact g
  | ok r env1 =>
    rw [q] at g
    intro F1 H1 v E1 s1 rep a dx od oe ha hdx ne hz hf
    have sm : Same H1 (upd (upd H1 dx (.frz od (.xd [(f, v)]))) a (excO oe)) := fun b x e => by
      rw [upd_ne (ne_of_none e ha), upd_ne (ne_of_none e hdx)]
      exact e
    refine g F1 _ _ (E1.trans (Ext.same sm s1.odom)) (s1.same sm) ⟨[], a, oe, _, C, some dx, RepL.nil, fun dy ey => ?_, rfl, upd_same, hn, hz, hf⟩
    cases ey
    exact ⟨od, _, by rw [upd_ne ne, upd_same]⟩
/-- the same, the field known -/
def pExcF (c f : Str) : Pr := fun ds => match ds with
  | [.lst _] => none
  | [d] => some (.d (.exc c [.str f, d]))
  | _ => none
theorem pr_excF {C : Addr} {c f : Str} (hn : PySem.W.nsIn X.K mainGlobals c = some (some (.ref C))) : PrimR X.K (pExcF c f) (rIni C f) := fun F H ds vs Q pr fd rt e q => by
  unfold pExcF at e
  split at e
  · cases e
  · rename_i d hd
    cases e
    obtain ⟨v, _, rfl, h1, rfl⟩ := rt
    have h2 : Rep X.K F H d v := by
      cases d with
      | lst ds => exact absurd rfl (hd ds)
      | _ => exact h1
    intro a dx od oe ha hdx ne hz hf
    obtain ⟨sm, rp⟩ := rep_ini (X := X) (od := od) (f := f) hn ha hdx ne hz hf h2
    exact q _ _ sm rp
  · cases e
theorem e_excF {k : Nat} {C : Addr} {c f x : Str} {e : Expr} {o : Opd} {p pos : Pos} (T : IniC X.K X.prog C f x) (hr : GRoom k X.A)
    (hn : PySem.W.nsIn X.K mainGlobals c = some (some (.ref C))) (hm : X.mg c = some (.ref C)) (ha : DOp X W e o) (hg : Gl X c := by rfl)
    (hs : starEach [e] X.env = (false, eval e X.env) :: starEach [] X.env := by rfl) (hd : (c == ("__debug__" : Str)) = false := by decide) : DEv X W (.Call (.Name c p) [e] [] pos) (dPrim (pExcF c f) [o]) := by
  obtain ⟨t, h, s⟩ := ha
  exact ⟨_, pe_ini T hr hm h hg hs hd, sem_prim (asem1 s) (pr_excF hn)⟩
/-- E(x = v) -/
theorem e_excFK {k : Nat} {C : Addr} {c f x : Str} {kw : Keyword} {o : Opd} {p pos : Pos} (T : IniC X.K X.prog C f x) (hr : GRoom k X.A)
    (hn : PySem.W.nsIn X.K mainGlobals c = some (some (.ref C))) (hm : X.mg c = some (.ref C)) (ha : DKs X W [kw] [o]) (hg : Gl X c := by rfl) (hd : (c == ("__debug__" : Str)) = false := by decide)
    (hall : (backToKw pos (keywordEach [kw] X.env)).all (·.1.isSome) = true := by rfl) (hks : (backToKw pos (keywordEach [kw] X.env)).filterMap (·.1) = [x] := by rfl)
    (hpl : ((backTo pos (starEach [] X.env)).any (·.1) || (backToKw pos (keywordEach [kw] X.env)).any (·.1.isNone)) = false := by rfl) :
    DEv X W (.Call (.Name c p) [] [kw] pos) (dPrim (pExcF c f) [o]) := by
  obtain ⟨t, h, s⟩ := ha
  exact ⟨_, pe_iniK T hr hm h hg hd hall hks hpl, sem_prim s (pr_excF hn)⟩
/-! ### e.f -/
def fldD : List D → Str → Option D
  | .str g :: x :: r, f => if f = g then some x else fldD r f
  | _, _ => none
theorem fld_of {K : PySem.W.Frag} {F : Fz} {H : Hp} {f : Str} {x : D} : ∀ {fs : List D} {fv : List V} {r : List (Str × V)}, RepL K F H fs fv → FldV fs fv r → fldD fs f = some x → ∃ v, r.lookup f = some v ∧ Rep K F H x v
  | [], _, _, _, _, e => by cases e
  | [.str g], _, _, _, _, e => by cases e
  | .str g :: y :: ds, fv, r, rl, fl, e => by
    obtain ⟨u, v, vs', r', rfl, rfl, fl'⟩ := fl
    obtain ⟨_, _, e1, _, _, _, e2, ry, rl'⟩ := rl
    cases e1
    cases e2
    unfold fldD at e
    rw [lookup_put]
    by_cases z : f = g
    · rw [if_pos z] at e ⊢
      cases e
      exact ⟨_, rfl, ry⟩
    · rw [if_neg z] at e ⊢
      exact fld_of rl' fl' e
  | .non :: _, _, _, _, _, e => by cases e
  | .bl _ :: _, _, _, _, fl, _ => fl.elim
  | .int _ :: _, _, _, _, fl, _ => fl.elim
  | .lst _ :: _, _, _, _, fl, _ => fl.elim
  | .tup _ :: _, _, _, _, fl, _ => fl.elim
  | .fz _ :: _, _, _, _, fl, _ => fl.elim
  | .exc _ _ :: _, _, _, _, fl, _ => fl.elim
  | .pr _ _ :: _, _, _, _, fl, _ => fl.elim
  | .rng _ _ :: _, _, _, _, fl, _ => fl.elim
def pFld (c f : Str) : Pr := fun ds => match ds with
  | [.exc g (y :: ys)] => if g = c then (fldD (y :: ys) f).map PR.d else none
  | _ => none
def rFld (C : Addr) (f : Str) : Rl := fun vs H Q => match vs with
  | [v] => ∃ (a dx : Addr) (o od : Obj) (u : HO) (r : List (Str × V)) (w : V), v = .ref a ∧ H a = some (.frz o u) ∧ Zc (.ref C) (some dx) o ∧ (∃ vs, o.data = Data.fields vs) ∧ H dx = some (.frz od (.xd r)) ∧ r.lookup f = some w ∧ Q w H
  | _ => False
theorem pr_fld {C : Addr} {c f : Str} (hn : PySem.W.nsIn X.K mainGlobals c = some (some (.ref C))) : PrimR X.K (pFld c f) (rFld C f) := fun F H ds vs Q pr fd rt e q => by
  unfold pFld at e
  split at e
  · rename_i g y ys
    split at e
    · rename_i hg
      subst hg
      cases q1 : fldD (y :: ys) f with
      | none => rw [q1] at e; cases e
      | some x =>
        rw [q1] at e
        cases e
        obtain ⟨v, _, rfl, h1, rfl⟩ := rt
        obtain ⟨fv, a, o, u, C', d, rfv, hfd, rfl, ha, hn', hz, hv⟩ := h1
        rw [hn] at hn'
        cases hn'
        obtain ⟨dx, od, r, rfl, hdx, hfl⟩ := hfd
        obtain ⟨w, hw, rw'⟩ := fld_of rfv hfl q1
        have hv' : ∃ vs, o.data = Data.fields vs := by
          cases y with
          | non => cases q1
          | _ => exact hv
        exact ⟨a, dx, o, od, u, r, w, rfl, ha, hz, hv', hdx, hw, q H _ (Same.refl _) rw'⟩
    · cases e
  · cases e
theorem e_fld {C : Addr} {c f x : Str} {e : Expr} {o : Opd} {pos : Pos} (T : IniC X.K X.prog C f x) (E : L2.ExcC X.K C) (hn : PySem.W.nsIn X.K mainGlobals c = some (some (.ref C))) (ha : DOp X W e o) (hb : attributeBase e f X.env (eval e X.env) = eval e X.env := by rfl) :
    DEv X W (.Attribute e f pos) (dPrim (pFld c f) [o]) := by
  obtain ⟨t, h, s⟩ := ha
  refine ⟨fun σ H Q => t σ H fun v H1 => rFld C f [v] H1 Q, ⟨fun pins s0 σ H Q I q => ?_⟩, sem_prim (asem1 s) (pr_fld hn)⟩
  refine attr_of hb (thn (h.run pins s0 σ H _ I q) fun u s1 hh => ?_)
  obtain ⟨x1, H1, I1, rx, a, dx, oe, od, u', r, w, ex, ha, hz, ⟨vs, hd⟩, hdx, l, q⟩ := hh
  subst ex
  obtain rfl : u = Value.ref a := rx
  have g1 := I1.hok a _ ha
  have g2 := I1.hok dx _ hdx
  simp only [ObjOk] at g1 g2
  obtain ⟨ho, mA, hns, hr⟩ := g2
  obtain ⟨od', ho', hl⟩ := lookIn_ns hns
  rw [ho] at ho'
  cases ho'
  obtain ⟨u, hu, ru⟩ := RelO.some_of (v := w) (o := mA f) (by rw [← l]; exact hr f)
  have J : PySem.W.InstAt s1.heap a oe C (some od) := ⟨g1.1, hz.1, by unfold PySem.W.notCls; rw [hd] <;> rfl, by rw [hz.2]; exact ho⟩
  exact HandSPX.exc_get I1.kIn J E.hg E.hk E.hs (PySem.W.findObj_own E.hd T.no rfl (by rw [hl, hu])) (handed_of ru) ⟨w, H1, I1.tok _, ru, q⟩
end
end DL
/-! DLV0: instances that stand: read, called, their methods called. -/
namespace DL
open PySem PySem.Spec PyProof.Rows L2
/-- an instance of C that stands, its attributes -/
def PlainAt (H : Hp) (a C : Addr) (r : List (Str × V)) : Prop := ∃ (dx : Addr) (u : HO) (od : Obj), H a = some (.frz (PySem.W.instObj C dx) u) ∧ H dx = some (.frz od (.xd r))
theorem PlainAt.objM {X : Cx} {pins : List (Addr × Obj)} {σ : L2.St} {H : Hp} {s : Shared} {a C : Addr} {r : List (Str × V)} (I : L2.Inv X pins σ H s) (h : PlainAt H a C r) : ∃ dx mA, ObjM s.heap a dx C mA ∧ ∀ f, RelO (r.lookup f) (mA f) := by
  obtain ⟨dx, u, od, h1, h2⟩ := h
  have g1 := I.hok a _ h1
  have g2 := I.hok dx _ h2
  simp only [ObjOk] at g1 g2
  obtain ⟨ho, mA, hns, hr⟩ := g2
  refine ⟨dx, mA, ⟨g1.1, hns, fun z => ?_⟩, hr⟩
  subst z
  obtain ⟨o, es, ep, e1, e2, _⟩ := hns
  rw [g1.1] at e1
  cases e1
  cases e2
theorem PlainAt.ext {O F F' : Fz} {H H' : Hp} (e : Ext O F H F' H') {a C : Addr} {r : List (Str × V)} (h : PlainAt H a C r) : PlainAt H' a C r := let ⟨dx, u, od, h1, h2⟩ := h; ⟨dx, u, od, e.fr _ _ _ h1, e.fr _ _ _ h2⟩
/-- only names and worths -/
def isFld : List D → Bool
  | [] => true
  | .str _ :: _ :: r => isFld r
  | _ => false
theorem fld_none {f : Str} : ∀ {fs : List D} {fv : List V} {r : List (Str × V)}, isFld fs = true → FldV fs fv r → fldD fs f = none → r.lookup f = none
  | [], _, _, _, fl, _ => by obtain ⟨_, rfl⟩ := fl; rfl
  | [.str g], _, _, i, _, _ => by cases i
  | .str g :: y :: ds, fv, r, i, fl, e => by
    obtain ⟨u, v, vs', r', rfl, rfl, fl'⟩ := fl
    unfold fldD at e
    rw [lookup_put]
    by_cases z : f = g
    · rw [if_pos z] at e; cases e
    · rw [if_neg z] at e ⊢
      exact fld_none (by simpa [isFld] using i) fl' e
  | .non :: ds, _, _, i, _, _ => by cases i
  | .bl _ :: _, _, _, i, _, _ => by cases i
  | .int _ :: _, _, _, i, _, _ => by cases i
  | .lst _ :: _, _, _, i, _, _ => by cases i
  | .tup _ :: _, _, _, i, _, _ => by cases i
  | .fz _ :: _, _, _, i, _, _ => by cases i
  | .exc _ _ :: _, _, _, i, _, _ => by cases i
  | .pr _ _ :: _, _, _, i, _, _ => by cases i
  | .rng _ _ :: _, _, _, i, _, _ => by cases i
theorem rep_plain {K : PySem.W.Frag} {F : Fz} {H : Hp} {c : Str} {C : Addr} {ds : List D} {v : V} (hn : PySem.W.nsIn K mainGlobals c = some (some (.ref C))) (h : Rep K F H (.exc c (.non :: ds)) v) :
    ∃ a r fv, v = .ref a ∧ PlainAt H a C r ∧ RepL K F H ds fv ∧ FldV ds fv r := by
  obtain ⟨fv, a, o, u, C', d, rfv, hfd, rfl, ha, hn', hz, hd, hs⟩ := h
  rw [hn] at hn'
  cases hn'
  obtain ⟨dx, od, r, rfl, hdx, u', vs', rfl, hfl⟩ := hfd
  obtain ⟨_, _, e1, _, rl⟩ := rfv
  cases e1
  obtain ⟨oc, odt, oda, osl⟩ := o
  obtain ⟨h1, h2⟩ := hz
  simp only [] at h1 h2 hd hs
  subst h1 h2 hd hs
  exact ⟨a, r, _, rfl, ⟨dx, u, od, ha, hdx⟩, rl, hfl⟩
section
variable {X : Cx} {W : WX}
/-! ### e.f -/
def pFldP (c f : Str) : Pr := fun ds => match ds with
  | [.exc g (.non :: ys)] => if g = c then (fldD ys f).map PR.d else none
  | _ => none
def rFldP (C : Addr) (f : Str) : Rl := fun vs H Q => match vs with
  | [v] => ∃ (a : Addr) (r : List (Str × V)) (w : V), v = .ref a ∧ PlainAt H a C r ∧ r.lookup f = some w ∧ Q w H
  | _ => False
theorem pr_fldP {C : Addr} {c f : Str} (hn : PySem.W.nsIn X.K mainGlobals c = some (some (.ref C))) : PrimR X.K (pFldP c f) (rFldP C f) := fun F H ds vs Q pr fd rt e q => by
  unfold pFldP at e
  split at e
  · rename_i g ys
    split at e
    · rename_i hg
      subst hg
      cases q1 : fldD ys f with
      | none => rw [q1] at e; cases e
      | some x =>
        rw [q1] at e
        cases e
        obtain ⟨v, _, rfl, h1, rfl⟩ := rt
        obtain ⟨a, r, fv, rfl, hp, rl, hfl⟩ := rep_plain hn h1
        obtain ⟨w, hw, rw'⟩ := fld_of rl hfl q1
        exact ⟨a, r, w, rfl, hp, hw, q H _ (Same.refl _) rw'⟩
    · cases e
  · cases e
theorem e_fldP {C : Addr} {c f : Str} {e : Expr} {o : Opd} {pos : Pos} (cl : Cls X.K C) (na : NoAttr X.K C f) (hn : PySem.W.nsIn X.K mainGlobals c = some (some (.ref C))) (ha : DOp X W e o) (hb : attributeBase e f X.env (eval e X.env) = eval e X.env := by rfl) :
    DEv X W (.Attribute e f pos) (dPrim (pFldP c f) [o]) := by
  obtain ⟨t, h, s⟩ := ha
  refine ⟨fun σ H Q => t σ H fun v H1 => rFldP C f [v] H1 Q, ⟨fun pins s0 σ H Q I q => ?_⟩, sem_prim (asem1 s) (pr_fldP hn)⟩
  refine attr_of hb (thn (h.run pins s0 σ H _ I q) fun u s1 hh => ?_)
  obtain ⟨x1, H1, I1, rx, a, r, w, ex, hp, l, q⟩ := hh
  subst ex
  obtain rfl : u = Value.ref a := rx
  obtain ⟨dx, mA, O, hr⟩ := hp.objM I1
  obtain ⟨u', hu, ru⟩ := RelO.some_of (v := w) (o := mA f) (by rw [← l]; exact hr f)
  exact get_map I1.kIn O (cl.get f) cl.hd na hu (handed_of ru) ⟨w, H1, I1.tok _, ru, q⟩
/-! ### e(a, ..), e an instance -/
def dCallO (c : Str) (fn : DFn) (m : DE) (os : List Opd) : DE := fun env => (m env).bind fun r env1 => match r with
  | ⟨.shr, .exc g (.non :: ys)⟩ => if g = c then (evOs os env1).bind fun avs env2 => match getAVs env2 avs with
    | some ds => afterC env2 (fn (shrs (.exc g (.non :: ys) :: ds)))
    | none => .bad
    else .bad
  | _ => .bad
/-- e.m(a, ..), m a method with this worth -/
theorem sem_obj {tf : TE} {m : DE} {t : TA} {os : List Opd} {fn : DFn} {n : Nat} {C : Addr} {c : Str} (hn : PySem.W.nsIn X.K mainGlobals c = some (some (.ref C))) (sf : ESem X W tf m) (s : ASem X W t os) (hv : allV os = true) (hl : os.length + 1 = n) :
    ESem X W (fun σ H Q => tf σ H fun y H1 => ∃ a, y = V.ref a ∧ (∃ r, PlainAt H1 a C r) ∧ t σ H1 fun vs H2 => (∃ r, PlainAt H2 a C r) ∧ spD X.K X.mg false n fn (V.ref a :: vs) H2 Q (WE W σ)) (dCallO c fn m os) := fun O F σ H env Q st g => by
  refine sf O F σ H env _ st ?_
  unfold dCallO at g
  cases q : m env with
  | bad => rw [q] at g; exact g.elim
  | err x e => rw [q] at g; exact g
  | ok r env1 =>
    rw [q] at g
    simp only [R.bind] at g
    split at g
    · rename_i gg ys
      split at g
      · rename_i hg
        subst hg
        intro F1 H1 v E1 s1 rep
        obtain ⟨a, r, fv, rfl, hp, _, _⟩ := rep_plain hn rep
        refine ⟨a, rfl, ⟨r, hp⟩, s O F1 σ H1 env1 _ s1 ?_⟩
        cases q2 : evOs os env1 with
        | bad => rw [q2] at g; exact g.elim
        | err y e => rw [q2] at g; exact fun F' H' cls d E' s' x' => g F' H' cls d (E1.trans E') s' x'
        | ok avs env2 =>
          rw [q2] at g
          simp only [R.bind] at g
          intro F2 H2 vs E2 s2 r2
          cases q3 : getAVs env2 avs with
          | none => rw [q3] at g; exact g.elim
          | some ds =>
            rw [q3] at g
            have rl := AVs.vals hv q2 r2 q3
            have hlen : ds.length = os.length := lenAV q2 q3
            exact ⟨⟨r, hp.ext E2⟩, call_core0 s2 (RepL.cons (Rep.ext E2 _ _ rep) rl) (by rw [List.length_cons, hlen]; exact hl) (EGoal.step (E1.trans E2) g)⟩
      · exact g.elim
    · exact g.elim
theorem e_callO {k n : Nat} {g C : Addr} {c : Str} {fd : FuncData} {ps : List Str} {fn : DFn} {fe e : Expr} {m : DE} {es : List Expr} {os : List Opd} {pos : Pos} (cl : StX.CallO X.K C g) (F : GOk X.prog X.w X.K X.mg X.base k g fd ps (spD X.K X.mg false n fn)) (hr : GRoom k X.A) (hn : PySem.W.nsIn X.K mainGlobals c = some (some (.ref C))) (hb : Binds X.K fd ps []) (tk : Takes X W) (hf : DEv X W fe m) (ha : DAs X W (e :: es) os)
    (hv : allV os = true := by rfl) (hl : os.length + 1 = n := by rfl)
    (ht : eval (.Call fe (e :: es) [] pos) X.env = (do callWith pos (← eval fe X.env) [] (backTo pos (starEach (e :: es) X.env)) (backToKw pos (keywordEach [] X.env))) := by rfl)
    (he : starEach (e :: es) X.env = (false, eval e X.env) :: starEach es X.env := by rfl) (hpl : (backTo pos (starEach es X.env)).any (·.1) = false := by rfl) : DEv X W (.Call fe (e :: es) [] pos) (dCallO c fn m os) := by
  obtain ⟨tf, hf, sf⟩ := hf
  obtain ⟨t, h, s⟩ := ha
  refine ⟨_, ⟨fun pins s0 σ H Q I h0 => ?_⟩, sem_obj hn sf s hv hl⟩
  refine Call_ (thn (hf.run pins s0 σ H _ I h0) fun u s1 ⟨y, H1, I1, ry, a, ey, _, q⟩ => ?_) ht
  subst ey
  obtain rfl : u = Value.ref a := ry
  refine StX.callO_with (thn (h.run pos pins s1 σ H1 _ I1 q) fun us s2 ⟨vs, H2, I2, r, ⟨r0, hp⟩, q2⟩ => ?_) he hpl
  obtain ⟨dx, mA, O, _⟩ := hp.objM I2
  obtain ⟨od, J, _⟩ := O.look
  refine ⟨⟨C, _, od, J, rfl⟩, wpAny_call (PySem.W.kco_code I2.kIn J rfl cl.at_ cl.fn cl.fi ?_)⟩
  have b := hb s2 (Value.ref a :: us) I2.kIn (by rw [List.append_nil, List.length_cons, ← r.length]; exact F.len _ _ _ _ q2)
  rw [List.append_nil] at b
  refine codeAny_mono (g_run F hr tk I2 b (.cons (show L2.RelV (V.ref a) (Value.ref a) from rfl) r) q2) fun res s' hq => ?_
  match res, hq with
  | .error e, hq => exact hq
  | .ok (.ret u), hq => exact hq
end
end DL
/-! DLV1: an instance made by C(a, ..), its __init__ a def with a star parameter that keeps fields. -/
namespace DL
open PySem PySem.Spec PyProof.Rows L2
/-- a def called by whatever arguments -/
def FnG (P : Program) (w : World) (K : PySem.W.Frag) (mg : Str → Option Value) (base : Heap) (k : Nat) (f : Addr) (sp : Sp) : Prop :=
  ∀ (A : Around) (outer : List Env) (s : Shared) (H : Hp) (us : List Value) (vs : List V) (Q : VK) (E : XK), GRoom k A → Env0 P w K mg base A outer s H → Vals vs us → sp vs H Q E →
    codeAny (model P w) A (.call (.ref f) ⟨us, []⟩) (CR (L2.CX P w) outer P w H s Q E) s
section
variable {P : Program} {w : World} {K : PySem.W.Frag} {mg : Str → Option Value} {base : Heap}
/-- a tuple object -/
abbrev tupOb (us : List Value) : Obj := { cls := .type "tuple", data := .seq us.toArray }
theorem gn_star {x qual pv : Str} {st : Stmt} {f : Addr} {fd : FuncData} {N ps : List Str} {k : Nat} {sp : Sp} (Fn : FunV K x qual st f fd) (S : FnScope N (ps ++ [pv]) (defScope st))
    (hb : ∀ us rest : List Value, us.length = ps.length → bindArgs fd ⟨us ++ rest, []⟩ = (newTuple rest >>= fun t => pure (ps.zip us ++ [(pv, t)])))
    (hbody : ∀ (cdv : Value) (A : Around) (outer : List Env) (s : Shared) (H : Hp) (vs : List V) (Q : VK) (E : XK), GRoom k (A.deeper (envOfC qual (defScope st) s.heap.objs.size f cdv)) → sp vs H Q E →
      ∃ t, PSs (cxOf (L2.CX P w) P w K mg base N qual (defScope st) f cdv A outer s H E) (defBody st) t ∧ t { nx := fun _ H' => Q .non H', rt := Q } (L2.start N vs) H) :
    FnG P w K mg base (k + 1) f (fun vs H Q E => ∃ ws rest, vs = ws ++ rest ∧ ws.length = ps.length ∧ rest.length ≤ sizeLine ∧ ∀ p us, H p = Option.none → sp (ws ++ [V.ref p]) (upd H p (.frz (tupOb us) (.tup rest))) Q E) := by
  obtain ⟨oc, od, dV, kV, doc, pm, an, cdv, ct, osl, rfl, lk, hcd⟩ := Fn.ex
  intro A outer s H us vs Q E hr e0 r hsp
  obtain ⟨ws, rest, ev, hl, hz, hq⟩ := hsp
  subst ev
  obtain ⟨u1, u2, eu, r1, r2⟩ := StX.vals_split r
  subst eu
  have hn : H s.heap.objs.size = Option.none := e0.hok.fresh (Nat.le_refl _)
  have hl1 : u1.length = ps.length := by rw [← r1.length]; exact hl
  have hl2 : u2.length ≤ sizeLine := by rw [← r2.length]; exact hz
  have keep : ∀ b o, base.get? b = some o → s.heap.get? b = some o := fun b o e => (e0.bs b o e).1
  have KX : K.In s.heap := e0.mod.kin.keeps keep
  have hq' := hq s.heap.objs.size u2 hn
  have hlt : (s.heap.push (tupOb u2)).get? s.heap.objs.size = some (tupOb u2) := Heap.get?_push_size _ rfl
  have new : ObjOk P w (upd H s.heap.objs.size (.frz (tupOb u2) (.tup rest))) (s.heap.push (tupOb u2)) s.heap.objs.size (.frz (tupOb u2) (.tup rest)) := by
    simp only [ObjOk]
    exact ⟨hlt, hz, u2, r2, ⟨_, hlt, rfl, _, rfl⟩⟩
  have e2 := StX.env0_laid e0 new
  have un := StX.un_laid (fs := frs outer) (s := s) (o := tupOb u2) (u := .frz (tupOb u2) (.tup rest)) hn
  have kp2 : ∀ b o, s.heap.get? b = some o → (s.heap.push (tupOb u2)).get? b = some o := fun b o e => Heap.get?_push_of_some _ e
  refine codeAny_call_function hr.room.depth (KX _ _ lk) rfl S.co S.gen rfl (PySem.W.codeRec_of KX hcd) ?_
  rw [hb u1 u2 hl1]
  refine wpAny_bind (wpAny_newTuple (wpAny_pure ?_) hl2)
  have ez : ps.zip u1 ++ [(pv, Value.ref s.heap.objs.size)] = (ps ++ [pv]).zip (u1 ++ [Value.ref s.heap.objs.size]) := by rw [List.zip_append hl1.symm]; rfl
  rw [ez]
  have r3 : Vals (ws ++ [V.ref s.heap.objs.size]) (u1 ++ [Value.ref s.heap.objs.size]) := r1.append (.cons rfl .nil)
  refine wpAny_newFunctionEnv_cells (s := { s with heap := s.heap.push (tupOb u2) }) S.kind (fun ⟨n, v⟩ hy => ?_) fun env he s1 xc => ?_
  · have hn := S.par n (List.of_mem_zip hy).1
    exact hn.imp id fun q => ⟨q, PySem.W.cellsFrom_some _ _ _ (.inl q)⟩
  · subst he
    refine ⟨((e0.mod.nolimit.keeps keep).keeps kp2).keeps xc.toInCall.keep, codeAny_func ?_⟩
    obtain ⟨t, ht, hq2⟩ := hbody cdv A outer { s with heap := s.heap.push (tupOb u2) } (upd H s.heap.objs.size (.frz (tupOb u2) (.tup rest))) (ws ++ [V.ref s.heap.objs.size]) Q E (hr.deeper _) hq'
    have I := inv_start (CX := L2.CX P w) (E := E) S hr.room.hd e2 (by rw [List.length_append, List.length_append, hl]; rfl) r3 xc
    refine wpAny_mono (ht.run [] s1 (L2.start N (ws ++ [V.ref s.heap.objs.size])) _ _ I hq2) (fun fl s' hs => ?_) fun e s' hs => wpAny_mono hs (fun _ s'' z => ?_) fun e' s'' z => ?_
    · cases fl with
      | ret u => exact let ⟨v, _, H', J, rv, q⟩ := hs; ⟨v, H', J.os, J.bare, un.trans J.base, J.hok, rv, q⟩
      | next => exact let ⟨_, H', J, q⟩ := hs; ⟨V.non, H', J.os, J.bare, un.trans J.base, J.hok, rfl, q⟩
      | brk => exact let ⟨_, _, _, q⟩ := hs; q.elim
      | cont => exact let ⟨_, _, _, q⟩ := hs; q.elim
    · exact StX.cxUp outer s H { s with heap := s.heap.push (tupOb u2) } _ E _ _ un kp2 rfl z
    · exact StX.cxUp outer s H { s with heap := s.heap.push (tupOb u2) } _ E _ _ un kp2 rfl z
end
/-! ### an instance becomes still -/
theorem freezeO {X : Cx} {pins : List (Addr × Obj)} {σ : L2.St} {H : Hp} {s : Shared} {x C dx : Addr} {fs : List (Str × V)} (I : L2.Inv X pins σ H s) (h : H x = some (.ins C dx fs)) :
    ∃ od : Obj, L2.Inv X pins σ (upd (upd H dx (.frz od (.xd fs))) x (.frz (PySem.W.instObj C dx) (.ext fun _ => True))) s := by
  obtain ⟨mA, O, hr, _, _, ho⟩ := ins_get I.hok h
  obtain ⟨od, es, ep, hod, hns⟩ := id O.ns
  have ne := O.ne
  have hx1 : ∀ {b : Addr} {u : HO}, H b = some u → b ≠ x → b ≠ dx → upd (upd H dx (.frz od (.xd fs))) x (.frz (PySem.W.instObj C dx) (.ext fun _ => True)) b = some u := fun q h1 h2 => by rw [upd_ne h1, upd_ne h2]; exact q
  have ntx : ∀ {b : Addr} {u : HO}, H b = some u → (∀ c d g, u ≠ .ins c d g) → b ≠ x := fun q k z => by subst z; rw [h] at q; cases q; exact k _ _ _ rfl
  have ntd : ∀ {b : Addr} {u : HO}, H b = some u → (∀ c, u ≠ .own c) → b ≠ dx := fun q k z => by subst z; rw [ho] at q; cases q; exact k _ rfl
  have nnx : ∀ {b : Addr}, H b = none → b ≠ x ∧ b ≠ dx := fun q => ⟨fun z => (by subst z; rw [h] at q; cases q), fun z => (by subst z; rw [ho] at q; cases q)⟩
  have up0 : ∀ {b : Addr}, H b = none → upd (upd H dx (.frz od (.xd fs))) x (.frz (PySem.W.instObj C dx) (.ext fun _ => True)) b = none := fun {b} q => by rw [upd_ne (nnx q).1, upd_ne (nnx q).2]; exact q
  refine ⟨od, I.ok, I.os, I.bare, ?_, I.loc, I.cell, up0 I.free, fun y c hc => up0 (I.freeC y c hc), fun p hp => ?_, fun b o hb => ?_, I.len⟩
  · refine ⟨I.base.keep, I.base.slot, fun b o h1 h2 h3 => up0 (I.base.free b o h1 h2 h3), I.base.there, fun b xs q => ?_, fun b o u q => ?_, fun b ps q => ?_⟩
    · have z := I.base.tups b xs q
      exact hx1 z (ntx z nofun) (ntd z nofun)
    · have z := I.base.frzs b o u q
      exact hx1 z (ntx z nofun) (ntd z nofun)
    · obtain ⟨m, z⟩ := I.base.tbls b ps q
      exact ⟨m, hx1 z (ntx z nofun) (ntd z nofun)⟩
  · obtain ⟨k1, k2, k3⟩ := I.pin p hp
    exact ⟨k1, up0 k2, k3⟩
  · by_cases e1 : b = x
    · subst e1
      rw [upd_same] at hb
      cases hb
      simp only [ObjOk]
      exact ⟨O.obj, trivial, ⟨_, O.obj⟩, fun _ _ _ _ => trivial⟩
    · rw [upd_ne e1] at hb
      by_cases e2 : b = dx
      · subst e2
        rw [upd_same] at hb
        cases hb
        simp only [ObjOk]
        exact ⟨hod, mA, O.ns, hr⟩
      · rw [upd_ne e2] at hb
        refine (I.hok b o hb).stay (fun _ _ _ z => z) (fun c q => ?_) fun c xs q => hx1 q (ntx q nofun) (ntd q nofun)
        have hc : c ≠ dx := fun z => by subst z; rw [ho] at q; cases q; exact e1 rfl
        exact hx1 q (ntx q nofun) hc
/-! ### statements with others behind -/
section
variable {X : Cx} {W : WX} {B : Bs}
def DSx (X : Cx) (W : WX) (B : Bs) (sts : List Stmt) (m : DS) : Prop := ∀ (rest : List Stmt) (u : TS), PSs X rest u → ∃ t, PSs X (sts ++ rest) t ∧ ∀ O F σ H env Dn, StOk X.K O F H σ env → SGoal X W B O F σ H { Dn with nx := u Dn } (m env) → t Dn σ H
theorem sx_nil : DSx X W B [] dNext := fun rest u h => ⟨u, h, fun O F σ H env Dn s g => g F H σ Ext.refl s Keeps.refl⟩
theorem sx_cons {st : Stmt} {rest : List Stmt} {a b : DS} (h1 : DSt X W B st a) (h2 : DSx X W B rest b) : DSx X W B (st :: rest) (dSeq a b) := fun tl u hu => by
  obtain ⟨t1, p1, s1⟩ := h1
  obtain ⟨t2, p2, s2⟩ := h2 tl u hu
  refine ⟨tSeq t1 t2, pss_cons p1 p2, fun O F σ H env Dn s g => ?_⟩
  refine s1 O F σ H env { Dn with nx := t2 Dn } s ?_
  unfold dSeq at g
  cases q : a env with
  | bad => rw [q] at g; exact g.elim
  | err x e => rw [q] at g; exact g
  | ok fl e =>
    rw [q] at g
    cases fl with
    | brk => exact g
    | cnt => exact g
    | ret r => exact g
    | nx => exact fun F' H' σ' E s' k => s2 O F' σ' H' e Dn s' (SGoal.step E k g)
theorem sx_one {st : Stmt} {a : DS} (h1 : DSt X W B st a) : DSx X W B [st] a := fun tl u hu => by
  obtain ⟨t1, p1, s1⟩ := h1
  exact ⟨tSeq t1 u, pss_cons p1 hu, fun O F σ H env Dn s g => s1 O F σ H env { Dn with nx := u Dn } s g⟩
end
end DL
/-! DLV2: C(a, ..): a new instance with two fields. -/
namespace DL
open PySem PySem.Spec PyProof.Rows L2
section
variable {K : PySem.W.Frag} {O F F' : Fz} {H H' : Hp} {σ : L2.St} {env : DEnv}
theorem stOk_cons (o : Option V) (s : StOk K O F H σ env) : StOk K O F H (o :: σ) (none :: env) := by
  refine ⟨by rw [List.length_cons, List.length_cons, s.len], fun i d q => ?_, fun i m d q hm => ?_, fun i j a ⟨m, d, h1, h2, h3⟩ ⟨m', d', k1, k2, k3⟩ => ?_, s.fdom, s.odom⟩
  · cases i with
    | zero => simp at q
    | succ i => exact s.shr i d (by simpa using q)
  · cases i with
    | zero => simp at q
    | succ i => exact s.own i m d (by simpa using q) hm
  · cases i with
    | zero => simp at h1
    | succ i =>
      cases j with
      | zero => simp at k1
      | succ j => rw [s.inj i j a ⟨m, d, by simpa using h1, h2, by simpa using h3⟩ ⟨m', d', by simpa using k1, k2, by simpa using k3⟩]
theorem stOk_shrs {ds : List D} {vs : List V} (r : RepL K F H ds vs) (fd : ∀ a, F a → H a ≠ none) (od : ∀ a, O a → H a ≠ none) : StOk K O F H (vs.map some) ((shrs ds).map some) := by
  refine ⟨by simp [shrs, r.length], fun i d q => ?_, fun i m d q hm => ?_, fun i j a ⟨m, d, q, hm, _⟩ => ?_, fd, od⟩
  · obtain ⟨d', h1, h2⟩ := shrs_get q
    cases h2
    obtain ⟨v, h3, h4⟩ := r.get h1
    exact ⟨v, by rw [List.getElem?_map, h3]; rfl, h4⟩
  · obtain ⟨d', h1, h2⟩ := shrs_get q
    cases h2
    exact absurd rfl hm
  · obtain ⟨d', h1, h2⟩ := shrs_get q
    cases h2
    exact absurd rfl hm
def allShr (args : List Ent) : Bool := args.all fun e => decide (e.md = Md.shr)
theorem repL_args : ∀ {args : List Ent} {vs : List V}, allShr args = true → StOk K O F H (vs.map some) (args.map some) → RepL K F H (args.map Ent.d) vs ∧ args = shrs (args.map Ent.d)
  | [], vs, _, s => by
    have := s.len
    simp at this
    subst this
    exact ⟨RepL.nil, rfl⟩
  | ⟨m, d⟩ :: args, vs, h, s => by
    unfold allShr at h
    rw [List.all_cons, Bool.and_eq_true, decide_eq_true_eq] at h
    obtain ⟨h1, h2⟩ := h
    cases h1
    have hl := s.len
    cases vs with
    | nil => simp at hl
    | cons v vs =>
      obtain ⟨v', e1, e2⟩ := s.shr 0 d rfl
      have e1 : v = v' := by simpa using e1
      subst e1
      have s2 : StOk K O F H (vs.map some) (args.map some) := by
        refine ⟨by simpa using hl, fun i d q => ?_, fun i m d q hm => ?_, fun i j a ⟨m, d, h1, h2, h3⟩ ⟨m', d', k1, k2, k3⟩ => ?_, s.fdom, s.odom⟩
        · obtain ⟨v, q1, q2⟩ := s.shr (i + 1) d (by simpa using q)
          exact ⟨v, by simpa using q1, q2⟩
        · obtain ⟨a, ws, ds, q1, q2, q3⟩ := s.own (i + 1) m d (by simpa using q) hm
          exact ⟨a, ws, ds, q1, by simpa using q2, q3⟩
        · have := s.inj (i + 1) (j + 1) a ⟨m, d, by simpa using h1, h2, by simpa using h3⟩ ⟨m', d', by simpa using k1, k2, by simpa using k3⟩
          omega
      obtain ⟨r, e⟩ := repL_args (args := args) (vs := vs) h2 s2
      refine ⟨RepL.cons e2 r, ?_⟩
      show _ :: args = _ :: shrs _
      rw [← e]
end
def dInit (c : Str) (np ns : Nat) (m : DS) (f1 : Str) (i1 : Nat) (f2 : Str) (i2 : Nat) : DFn := fun args =>
  if np ≤ args.length ∧ allShr args = true ∧ args.length ≤ sizeLine then
    (match m (none :: ((args.take np ++ [(⟨.shr, .tup ((args.drop np).map Ent.d)⟩ : Ent)]).map some ++ List.replicate (ns - (np + 2)) none)) with
    | .ok .nx env => (match (env[i1]? : Option (Option Ent)), (env[i2]? : Option (Option Ent)) with
      | some (some (Ent.mk Md.shr d1)), some (some (Ent.mk Md.shr d2)) => .ok ⟨.shr, .exc c [.non, .str f1, d1, .str f2, d2]⟩ .non
      | _, _ => .bad)
    | .err x _ => .err x .non
    | _ => .bad)
  else .bad
abbrev stillH (H : Hp) (x dx C : Addr) (od : Obj) (fs : List (Str × V)) : Hp := upd (upd H dx (.frz od (.xd fs))) x (.frz (PySem.W.instObj C dx) (.ext fun _ => True))
def BPost (K : PySem.W.Frag) (mg : Str → Option Value) (C : Addr) (f1 : Str) (i1 : Nat) (f2 : Str) (i2 : Nat) (O F : Fz) (H : Hp) (x dx : Addr) (Q : VK) (E : XK) : R Fl → Prop
  | .ok .nx env => (match (env[i1]? : Option (Option Ent)), (env[i2]? : Option (Option Ent)) with
    | some (some (Ent.mk Md.shr d1)), some (some (Ent.mk Md.shr d2)) => ∀ F' H' v1 v2 od, Ext O F H F' H' → StOk K O F' H' [] [] → Rep K F' H' d1 v1 → Rep K F' H' d2 v2 → Q .non (stillH H' x dx C od [(f1, v1), (f2, v2)])
    | _, _ => False)
  | .err y _ => ∀ F' H' cls d, Ext O F H F' H' → StOk K O F' H' [] [] → ExcRep mg F' H' y cls d → E cls d H'
  | _ => False
theorem pss_still {X : Cx} {sts : List Stmt} {t : TS} (h : PSs X sts t) : PSs X sts (fun D σ H => t { D with nx := fun σ' H' => ∃ x C dx fs, H' x = some (.ins C dx fs) ∧ ∀ od, D.nx σ' (stillH H' x dx C od fs) } σ H) :=
  ⟨fun pins s σ H D I q => wpAny_mono (h.run pins s σ H _ I q) (fun fl s' hs => by
    cases fl with
    | next =>
      obtain ⟨σ', H', J, x, C, dx, fs, hx, k⟩ := hs
      obtain ⟨od, J'⟩ := freezeO J hx
      exact ⟨σ', _, J', k od⟩
    | brk => exact hs
    | cont => exact hs
    | ret u => exact hs) fun _ _ z => z⟩
section
variable {P : Program} {w : World} {K : PySem.W.Frag} {mg : Str → Option Value} {base : Heap}
def spB (K : PySem.W.Frag) (mg : Str → Option Value) (C : Addr) (np ns : Nat) (m : DS) (f1 : Str) (i1 : Nat) (f2 : Str) (i2 : Nat) : Sp := fun vs H Q E => ∃ (x dx : Addr) (O F : Fz) (args : List Ent) (vs' : List V), vs = V.ref x :: vs' ∧ H x = some (.ins C dx []) ∧ H dx = some (.own x) ∧ O x ∧ O dx ∧ StOk K O F H (vs'.map some) (args.map some) ∧ vs'.length = np + 1 ∧
  BPost K mg C f1 i1 f2 i2 O F H x dx Q E (m (none :: (args.map some ++ List.replicate (ns - (np + 2)) none)))
abbrev B0 : Bs := fun i => i == 0
theorem init_fn {x qual pv sf a1 a2 : Str} {st : Stmt} {f C : Addr} {fd : FuncData} {N ps : List Str} {k np : Nat} {pre : List Stmt} {m : DS} {f1 f2 : Str} {i1 i2 : Nat} {p1 q1 r1 z1 p2 q2 r2 z2 : Pos} (Fn : FunV K x qual st f fd) (S : FnScope N (ps ++ [pv]) (defScope st)) (hps : ps.length = np + 1)
    (hb : ∀ us rest : List Value, us.length = ps.length → bindArgs fd ⟨us ++ rest, []⟩ = (newTuple rest >>= fun t => pure (ps.zip us ++ [(pv, t)]))) (cl : Cls K C) (n1 : NoAttr K C f1) (n2 : NoAttr K C f2) (hne : f1 ≠ f2)
    (hst : defBody st = pre ++ [.Assign [.Attribute (.Name sf p1) f1 q1] (.Name a1 r1) z1, .Assign [.Attribute (.Name sf p2) f2 q2] (.Name a2 r2) z2])
    (hbody : ∀ (cdv : Value) (A : Around) (outer : List Env) (s : Shared) (H : Hp) (E : XK), GRoom k (A.deeper (envOfC qual (defScope st) s.heap.objs.size f cdv)) →
      DSx (cxOf (L2.CX P w) P w K mg base N qual (defScope st) f cdv A outer s H E) (WDef E) B0 pre m ∧
      PE (cxOf (L2.CX P w) P w K mg base N qual (defScope st) f cdv A outer s H E) (.Name sf p1) (tVar 0) ∧ PE (cxOf (L2.CX P w) P w K mg base N qual (defScope st) f cdv A outer s H E) (.Name sf p2) (tVar 0) ∧
      PE (cxOf (L2.CX P w) P w K mg base N qual (defScope st) f cdv A outer s H E) (.Name a1 r1) (tVar i1) ∧ PE (cxOf (L2.CX P w) P w K mg base N qual (defScope st) f cdv A outer s H E) (.Name a2 r2) (tVar i2) ∧
      swapsWith (.Name a1 r1) (some (.Attribute (.Name sf p1) f1 q1)) z1.line (cxOf (L2.CX P w) P w K mg base N qual (defScope st) f cdv A outer s H E).env = pure false ∧
      swapsWith (.Name a2 r2) (some (.Attribute (.Name sf p2) f2 q2)) z2.line (cxOf (L2.CX P w) P w K mg base N qual (defScope st) f cdv A outer s H E).env = pure false) :
    FnG P w K mg base (k + 1) f (fun vs H Q E => ∃ ws rest, vs = ws ++ rest ∧ ws.length = ps.length ∧ rest.length ≤ sizeLine ∧ ∀ p us, H p = Option.none → spB K mg C np N.length m f1 i1 f2 i2 (ws ++ [V.ref p]) (upd H p (.frz (tupOb us) (.tup rest))) Q E) := by
  refine gn_star Fn S hb fun cdv A outer s H vs Q E hr hsp => ?_
  obtain ⟨xx, dx, O, F, args, vs', rfl, hx, hdx, Ox, Odx, st0, hl, post⟩ := hsp
  obtain ⟨hpre, e1, e2, e3, e4, w1, w2⟩ := hbody cdv A outer s H E hr
  have ptail := pss_still (pss_cons (ps_fld (f := f1) e1 e3 w1) (pss_one (ps_fld (f := f2) e2 e4 w2)))
  obtain ⟨t, pt, sem⟩ := hpre _ _ ptail
  refine ⟨t, by rw [hst]; exact pt, ?_⟩
  have s1 := stOk_cons (some (V.ref xx)) (stOk_start st0 (N.length - (np + 2)))
  have e0 : L2.start N (V.ref xx :: vs') = some (V.ref xx) :: (vs'.map some ++ List.replicate (N.length - (np + 2)) none) := by
    unfold L2.start
    rw [List.length_cons, hl]
    rfl
  rw [e0]
  refine sem O F _ H _ _ s1 ?_
  cases q : m (none :: (args.map some ++ List.replicate (N.length - (np + 2)) none)) with
  | bad => rw [q] at post; exact post.elim
  | err y env => rw [q] at post; exact fun F' H' σ' cls d E' s' k' r => post F' H' cls d E' (stOk_nil s') r
  | ok fl env =>
    rw [q] at post
    cases fl with
    | brk => exact post.elim
    | cnt => exact post.elim
    | ret e => exact post.elim
    | nx =>
      simp only [BPost] at post
      split at post
      · rename_i d1 d2 h1 h2
        intro F' H' σ' E' s' k'
        obtain ⟨v1, g1, r1'⟩ := s'.shr i1 d1 h1
        obtain ⟨v2, g2, r2'⟩ := s'.shr i2 d2 h2
        have g0 : σ'[0]? = some (some (V.ref xx)) := by rw [k'.2 0 rfl]; rfl
        have hx' : H' xx = some (.ins C dx []) := by rw [E'.out xx Ox]; exact hx
        refine ⟨v1, g1, V.ref xx, g0, xx, C, dx, [], rfl, hx', cl, n1, by decide, ?_⟩
        refine ⟨v2, g2, V.ref xx, g0, xx, C, dx, _, rfl, upd_same, cl, n2, by show 1 < 1000; decide, ?_⟩
        refine ⟨xx, C, dx, _, upd_same, fun od => ?_⟩
        have ef : putF f2 v2 (putF f1 v1 []) = [(f1, v1), (f2, v2)] := by
          show (if f1 = f2 then [(f1, v2)] else [(f1, v1), (f2, v2)]) = _
          rw [if_neg hne]
        rw [ef]
        have eh : stillH (upd (upd H' xx (.ins C dx (putF f1 v1 []))) xx (.ins C dx [(f1, v1), (f2, v2)])) xx dx C od [(f1, v1), (f2, v2)] = stillH H' xx dx C od [(f1, v1), (f2, v2)] := by
          funext b
          unfold stillH
          by_cases hb1 : b = xx
          · subst hb1; rw [upd_same, upd_same]
          · rw [upd_ne hb1, upd_ne hb1]
            by_cases hb2 : b = dx
            · subst hb2; rw [upd_same, upd_same]
            · rw [upd_ne hb2, upd_ne hb2, upd_ne hb1, upd_ne hb1]
        rw [eh]
        exact post F' H' v1 v2 od E' (stOk_nil s') r1' r2'
      · exact post.elim
end
end DL
/-! DLV3: C(a, ..) as an expression. -/
namespace DL
open PySem PySem.Spec PyProof.Rows L2
theorem GRoom.make {k : Nat} {A : Around} (r : GRoom (k + 1) A) (C : Addr) (us : List Value) : GRoom k (A.under (.builtin "type.__call__" ⟨.ref C :: us, []⟩)) := ⟨r.room.make C us [], r.gd⟩
/-- the promise of the __init__ of C -/
abbrev spI (K : PySem.W.Frag) (mg : Str → Option Value) (C : Addr) (np ns : Nat) (m : DS) (f1 : Str) (i1 : Nat) (f2 : Str) (i2 : Nat) : Sp := fun vs H Q E => ∃ (ws rest : List V), vs = ws ++ rest ∧ ws.length = np + 1 ∧ rest.length ≤ sizeLine ∧ ∀ p us, H p = Option.none → spB K mg C np ns m f1 i1 f2 i2 (ws ++ [V.ref p]) (upd H p (.frz (tupOb us) (.tup rest))) Q E
section
variable {X : Cx} {W : WX} {k np ns : Nat} {f C : Addr} {c f1 f2 : Str} {i1 i2 : Nat} {m : DS}
theorem still_rep {O F F' : Fz} {H H1 H2 : Hp} {O2 : Fz} {x dx : Addr} {od : Obj} {d1 d2 : D} {v1 v2 : V} (hn : PySem.W.nsIn X.K mainGlobals c = some (some (.ref C))) (hx : H x = none) (hdx : H dx = none) (ne : dx ≠ x) (sm : Same H H1) (Ox : ∀ a, O a → O2 a) (od0 : ∀ a, O a → H a ≠ none) (E : Ext O2 F H1 F' H2)
    (r1 : Rep X.K F' H2 d1 v1) (r2 : Rep X.K F' H2 d2 v2) (Ox2 : O2 x) (Odx2 : O2 dx) (fdm : ∀ a, F a → H a ≠ none) (hx2 : ∃ d fs, H2 x = some (.ins C d fs)) (hdx2 : ∃ y, H2 dx = some (.own y)) :
    Ext O F H F' (stillH H2 x dx C od [(f1, v1), (f2, v2)]) ∧ Rep X.K F' (stillH H2 x dx C od [(f1, v1), (f2, v2)]) (.exc c [.non, .str f1, d1, .str f2, d2]) (.ref x) := by
  obtain ⟨dq, fq, hx2⟩ := hx2
  obtain ⟨yq, hdx2⟩ := hdx2
  have at2 : ∀ {b : Addr}, b ≠ x → b ≠ dx → stillH H2 x dx C od [(f1, v1), (f2, v2)] b = H2 b := fun h1 h2 => by
    show upd (upd H2 dx _) x _ _ = _
    rw [upd_ne h1, upd_ne h2]
  have nn : ∀ {b : Addr} {u : HO}, H b = some u → b ≠ x ∧ b ≠ dx := fun q => ⟨ne_of_none q hx, ne_of_none q hdx⟩
  have nn2 : ∀ {b : Addr} {u : HO}, H2 b = some u → (∀ d g, u ≠ .ins C d g) → (∀ y, u ≠ .own y) → b ≠ x ∧ b ≠ dx := fun q k1 k2 => ⟨fun z => (by subst z; rw [hx2] at q; cases q; exact k1 _ _ rfl), fun z => (by subst z; rw [hdx2] at q; cases q; exact k2 _ rfl)⟩
  have nF : ∀ {b : Addr}, F' b → b ≠ x ∧ b ≠ dx := fun fb => ⟨fun z => (by subst z; exact fdm _ (E.outF _ Ox2 fb) hx), fun z => (by subst z; exact fdm _ (E.outF _ Odx2 fb) hdx)⟩
  have E3 : Ext (fun _ => False) F' H2 F' (stillH H2 x dx C od [(f1, v1), (f2, v2)]) := ⟨fun _ h => h, fun a o fa ha => by rw [at2 (nF fa).1 (nF fa).2]; exact ha, fun a xs ha => by rw [at2 (nn2 ha nofun nofun).1 (nn2 ha nofun nofun).2]; exact ha, fun a o u ha => by rw [at2 (nn2 ha nofun nofun).1 (nn2 ha nofun nofun).2]; exact ha, fun _ z => z.elim, fun _ z => z.elim⟩
  have rx : ∀ {d : D} {v : V}, Rep X.K F' H2 d v → Rep X.K F' (stillH H2 x dx C od [(f1, v1), (f2, v2)]) d v := fun {d v} h => Rep.ext E3 d v h
  refine ⟨⟨E.sub, fun a o fa ha => ?_, fun a xs ha => ?_, fun a o u ha => ?_, fun a oa => ?_, fun a oa fa => E.outF a (Ox a oa) fa⟩, ?_⟩
  · have h1 := E.fz a o fa (sm a o ha)
    rw [at2 (nn ha).1 (nn ha).2]
    exact h1
  · rw [at2 (nn ha).1 (nn ha).2]
    exact E.tp a xs (sm a _ ha)
  · rw [at2 (nn ha).1 (nn ha).2]
    exact E.fr a o u (sm a _ ha)
  · cases q : H a with
    | none => exact absurd q (od0 a oa)
    | some u =>
      rw [at2 (nn q).1 (nn q).2, E.out a (Ox a oa)]
      exact sm a u q
  · exact ⟨[.non, .str f1, v1, .str f2, v2], x, PySem.W.instObj C dx, _, C, some dx, ⟨_, _, rfl, rfl, _, _, rfl, rfl, _, _, rfl, rx r1, _, _, rfl, rfl, _, _, rfl, rx r2, RepL.nil⟩, ⟨dx, od, [(f1, v1), (f2, v2)], rfl, by show upd (upd H2 dx _) x _ _ = _; rw [upd_ne ne, upd_same], ⟨_, _, rfl, _, _, _, _, rfl, rfl, _, _, _, _, rfl, rfl, rfl, rfl⟩⟩, rfl, upd_same, hn, ⟨rfl, rfl⟩, ⟨rfl, rfl⟩⟩
theorem run_new {pins : List (Addr × Obj)} {σ : L2.St} {H : Hp} {s : Shared} {Q : VK} {us : List Value} {vs : List V} {n : Nat} (M : Mk X.K C f) (Fi : FnG X.prog X.w X.K X.mg X.base k f (spI X.K X.mg C np ns m f1 i1 f2 i2)) (hr : GRoom (k + 1) X.A) (tk : Takes X W) (hn : PySem.W.nsIn X.K mainGlobals c = some (some (.ref C))) (I : L2.Inv X pins σ H s) (r : Vals vs us)
    (h : spD X.K X.mg false n (dInit c np ns m f1 i1 f2 i2) vs H Q (WE W σ)) : wpAny (model X.prog X.w) X.A (call (.ref C) us) (EP X pins σ Q) X.xe s := by
  obtain ⟨O, F, args, hl, st, post⟩ := h
  unfold dInit at post
  split at post
  · rename_i hc
    obtain ⟨h1, h2, h3⟩ := hc
    obtain ⟨rl, ea⟩ := repL_args h2 st
    have hvl : vs.length = args.length := by
      have := st.len
      simpa using this
    have key : ∀ x dx, H x = none → H dx = none → dx ≠ x → spI X.K X.mg C np ns m f1 i1 f2 i2 (V.ref x :: vs) (upd (upd H dx (.own x)) x (.ins C dx [])) (fun v H2 => v = .non ∧ Q (.ref x) H2) (WE W σ) := fun x dx hx hdx ne => by
      refine ⟨V.ref x :: vs.take np, vs.drop np, by simp, by rw [List.length_cons, List.length_take, hvl]; omega, by rw [List.length_drop, hvl]; omega, fun p us hp => ?_⟩
      have px : p ≠ x := fun z => by subst z; rw [upd_same] at hp; cases hp
      have pd : p ≠ dx := fun z => by subst z; rw [upd_ne ne, upd_same] at hp; cases hp
      have sm : Same H (upd (upd (upd H dx (.own x)) x (.ins C dx [])) p (.frz (tupOb us) (.tup (vs.drop np)))) := fun b u q => by
        have hbp : b ≠ p := fun z => by
          subst z
          rw [upd_ne px, upd_ne pd] at hp
          rw [hp] at q; cases q
        rw [upd_ne hbp, upd_ne (ne_of_none q hx), upd_ne (ne_of_none q hdx)]
        exact q
      have rl2 := repL_same sm rl
      have hx1 : (upd (upd (upd H dx (.own x)) x (.ins C dx [])) p (.frz (tupOb us) (.tup (vs.drop np)))) x = some (.ins C dx []) := by rw [upd_ne (Ne.symm px), upd_same]
      have hdx1 : (upd (upd (upd H dx (.own x)) x (.ins C dx [])) p (.frz (tupOb us) (.tup (vs.drop np)))) dx = some (.own x) := by rw [upd_ne (Ne.symm pd), upd_ne ne, upd_same]
      have hp1 : (upd (upd (upd H dx (.own x)) x (.ins C dx [])) p (.frz (tupOb us) (.tup (vs.drop np)))) p = some (.frz (tupOb us) (.tup (vs.drop np))) := upd_same
      generalize (upd (upd (upd H dx (.own x)) x (.ins C dx [])) p (.frz (tupOb us) (.tup (vs.drop np)))) = H1 at sm rl2 hx1 hdx1 hp1
      have nz : ∀ {b : Addr}, H b ≠ none → H1 b ≠ none := fun {b} q => by
        cases e : H b with
        | none => exact absurd e q
        | some u => rw [sm b u e]; exact nofun
      have rt : RepL X.K F H1 ((args.map Ent.d).take np ++ [.tup ((args.map Ent.d).drop np)]) (vs.take np ++ [V.ref p]) :=
        (rl2.take np).append (RepL.cons ⟨p, _, rfl, ⟨tupOb us, rfl, hp1⟩, rl2.drop np⟩ RepL.nil)
      have st1 := stOk_shrs (O := fun a => O a ∨ a = x ∨ a = dx) rt (fun a fa => nz (st.fdom a fa)) (fun a oa => by
        rcases oa with oa | rfl | rfl
        · exact nz (st.odom a oa)
        · rw [hx1]; exact nofun
        · rw [hdx1]; exact nofun)
      have ee : args.take np ++ [(⟨.shr, .tup ((args.drop np).map Ent.d)⟩ : Ent)] = shrs ((args.map Ent.d).take np ++ [.tup ((args.map Ent.d).drop np)]) := by
        rw [shrs, List.map_append, List.map_take, ← List.map_drop]
        have : (args.map Ent.d).map (fun d => (⟨.shr, d⟩ : Ent)) = args := ea.symm
        rw [this]
        simp [List.map_drop]
      rw [ee] at post
      refine ⟨x, dx, fun a => O a ∨ a = x ∨ a = dx, F, _, _, rfl, hx1, hdx1, .inr (.inl rfl), .inr (.inr rfl), st1, by show (vs.take np ++ [V.ref p]).length = np + 1; rw [List.length_append, List.length_take, hvl, List.length_singleton]; omega, ?_⟩
      cases q : m (none :: ((shrs ((args.map Ent.d).take np ++ [.tup ((args.map Ent.d).drop np)])).map some ++ List.replicate (ns - (np + 2)) none)) with
      | bad => rw [q] at post; exact post.elim
      | err y env =>
        rw [q] at post
        intro F' H' cls d E' s' xr
        refine post F' H' cls d ⟨E'.sub, fun a o fa ha => E'.fz a o fa (sm a o ha), fun a xs ha => E'.tp a xs (sm a _ ha), fun a o u ha => E'.fr a o u (sm a _ ha), fun a oa => ?_, fun a oa fa => E'.outF a (.inl oa) fa⟩ ⟨rfl, fun i d q => (by simp [outEnv] at q), fun i m d q _ => (by simp [outEnv] at q), fun i j a ⟨m, d, q, _⟩ => (by simp [outEnv] at q), s'.fdom, fun a oa => s'.odom a (.inl oa)⟩ xr
        rw [E'.out a (.inl oa)]
        cases e : H a with
        | none => exact absurd e (st.odom a oa)
        | some u => exact sm a u e
      | ok fl env =>
        rw [q] at post
        cases fl with
        | brk => exact post.elim
        | cnt => exact post.elim
        | ret e => exact post.elim
        | nx =>
          simp only [BPost]
          simp only [] at post
          split at post
          · rename_i d1 d2 g1 g2
            intro F' H' v1 v2 od E' s' r1 r2
            have hx' : H' x = some (.ins C dx []) := by rw [E'.out x (.inr (.inl rfl))]; exact hx1
            have hd' : H' dx = some (.own x) := by rw [E'.out dx (.inr (.inr rfl))]; exact hdx1
            obtain ⟨e3, r3⟩ := still_rep (od := od) hn hx hdx ne sm (fun a oa => .inl oa) st.odom E' r1 r2 (.inr (.inl rfl)) (.inr (.inr rfl)) st.fdom ⟨_, _, hx'⟩ ⟨_, hd'⟩
            refine ⟨trivial, post F' _ (.ref x) e3 ⟨rfl, fun i d q => (by simp [outEnv] at q), fun i m d q _ => (by simp [outEnv] at q), fun i j a ⟨m, d, q, _⟩ => (by simp [outEnv] at q), fun a fa => ?_, fun a oa => ?_⟩ r3⟩
            · have nFx : a ≠ x := fun z => by subst z; exact st.fdom _ (E'.outF _ (.inr (.inl rfl)) fa) hx
              have nFd : a ≠ dx := fun z => by subst z; exact st.fdom _ (E'.outF _ (.inr (.inr rfl)) fa) hdx
              show upd (upd H' dx _) x _ a ≠ none
              rw [upd_ne nFx, upd_ne nFd]
              exact s'.fdom a fa
            · cases e : H a with
              | none => exact absurd e (st.odom a oa)
              | some u =>
                rw [e3.out a oa, e]
                exact nofun
          · exact post.elim
    have hq := key (s.heap.objs.size + 1) s.heap.objs.size (I.hok.fresh (Nat.le_succ _)) (I.hok.fresh (Nat.le_refl _)) (Nat.ne_of_lt (Nat.lt_succ_self _))
    have I2 := Inv.made (C := C) I
    have r2 : Vals (V.ref (s.heap.objs.size + 1) :: vs) (Value.ref (s.heap.objs.size + 1) :: us) := .cons rfl r
    refine wpAny_call (make_map (f := f) I.kIn M.makes M.init (beq_iff_eq.mp M.fn) (codeAny_mono (Fi _ X.stack _ _ (Value.ref (s.heap.objs.size + 1) :: us) _ _ _ (hr.make C us) (I2.env0.make C us []) r2 hq) fun r s' hq' => ?_))
    cases r with
    | error e => exact passAt tk σ pins _ _ e s' I2 hq'
    | ok fl =>
      cases fl with
      | ret u =>
        obtain ⟨v, H', I3, rv, ev, q3⟩ := I2.after hq'
        subst ev
        exact ⟨rv, ⟨V.ref (s.heap.objs.size + 1), H', I3, rfl, q3⟩⟩
      | next => exact False.elim hq'
      | brk => exact False.elim hq'
      | cont => exact False.elim hq'
  · exact post.elim
end
end DL
/-! DLV4: C(a, ..); e(a, ..) and e(x = a), e an instance. -/
namespace DL
open PySem PySem.Spec PyProof.Rows L2
section
variable {X : Cx} {W : WX}
theorem e_new {k np ns n : Nat} {f C : Addr} {c f1 f2 : Str} {i1 i2 : Nat} {m : DS} {e : Expr} {es : List Expr} {os : List Opd} {p pos : Pos} (M : Mk X.K C f) (Fi : FnG X.prog X.w X.K X.mg X.base k f (spI X.K X.mg C np ns m f1 i1 f2 i2)) (hr : GRoom (k + 1) X.A) (hn : PySem.W.nsIn X.K mainGlobals c = some (some (.ref C))) (hm : X.mg c = some (.ref C)) (tk : Takes X W) (ha : DAs X W (e :: es) os)
    (hg : Gl X c := by rfl) (hv : allV os = true := by rfl) (hl : os.length = n := by rfl) (hdb : (c == ("__debug__" : Str)) = false := by decide) (he : starEach (e :: es) X.env = (false, eval e X.env) :: starEach es X.env := by rfl) (hpl : (backTo pos (starEach es X.env)).any (·.1) = false := by rfl) :
    DEv X W (.Call (.Name c p) (e :: es) [] pos) (dCall (dInit c np ns m f1 i1 f2 i2) os) := by
  obtain ⟨t, h, s⟩ := ha
  refine ⟨tCallG (spD X.K X.mg false n (dInit c np ns m f1 i1 f2 i2)) W t, ⟨fun pins s0 σ H Q I h0 => ?_⟩, fun O F σ H env Q st g => ?_⟩
  · refine wpAny_Call_Name_kw (ld_glob I hg hm ?_ hdb)
    exact PySem.W.callWith_K (h₀ := X.base) I.ok.mod.kin M.kp (thn (h.run pos pins s0 σ H _ I h0) fun us s1 ⟨vs, H1, I1, r, q⟩ => ⟨I1.kIn, run_new M Fi hr tk hn I1 r q⟩) he hpl
  · refine s O F σ H env _ st ?_
    unfold dCall at g
    cases q : evOs os env with
    | bad => rw [q] at g; exact g.elim
    | err y e => rw [q] at g; exact g
    | ok avs env1 =>
      rw [q] at g
      simp only [R.bind] at g
      intro F1 H1 vs E1 s1 r1
      cases q2 : getAVs env1 avs with
      | none => rw [q2] at g; exact g.elim
      | some ds =>
        rw [q2] at g
        exact call_core0 s1 (AVs.vals hv q r1 q2) (by rw [← hl]; exact lenAV q q2) (EGoal.step E1 g)
theorem callO_kw {M : Model} {A : Around} {E : Value → Shared → Prop} {s : Shared} {a : Addr} {pos : Pos} {Q : Value → Shared → Prop} {args : List (Bool × Sem Value)} {kws : List (Option Str × Sem Value)} (hplain : (args.any (·.1) || kws.any (·.1.isNone)) = false)
    (h : wpAny M A (evalArgs (.ref a) true args kws) (fun z s₁ => (∃ C ox od, PySem.W.InstAt s₁.heap a ox C od ∧ ox.data = .plain) ∧ wpAny M A (call (.ref a) ([] ++ z.pos) z.kw) Q E s₁) E s) : wpAny M A (callWith pos (.ref a) [] args kws) Q E s := by
  unfold callWith
  refine wpAny_bind (wpAny_holding (wpAny_mono h (fun z s₁ h₁ => wpAny_bind (wpAny_standAt ?_)) fun _ _ y => y))
  obtain ⟨⟨C, ox, od, J, hd⟩, h₁⟩ := h₁
  have L := PySem.W.kco_keeper (M := M) J hd
  simp only [hplain]
  refine wpAny_bind (L.here ?_)
  have tail : ∀ {t : Sem Value}, wpAny M A t Q E s₁ → wpAny M A (t >>= fun r => holding [r] point >>= fun _ => pure r) Q E s₁ :=
    fun ht => wpAny_bind (wpAny_mono ht (fun r s₂ hr => wpAny_bind (wpAny_holding (wpAny_point (wpAny_pure hr)))) fun _ _ y => y)
  exact tail (wpAny_operateT h₁)
/-- e(x = a) -/
theorem e_callO1K {k : Nat} {g C : Addr} {c x : Str} {fd : FuncData} {ps : List Str} {fn : DFn} {fe : Expr} {m : DE} {kw : Keyword} {o : Opd} {pos : Pos} (cl : StX.CallO X.K C g) (F : GOk X.prog X.w X.K X.mg X.base k g fd ps (spD X.K X.mg false 2 fn)) (hr : GRoom k X.A) (hn : PySem.W.nsIn X.K mainGlobals c = some (some (.ref C)))
    (hb : ∀ (s : Shared) (u v : Value), BindsTo s fd ⟨[u], [(x, v)]⟩ (ps.zip [u, v])) (tk : Takes X W) (hf : DEv X W fe m) (ha : DKs X W [kw] [o]) (hv : allV [o] = true := by rfl)
    (ht : eval (.Call fe [] [kw] pos) X.env = (do callWith pos (← eval fe X.env) [] (backTo pos (starEach [] X.env)) (backToKw pos (keywordEach [kw] X.env))) := by rfl)
    (hall : (backToKw pos (keywordEach [kw] X.env)).all (·.1.isSome) = true := by rfl) (hks : (backToKw pos (keywordEach [kw] X.env)).filterMap (·.1) = [x] := by rfl)
    (hpl : ((backTo pos (starEach [] X.env)).any (·.1) || (backToKw pos (keywordEach [kw] X.env)).any (·.1.isNone)) = false := by rfl) : DEv X W (.Call fe [] [kw] pos) (dCallO c fn m [o]) := by
  obtain ⟨tf, hf, sf⟩ := hf
  obtain ⟨t, h, s⟩ := ha
  refine ⟨_, ⟨fun pins s0 σ H Q I h0 => ?_⟩, sem_obj (n := 2) (fn := fn) hn sf s hv rfl⟩
  rw [ht]
  refine wpAny_bind (thn (hf.run pins s0 σ H _ I h0) fun u s1 ⟨y, H1, I1, ry, a, ey, _, q⟩ => ?_)
  subst ey
  obtain rfl : u = Value.ref a := ry
  refine callO_kw hpl (PyProof.Rows.evalArgs_kw2_nil hall (thn (h.run pos pins s1 σ H1 _ I1 q) fun ws s2 ⟨vs, H2, I2, r, ⟨r0, hp⟩, q2⟩ => ?_))
  obtain ⟨dx, mA, O, _⟩ := hp.objM I2
  obtain ⟨od, J, _⟩ := O.look
  have lv := F.len _ _ _ _ q2
  rw [hks]
  obtain ⟨O', F', args, hl', st', _⟩ := id q2
  have hl2 : vs.length = 1 := by
    have := st'.len
    simp only [List.length_map, List.length_cons, hl'] at this
    omega
  cases r with
  | nil => cases hl2
  | @cons v w _ _ r1 rr =>
  cases rr with
  | cons _ _ => simp at hl2
  | nil =>
  refine ⟨⟨C, _, od, J, rfl⟩, ?_⟩
  refine wpAny_call (PySem.W.kco_code I2.kIn J rfl cl.at_ cl.fn cl.fi ?_)
  refine codeAny_mono (g_run F hr tk I2 (hb s2 (Value.ref a) w) (.cons (show L2.RelV (V.ref a) (Value.ref a) from rfl) (.cons r1 .nil)) q2) fun res s' hq => ?_
  match res, hq with
  | .error e, hq => exact hq
  | .ok (.ret u), hq => exact hq
end
end DL
/-! DLV5: what the written part says of a class whose instances stand. -/
namespace DL
open PySem PySem.Spec PyProof.Rows L2
structure ObjT (K : PySem.W.Frag) (mg : Str → Option Value) (c : Str) where
  C : Addr
  n : PySem.W.nsIn K mainGlobals c = some (some (.ref C))
  g : mg c = some (.ref C)
  cl : Cls K C
end DL
namespace My
open PySem PySem.Spec PyProof.Rows L2 DL
/-- _law_pot -/
def m__law_pot : DS := dSeq (dSet 1 (dC (.int 0))) (dSeq (dIfS (dTst (dPrim pGe [.s 0, .v (dPrim pPow [.v (dC (.int 10)), .v (dC (.int 18))])])) (dSet 1 (dPrim pSub [.s 0, .v (dPrim pPow [.v (dC (.int 10)), .v (dC (.int 18))])])) (dNext)) (dRet (dPrim pLst [.v (dVar 1), .v (dPrim pMod [.v (dPrim pIntOf [.s 0]), .v (dC (.int 999999999999999989))]), .v (dC (.int 0))])))
def f__law_pot : DFn := dDef false 1 2 m__law_pot
/-- _law_pick -/
def m__law_pick : DS := dSeq (dIfS (dTst (dPrim pGt [.v (dPrim pIx [.s 0, .v (dC (.int 0))]), .v (dC (.int 0))])) (dSeq (dSet 2 (dPrim pMod [.v (dPrim pIntOf [.v (dPrim pIx [.s 0, .v (dC (.int 0))])]), .s 1])) (dSeq (dSetIx 0 [.v (dC (.int 0))] (dPrim pFdiv [.v (dPrim pIx [.s 0, .v (dC (.int 0))]), .s 1])) (dRetV 2))) (dNext)) (dSeq (dSetIx 0 [.v (dC (.int 2))] (dPrim pAdd [.v (dPrim pIx [.s 0, .v (dC (.int 2))]), .v (dC (.int 1))])) (dSeq (dSet 3 (dPrim pIx [.s 0, .v (dC (.int 2))])) (dSeq (dSet 4 (dPrim pAdd [.v (dPrim pMul [.v (dPrim pAdd [.v (dPrim pIx [.s 0, .v (dC (.int 1))]), .v (dC (.int 61))]), .v (dPrim pAdd [.v (dPrim pAdd [.v (dPrim pMul [.v (dPrim pMul [.v (dC (.int 43)), .s 3]), .s 3]), .v (dPrim pMul [.v (dC (.int 130363)), .s 3])]), .v (dC (.int 11))])]), .v (dPrim pMul [.v (dC (.int 23)), .s 3])])) (dSeq (dSet 4 (dPrim pFdiv [.v (dPrim pMod [.v (dPrim pIntOf [.v (dPrim pAdd [.v (dPrim pMul [.s 4, .s 4]), .v (dPrim pMul [.v (dC (.int 524287)), .s 4])])]), .v (dC (.int 1000000000000000003))]), .v (dC (.int 1021))])) (dSeq (dSet 4 (dPrim pFdiv [.v (dPrim pMod [.v (dPrim pIntOf [.v (dPrim pAdd [.v (dPrim pAdd [.v (dPrim pMul [.s 4, .s 4]), .v (dPrim pMul [.v (dC (.int 8191)), .s 4])]), .s 3])]), .v (dC (.int 2147483629))]), .v (dC (.int 32))])) (dRet (dPrim pMod [.v (dPrim pIntOf [.s 4]), .s 1])))))))
def f__law_pick : DFn := dDef true 2 5 m__law_pick
/-- _law_drawn_fir -/
def m__law_drawn_fir : DS := dSeq (dSet 2 (dPrim pAdd [.v (dC (.int 1)), .v (dCallR f__law_pick 0 [.v (dVar 1)])])) (dSeq (dSet 3 (dCallR f__law_pick 0 [.v (dC (.int 6))])) (dSeq (dSet 4 (dPrim pLst [.v (dC .non)])) (dSeq (dForI (iArgs rng2 [.v (dC (.int 1)), .s 2]) (gSet 5) (dSeq (dSet 6 (dCallR f__law_pick 0 [.v (dVar 5)])) (dSeq (dIfS (dTst (dPrim pEq [.s 3, .v (dC (.int 0))])) (dSet 6 (dC (.int 0))) (dNext)) (dSeq (dIfS (dTst (dPrim pEq [.s 3, .v (dC (.int 1))])) (dSet 6 (dPrim pSub [.s 5, .v (dC (.int 1))])) (dNext)) (dSeq (dIfS (dTst (dPrim pEq [.s 3, .v (dC (.int 2))])) (dSet 6 (dPrim pMax [.v (dC (.int 0)), .v (dPrim pSub [.s 5, .v (dC (.int 2))])])) (dNext)) (dDrop (dMut mApp 4 [.v (dVar 6)]))))))) (dRet (dPrim pTupOf [.s 4])))))
def f__law_drawn_fir : DFn := dDef true 2 7 m__law_drawn_fir
/-- _law_drawn_asks -/
def m__law_drawn_asks : DS := dSeq (dSet 3 (dCallR f__law_pick 0 [.v (dPrim pAdd [.v (dC (.int 1)), .v (dPrim pIx [.v (dPrim pLst [.v (dPrim pMin [.v (dC (.int 3)), .s 2]), .v (dVar 2)]), .v (dCallR f__law_pick 0 [.v (dC (.int 2))])])])])) (dRet (dPrim pTupOf [.v (dComp [4] (iArgs rng1 [.s 3]) (gSet 4) (dYes) (dCallR f__law_pick 0 [.v (dVar 1)]))]))
def f__law_drawn_asks : DFn := dDef true 3 5 m__law_drawn_asks
/-- _law_drawn_gate -/
def m__law_drawn_gate : DS := dSeq (dSet 3 (dPrim pIx [.v (dPrim pLst [.v (dC (.str "only")), .v (dC (.str "lift")), .v (dC (.str "swap")), .v (dC (.str "head")), .v (dC (.str "pad"))]), .v (dCallR f__law_pick 0 [.v (dC (.int 5))])])) (dSeq (dIfS (dOr (dTst (dPrim pEq [.s 3, .v (dC (.str "head"))])) (dTst (dPrim pEq [.s 3, .v (dC (.str "pad"))]))) (dRet (dPrim pTup [.v (dVar 3), .v (dCallR f__law_drawn_asks 0 [.v (dVar 1), .v (dVar 2)])])) (dNext)) (dSeq (dSet 4 (dPrim pIx [.v (dPrim pLst [.v (dC (.int 2)), .v (dC (.int 3)), .v (dC (.int 1))]), .v (dCallR f__law_pick 0 [.v (dC (.int 3))])])) (dSeq (dSet 5 (dComp [6] (iArgs rng1 [.s 1]) (gSet 6) (dTst (dPrim pEq [.v (dCallR f__law_pick 0 [.v (dVar 4)]), .v (dC (.int 0))])) (dVar 6))) (dSeq (dIfS (dTst (dPrim pEq [.s 3, .v (dC (.str "swap"))])) (dRet (dPrim pTup [.v (dVar 3), .v (dPrim pTupOf [.v (dComp [6] (iSeq (dVar 5)) (gSet 6) (dYes) (dPrim pTup [.v (dVar 6), .v (dCallR f__law_pick 0 [.v (dVar 1)])]))])])) (dNext)) (dRet (dPrim pTup [.v (dVar 3), .v (dPrim pTupOf [.s 5])]))))))
def f__law_drawn_gate : DFn := dDef true 3 7 m__law_drawn_gate
/-- is_tuple -/
def m_is_tuple : DS := dRet (dPrim (pTyIs "tuple") [.s 0])
def f_is_tuple : DFn := dDef false 1 1 m_is_tuple
/-- is_integer_within -/
def m_is_integer_within : DS := dRet (dAndV (dTst (dPrim (pIsI "int") [.s 0])) (dAndV (dTst (dB (dNot (dTst (dPrim (pIsI "bool") [.s 0]))))) (dChain pLe pLe (.s 1) (.v (dVar 0)) (.s 2))))
def f_is_integer_within : DFn := dDef false 3 3 m_is_integer_within
/-- is_tree -/
def m_is_tree : DS := dSeq (dIfS (dOr (dNot (dTst (dCall f_is_tuple [.v (dVar 0)]))) (dNot (dTst (dChain pLe pLe (.v (dC (.int 1))) (.v (dPrim pLen [.s 0])) (.v (dC (.int (10)))))))) (dRet (dC (.bl false))) (dNext)) (dSeq (dIfS (dTst (dPrim pNotN [.v (dPrim pIx [.s 0, .v (dC (.int 0))]), .v (dC .non)])) (dRet (dC (.bl false))) (dNext)) (dRet (dPrim pAll [.v (dComp [1] (iArgs rng2 [.v (dC (.int 1)), .v (dPrim pLen [.s 0])]) (gSet 1) (dYes) (dCall f_is_integer_within [.v (dPrim pIx [.s 0, .s 1]), .v (dC (.int 0)), .v (dPrim pSub [.s 1, .v (dC (.int 1))])]))])))
def f_is_tree : DFn := dDef false 1 2 m_is_tree
/-- check_tree -/
def m_check_tree : DS := dIfS (dNot (dTst (dCall f_is_tree [.v (dVar 0)]))) (dNever) (dNext)
def f_check_tree : DFn := dDef false 1 1 m_check_tree
/-- is_ascending -/
def m_is_ascending : DS := dRet (dPrim pAll [.v (dComp [1, 2] (iArgs zip2 [.v (dVar 0), .v (dSlice pSlice (.s 0) (some (dC (.int 1))) none)]) (gTupD 2 (gsCons (gSet 1) (gsCons (gSet 2) (gsNil)))) (dYes) (dPrim pLt [.s 1, .s 2]))])
def f_is_ascending : DFn := dDef false 1 3 m_is_ascending
/-- has_locale -/
def m_has_locale : DS := dRet (dCall f_is_integer_within [.v (dVar 1), .v (dC (.int 0)), .v (dPrim pSub [.v (dPrim pLen [.s 0]), .v (dC (.int 1))])])
def f_has_locale : DFn := dDef false 2 2 m_has_locale
/-- has_wishes -/
def m_has_wishes : DS := dRet (dAndV (dTst (dCall f_is_tuple [.v (dVar 1)])) (dPrim pAll [.v (dComp [2] (iSeq (dVar 1)) (gSet 2) (dYes) (dCall f_has_locale [.v (dVar 0), .v (dVar 2)]))]))
def f_has_wishes : DFn := dDef false 2 3 m_has_wishes
/-- has_pair -/
def m_has_pair : DS := dRet (dAndV (dTst (dCall f_has_wishes [.v (dVar 0), .v (dVar 1)])) (dPrim pEq [.v (dPrim pLen [.s 1]), .v (dC (.int 2))]))
def f_has_pair : DFn := dDef false 2 2 m_has_pair
/-- has_pairs -/
def m_has_pairs : DS := dSeq (dIfS (dOr (dNot (dTst (dCall f_is_tuple [.v (dVar 1)]))) (dNot (dTst (dPrim pAll [.v (dComp [2] (iSeq (dVar 1)) (gSet 2) (dYes) (dCall f_has_pair [.v (dVar 0), .v (dVar 2)]))])))) (dRet (dC (.bl false))) (dNext)) (dRet (dCall f_is_ascending [.v (dComp [2] (iSeq (dVar 1)) (gSet 2) (dYes) (dPrim pIx [.s 2, .v (dC (.int 0))]))]))
def f_has_pairs : DFn := dDef false 2 3 m_has_pairs
/-- has_door -/
def m_has_door : DS := dSeq (dIfS (dOr (dNot (dTst (dCall f_is_tuple [.v (dVar 1)]))) (dOr (dTst (dPrim pNe [.v (dPrim pLen [.s 1]), .v (dC (.int 2))])) (dNot (dTst (dPrim (pIsI "str") [.v (dPrim pIx [.s 1, .v (dC (.int 0))])]))))) (dRet (dC (.bl false))) (dNext)) (dSeq (dAsg (gTupD 2 (gsCons (gSet 2) (gsCons (gSet 3) (gsNil)))) (dVar 1)) (dSeq (dIfS (dTst (dPrim (pInN false) [.s 2, .v (dPrim pTup [.v (dC (.str "only")), .v (dC (.str "lift"))])])) (dRet (dAndV (dTst (dCall f_has_wishes [.v (dVar 0), .v (dVar 3)])) (dCall f_is_ascending [.v (dVar 3)]))) (dNext)) (dSeq (dIfS (dTst (dPrim pEq [.s 2, .v (dC (.str "swap"))])) (dRet (dCall f_has_pairs [.v (dVar 0), .v (dVar 3)])) (dNext)) (dRet (dAndV (dTst (dPrim (pInN false) [.s 2, .v (dPrim pTup [.v (dC (.str "head")), .v (dC (.str "pad"))])])) (dCall f_has_wishes [.v (dVar 0), .v (dVar 3)]))))))
def f_has_door : DFn := dDef false 2 4 m_has_door
/-- check_door -/
def m_check_door : DS := dIfS (dNot (dTst (dCall f_has_door [.v (dVar 0), .v (dVar 1)]))) (dNever) (dNext)
def f_check_door : DFn := dDef false 2 2 m_check_door
/-- Doors___init__ -/
def m_Doors___init__ : DS := dSeq (dDrop (dCall f_check_tree [.v (dVar 1)])) (dSeq (dForI (iSeq (dVar 2)) (gSet 3) (dDrop (dCall f_check_door [.v (dVar 1), .v (dVar 3)]))) (dNext))
def f_Doors : DFn := dInit "Doors" 1 4 m_Doors___init__ "_tree" 1 "_doors" 2
/-- _law_is_list -/
def m__law_is_list : DS := dSeq (dIfS (dOr (dNot (dTst (dPrim (pIsI "tuple") [.s 0]))) (dTst (dPrim pNe [.v (dPrim pLen [.s 0]), .v (dPrim pLen [.s 1])]))) (dRet (dC (.bl false))) (dNext)) (dSeq (dForI (iArgs rng1 [.v (dPrim pLen [.s 1])]) (gSet 2) (dIfS (dOr (dNot (dTst (dPrim (pIsI "int") [.v (dPrim pIx [.s 0, .s 2])]))) (dOr (dTst (dPrim (pIsI "bool") [.v (dPrim pIx [.s 0, .s 2])])) (dTst (dPrim pNe [.v (dPrim pIx [.s 0, .s 2]), .v (dPrim pIx [.s 1, .s 2])])))) (dRet (dC (.bl false))) (dNext))) (dRet (dC (.bl true))))
def f__law_is_list : DFn := dDef false 2 3 m__law_is_list
/-- check_wishes -/
def m_check_wishes : DS := dIfS (dNot (dTst (dCall f_has_wishes [.v (dVar 0), .v (dVar 1)]))) (dNever) (dNext)
def f_check_wishes : DFn := dDef false 2 2 m_check_wishes
/-- swapped -/
def m_swapped : DS := dSeq (dForI (iSeq (dVar 0)) (gTupD 2 (gsCons (gSet 2) (gsCons (gSet 3) (gsNil)))) (dIfS (dTst (dPrim pEq [.s 2, .s 1])) (dRetV 3) (dNext))) (dRet (dVar 1))
def f_swapped : DFn := dDef false 2 4 m_swapped
/-- path_of -/
def m_path_of : DS := dSeq (dSet 2 (dPrim pLst [.v (dVar 1)])) (dSeq (dSet 3 (dPrim pIx [.s 0, .s 1])) (dSeq (dWhile (dAnd (dTst (dPrim pNotN [.s 3, .v (dC .non)])) (dTst (dPrim pNe [.s 3, .v (dC (.int 0))]))) (dSeq (dDrop (dMut mApp 2 [.v (dVar 3)])) (dSet 3 (dPrim pIx [.s 0, .s 3]))) 64) (dRet (dPrim pTupOf [.s 2]))))
def f_path_of : DFn := dDef false 2 4 m_path_of
/-- lifted -/
def m_lifted : DS := dRet (dSlice pSlice (.v (dComp [3] (iSeq (dCall f_path_of [.v (dVar 0), .v (dVar 2)])) (gSet 3) (dTst (dPrim (pInN false) [.s 3, .s 1])) (dVar 3))) none (some (dC (.int 1))))
def f_lifted : DFn := dDef false 3 4 m_lifted
/-- behind_door -/
def m_behind_door : DS := dSeq (dAsg (gTupD 2 (gsCons (gSet 3) (gsCons (gSet 4) (gsNil)))) (dVar 1)) (dSeq (dIfS (dTst (dPrim pEq [.s 3, .v (dC (.str "only"))])) (dRet (dPrim pTupOf [.v (dComp [5] (iSeq (dVar 2)) (gSet 5) (dTst (dPrim (pInN false) [.s 5, .s 4])) (dVar 5))])) (dNext)) (dSeq (dIfS (dTst (dPrim pEq [.s 3, .v (dC (.str "lift"))])) (dRet (dPrim pTupOf [.v (dComp2 [5, 6] [6] (iSeq (dVar 2)) (gSet 5) (dYes) (iSeq (dCall f_lifted [.v (dVar 0), .v (dVar 4), .v (dVar 5)])) (gSet 6) (dYes) (dVar 6))])) (dNext)) (dSeq (dIfS (dTst (dPrim pEq [.s 3, .v (dC (.str "swap"))])) (dRet (dPrim pTupOf [.v (dComp [5] (iSeq (dVar 2)) (gSet 5) (dYes) (dCall f_swapped [.v (dVar 4), .v (dVar 5)]))])) (dNext)) (dSeq (dIfS (dTst (dPrim pEq [.s 3, .v (dC (.str "head"))])) (dRet (dPrim pAdd [.s 4, .s 2])) (dNext)) (dRet (dPrim pAdd [.s 2, .s 4]))))))
def f_behind_door : DFn := dDef false 3 7 m_behind_door
/-- behind_doors -/
def m_behind_doors : DS := dSeq (dSet 3 (dVar 2)) (dSeq (dForI (iSeq (dVar 1)) (gSet 4) (dSet 3 (dCall f_behind_door [.v (dVar 0), .v (dVar 4), .v (dVar 3)]))) (dRetV 3))
def f_behind_doors : DFn := dDef false 3 5 m_behind_doors
/-- Doors___call__ -/
def m_Doors___call__ : DS := dSeq (dDrop (dCall f_check_wishes [.v (dPrim (pFldP "Doors" "_tree") [.s 0]), .v (dVar 1)])) (dRet (dCall f_behind_doors [.v (dPrim (pFldP "Doors" "_tree") [.s 0]), .v (dPrim (pFldP "Doors" "_doors") [.s 0]), .v (dVar 1)]))
def f_Doors___call__ : DFn := dDef false 2 2 m_Doors___call__
/-- _law_up_from -/
def m__law_up_from : DS := dSeq (dSet 2 (dPrim pLst [.v (dVar 1)])) (dSeq (dForI (iArgs rng1 [.v (dPrim pLen [.s 0])]) (gSet 3) (dSeq (dSet 4 (dPrim pIx [.s 0, .v (dPrim pIx [.s 2, .v (dPrim pNeg [.v (dC (.int 1))])])])) (dSeq (dIfS (dOr (dTst (dPrim pIsN [.s 4, .v (dC .non)])) (dTst (dPrim pEq [.s 4, .v (dC (.int 0))]))) (dRetV 2) (dNext)) (dDrop (dMut mApp 2 [.v (dVar 4)]))))) (dRetV 2))
def f__law_up_from : DFn := dDef false 2 5 m__law_up_from
/-- _law_one_gate -/
def m__law_one_gate : DS := dSeq (dAsg (gTupD 2 (gsCons (gSet 3) (gsCons (gSet 4) (gsNil)))) (dVar 1)) (dSeq (dIfS (dTst (dPrim pEq [.s 3, .v (dC (.str "head"))])) (dRet (dPrim pAdd [.v (dPrim pLstOf [.s 4]), .v (dPrim pLstOf [.s 2])])) (dNext)) (dSeq (dIfS (dTst (dPrim pEq [.s 3, .v (dC (.str "pad"))])) (dRet (dPrim pAdd [.v (dPrim pLstOf [.s 2]), .v (dPrim pLstOf [.s 4])])) (dNext)) (dSeq (dSet 5 (dPrim pLst [])) (dSeq (dForI (iSeq (dVar 2)) (gSet 6) (dSeq (dSet 7 (dPrim pLst [.v (dVar 6)])) (dSeq (dIfS (dTst (dPrim pEq [.s 3, .v (dC (.str "only"))])) (dSet 7 (dComp [8] (iSeq (dVar 4)) (gSet 8) (dTst (dPrim pEq [.s 8, .s 6])) (dVar 8))) (dNext)) (dSeq (dIfS (dTst (dPrim pEq [.s 3, .v (dC (.str "lift"))])) (dSet 7 (dComp [8] (iSeq (dCall f__law_up_from [.v (dVar 0), .v (dVar 6)])) (gSet 8) (dTst (dPrim (pInN false) [.s 8, .s 4])) (dVar 8))) (dNext)) (dSeq (dIfS (dTst (dPrim pEq [.s 3, .v (dC (.str "swap"))])) (dSet 7 (dPrim pAdd [.v (dComp [9] (iSeq (dVar 4)) (gSet 9) (dTst (dPrim pEq [.v (dPrim pIx [.s 9, .v (dC (.int 0))]), .s 6])) (dPrim pIx [.s 9, .v (dC (.int 1))])), .v (dPrim pLst [.v (dVar 6)])])) (dNext)) (dIfS (dTst (dPrim pNe [.s 7, .v (dPrim pLst [])])) (dDrop (dMut mApp 5 [.v (dPrim pIx [.s 7, .v (dC (.int 0))])])) (dNext))))))) (dRetV 5)))))
def f__law_one_gate : DFn := dDef false 3 10 m__law_one_gate
/-- law -/
def m_law : DS := dSeq (dForI (iSeq (dPrim pAdd [.v (dPrim pLst [.v (dC (.int 7302951846203718495026173849506172839405))]), .v (dSlice pSlice (.s 0) none (some (dC (.int 16))))])) (gSet 1) (dSeq (dSet 2 (dCall f__law_pot [.v (dVar 1)])) (dSeq (dSet 3 (dCallR f__law_drawn_fir 2 [.v (dC (.int 10))])) (dSeq (dSet 4 (dCallR f__law_drawn_gate 2 [.v (dPrim pLen [.s 3]), .v (dC (.int 40))])) (dSeq (dSet 5 (dCallR f__law_drawn_asks 2 [.v (dPrim pLen [.s 3]), .v (dC (.int 40))])) (dSeq (dSet 6 (dCallR f__law_drawn_asks 2 [.v (dPrim pLen [.s 3]), .v (dC (.int 40))])) (dSeq (dSet 7 (dCall f_Doors [.v (dVar 3), .v (dVar 4)])) (dSeq (dForI (iSeq (dPrim pLst [.v (dVar 5), .v (dVar 6), .v (dVar 5)])) (gSet 8) (dIfS (dNot (dTst (dCall f__law_is_list [.v (dCallO "Doors" f_Doors___call__ (dVar 7) [.v (dVar 8)]), .v (dCall f__law_one_gate [.v (dVar 3), .v (dVar 4), .v (dVar 8)])]))) (dRet (dC (.bl false))) (dNext))) (dSeq (dIfS (dNot (dTst (dCall f__law_is_list [.v (dCallO "Doors" f_Doors___call__ (dCall f_Doors [.v (dVar 3)]) [.v (dVar 6)]), .v (dPrim pLstOf [.s 6])]))) (dRet (dC (.bl false))) (dNext)) (dIfS (dNot (dTst (dCall f__law_is_list [.v (dCallO "Doors" f_Doors___call__ (dVar 7) [.v (dVar 6)]), .v (dCall f__law_one_gate [.v (dVar 3), .v (dVar 4), .v (dVar 6)])]))) (dRet (dC (.bl false))) (dNext))))))))))) (dRet (dC (.bl true)))
def f_law : DFn := dDef false 1 9 m_law
end My
namespace My
open PySem PySem.Spec PyProof.Rows L2 DL
def topS (i : Nat) : Stmt := PySem.Challenge.pw_wishedtongues_k52_one_door.main.body.getD i (.Pass ⟨0, 0, 0, 0⟩)
def N__law_pot : List Str := ["cell", "rest"]
theorem sc__law_pot : FnScope N__law_pot ["cell"] (defScope (topS 37)) := ⟨rfl, rfl, rfl, by decide +kernel, rfl, by decide +kernel, by decide +kernel⟩
def N__law_pick : List Str := ["pot", "upto", "digit", "turn", "mixed"]
theorem sc__law_pick : FnScope N__law_pick ["pot", "upto"] (defScope (topS 38)) := ⟨rfl, rfl, rfl, by decide +kernel, rfl, by decide +kernel, by decide +kernel⟩
def N__law_drawn_fir : List Str := ["pot", "upto", "size", "shape", "fir", "k", "above"]
theorem sc__law_drawn_fir : FnScope N__law_drawn_fir ["pot", "upto"] (defScope (topS 39)) := ⟨rfl, rfl, rfl, by decide +kernel, rfl, by decide +kernel, by decide +kernel⟩
def N__law_drawn_asks : List Str := ["pot", "size", "upto", "much", "k"]
theorem sc__law_drawn_asks : FnScope N__law_drawn_asks ["pot", "size", "upto"] (defScope (topS 40)) := ⟨rfl, rfl, rfl, by decide +kernel, rfl, by decide +kernel, by decide +kernel⟩
def N__law_drawn_gate : List Str := ["pot", "size", "upto", "word", "often", "marks", "k"]
theorem sc__law_drawn_gate : FnScope N__law_drawn_gate ["pot", "size", "upto"] (defScope (topS 41)) := ⟨rfl, rfl, rfl, by decide +kernel, rfl, by decide +kernel, by decide +kernel⟩
def N_is_tuple : List Str := ["value"]
theorem sc_is_tuple : FnScope N_is_tuple ["value"] (defScope (topS 9)) := ⟨rfl, rfl, rfl, by decide +kernel, rfl, by decide +kernel, by decide +kernel⟩
def N_is_integer_within : List Str := ["value", "low", "high"]
theorem sc_is_integer_within : FnScope N_is_integer_within ["value", "low", "high"] (defScope (topS 10)) := ⟨rfl, rfl, rfl, by decide +kernel, rfl, by decide +kernel, by decide +kernel⟩
def N_is_tree : List Str := ["value", "index"]
theorem sc_is_tree : FnScope N_is_tree ["value"] (defScope (topS 20)) := ⟨rfl, rfl, rfl, by decide +kernel, rfl, by decide +kernel, by decide +kernel⟩
def N_check_tree : List Str := ["tree"]
theorem sc_check_tree : FnScope N_check_tree ["tree"] (defScope (topS 21)) := ⟨rfl, rfl, rfl, by decide +kernel, rfl, by decide +kernel, by decide +kernel⟩
def N_is_ascending : List Str := ["values", "value", "next_value"]
theorem sc_is_ascending : FnScope N_is_ascending ["values"] (defScope (topS 11)) := ⟨rfl, rfl, rfl, by decide +kernel, rfl, by decide +kernel, by decide +kernel⟩
def N_has_locale : List Str := ["tree", "value"]
theorem sc_has_locale : FnScope N_has_locale ["tree", "value"] (defScope (topS 13)) := ⟨rfl, rfl, rfl, by decide +kernel, rfl, by decide +kernel, by decide +kernel⟩
def N_has_wishes : List Str := ["tree", "value", "wish"]
theorem sc_has_wishes : FnScope N_has_wishes ["tree", "value"] (defScope (topS 14)) := ⟨rfl, rfl, rfl, by decide +kernel, rfl, by decide +kernel, by decide +kernel⟩
def N_has_pair : List Str := ["tree", "value"]
theorem sc_has_pair : FnScope N_has_pair ["tree", "value"] (defScope (topS 24)) := ⟨rfl, rfl, rfl, by decide +kernel, rfl, by decide +kernel, by decide +kernel⟩
def N_has_pairs : List Str := ["tree", "value", "pair"]
theorem sc_has_pairs : FnScope N_has_pairs ["tree", "value"] (defScope (topS 25)) := ⟨rfl, rfl, rfl, by decide +kernel, rfl, by decide +kernel, by decide +kernel⟩
def N_has_door : List Str := ["tree", "value", "word", "told"]
theorem sc_has_door : FnScope N_has_door ["tree", "value"] (defScope (topS 26)) := ⟨rfl, rfl, rfl, by decide +kernel, rfl, by decide +kernel, by decide +kernel⟩
def N_check_door : List Str := ["tree", "door"]
theorem sc_check_door : FnScope N_check_door ["tree", "door"] (defScope (topS 34)) := ⟨rfl, rfl, rfl, by decide +kernel, rfl, by decide +kernel, by decide +kernel⟩
def stm_Doors___init__ : Stmt := (clsB (topS 35)).getD 0 (.Pass ⟨0, 0, 0, 0⟩)
def N_Doors___init__ : List Str := ["self", "tree", "doors", "door"]
theorem sc_Doors___init__ : FnScope N_Doors___init__ ["self", "tree", "doors"] (defScope stm_Doors___init__) := ⟨rfl, rfl, rfl, by decide +kernel, rfl, by decide +kernel, by decide +kernel⟩
def N__law_is_list : List Str := ["told", "due", "k"]
theorem sc__law_is_list : FnScope N__law_is_list ["told", "due"] (defScope (topS 44)) := ⟨rfl, rfl, rfl, by decide +kernel, rfl, by decide +kernel, by decide +kernel⟩
def N_check_wishes : List Str := ["tree", "wishes"]
theorem sc_check_wishes : FnScope N_check_wishes ["tree", "wishes"] (defScope (topS 22)) := ⟨rfl, rfl, rfl, by decide +kernel, rfl, by decide +kernel, by decide +kernel⟩
def N_swapped : List Str := ["pairs", "wish", "first", "second"]
theorem sc_swapped : FnScope N_swapped ["pairs", "wish"] (defScope (topS 28)) := ⟨rfl, rfl, rfl, by decide +kernel, rfl, by decide +kernel, by decide +kernel⟩
def N_path_of : List Str := ["tree", "locale", "steps", "parent"]
theorem sc_path_of : FnScope N_path_of ["tree", "locale"] (defScope (topS 15)) := ⟨rfl, rfl, rfl, by decide +kernel, rfl, by decide +kernel, by decide +kernel⟩
def N_lifted : List Str := ["tree", "locales", "wish", "step"]
theorem sc_lifted : FnScope N_lifted ["tree", "locales", "wish"] (defScope (topS 27)) := ⟨rfl, rfl, rfl, by decide +kernel, rfl, by decide +kernel, by decide +kernel⟩
def N_behind_door : List Str := ["tree", "door", "wishes", "word", "told", "wish", "step"]
theorem sc_behind_door : FnScope N_behind_door ["tree", "door", "wishes"] (defScope (topS 29)) := ⟨rfl, rfl, rfl, by decide +kernel, rfl, by decide +kernel, by decide +kernel⟩
def N_behind_doors : List Str := ["tree", "doors", "wishes", "behind", "door"]
theorem sc_behind_doors : FnScope N_behind_doors ["tree", "doors", "wishes"] (defScope (topS 30)) := ⟨rfl, rfl, rfl, by decide +kernel, rfl, by decide +kernel, by decide +kernel⟩
def stm_Doors___call__ : Stmt := (clsB (topS 35)).getD 4 (.Pass ⟨0, 0, 0, 0⟩)
def N_Doors___call__ : List Str := ["self", "wishes"]
theorem sc_Doors___call__ : FnScope N_Doors___call__ ["self", "wishes"] (defScope stm_Doors___call__) := ⟨rfl, rfl, rfl, by decide +kernel, rfl, by decide +kernel, by decide +kernel⟩
def N__law_up_from : List Str := ["fir", "spot", "steps", "k", "above"]
theorem sc__law_up_from : FnScope N__law_up_from ["fir", "spot"] (defScope (topS 42)) := ⟨rfl, rfl, rfl, by decide +kernel, rfl, by decide +kernel, by decide +kernel⟩
def N__law_one_gate : List Str := ["fir", "gate", "asks", "word", "told", "found", "wish", "hits", "spot", "pair"]
theorem sc__law_one_gate : FnScope N__law_one_gate ["fir", "gate", "asks"] (defScope (topS 43)) := ⟨rfl, rfl, rfl, by decide +kernel, rfl, by decide +kernel, by decide +kernel⟩
def N_law : List Str := ["script", "cell", "pot", "fir", "gate", "first", "second", "made", "asks"]
theorem sc_law : FnScope N_law ["script"] (defScope (topS 45)) := ⟨rfl, rfl, rfl, by decide +kernel, rfl, by decide +kernel, by decide +kernel⟩
structure Txt (K : PySem.W.Frag) (mg : Str → Option Value) where
  a__law_pot : Addr
  fd__law_pot : FuncData
  F__law_pot : FunV K "_law_pot" "_law_pot" (topS 37) a__law_pot fd__law_pot
  g__law_pot : mg "_law_pot" = some (.ref a__law_pot)
  b__law_pot : Binds K fd__law_pot ["cell"] []
  a__law_pick : Addr
  fd__law_pick : FuncData
  F__law_pick : FunV K "_law_pick" "_law_pick" (topS 38) a__law_pick fd__law_pick
  g__law_pick : mg "_law_pick" = some (.ref a__law_pick)
  b__law_pick : Binds K fd__law_pick ["pot", "upto"] []
  a__law_drawn_fir : Addr
  fd__law_drawn_fir : FuncData
  F__law_drawn_fir : FunV K "_law_drawn_fir" "_law_drawn_fir" (topS 39) a__law_drawn_fir fd__law_drawn_fir
  g__law_drawn_fir : mg "_law_drawn_fir" = some (.ref a__law_drawn_fir)
  b__law_drawn_fir : Binds K fd__law_drawn_fir ["pot", "upto"] []
  a__law_drawn_asks : Addr
  fd__law_drawn_asks : FuncData
  F__law_drawn_asks : FunV K "_law_drawn_asks" "_law_drawn_asks" (topS 40) a__law_drawn_asks fd__law_drawn_asks
  g__law_drawn_asks : mg "_law_drawn_asks" = some (.ref a__law_drawn_asks)
  b__law_drawn_asks : Binds K fd__law_drawn_asks ["pot", "size", "upto"] []
  a__law_drawn_gate : Addr
  fd__law_drawn_gate : FuncData
  F__law_drawn_gate : FunV K "_law_drawn_gate" "_law_drawn_gate" (topS 41) a__law_drawn_gate fd__law_drawn_gate
  g__law_drawn_gate : mg "_law_drawn_gate" = some (.ref a__law_drawn_gate)
  b__law_drawn_gate : Binds K fd__law_drawn_gate ["pot", "size", "upto"] []
  a_is_tuple : Addr
  fd_is_tuple : FuncData
  F_is_tuple : FunV K "is_tuple" "is_tuple" (topS 9) a_is_tuple fd_is_tuple
  g_is_tuple : mg "is_tuple" = some (.ref a_is_tuple)
  b_is_tuple : Binds K fd_is_tuple ["value"] []
  a_is_integer_within : Addr
  fd_is_integer_within : FuncData
  F_is_integer_within : FunV K "is_integer_within" "is_integer_within" (topS 10) a_is_integer_within fd_is_integer_within
  g_is_integer_within : mg "is_integer_within" = some (.ref a_is_integer_within)
  b_is_integer_within : Binds K fd_is_integer_within ["value", "low", "high"] []
  a_is_tree : Addr
  fd_is_tree : FuncData
  F_is_tree : FunV K "is_tree" "is_tree" (topS 20) a_is_tree fd_is_tree
  g_is_tree : mg "is_tree" = some (.ref a_is_tree)
  b_is_tree : Binds K fd_is_tree ["value"] []
  a_check_tree : Addr
  fd_check_tree : FuncData
  F_check_tree : FunV K "check_tree" "check_tree" (topS 21) a_check_tree fd_check_tree
  g_check_tree : mg "check_tree" = some (.ref a_check_tree)
  b_check_tree : Binds K fd_check_tree ["tree"] []
  a_is_ascending : Addr
  fd_is_ascending : FuncData
  F_is_ascending : FunV K "is_ascending" "is_ascending" (topS 11) a_is_ascending fd_is_ascending
  g_is_ascending : mg "is_ascending" = some (.ref a_is_ascending)
  b_is_ascending : Binds K fd_is_ascending ["values"] []
  a_has_locale : Addr
  fd_has_locale : FuncData
  F_has_locale : FunV K "has_locale" "has_locale" (topS 13) a_has_locale fd_has_locale
  g_has_locale : mg "has_locale" = some (.ref a_has_locale)
  b_has_locale : Binds K fd_has_locale ["tree", "value"] []
  a_has_wishes : Addr
  fd_has_wishes : FuncData
  F_has_wishes : FunV K "has_wishes" "has_wishes" (topS 14) a_has_wishes fd_has_wishes
  g_has_wishes : mg "has_wishes" = some (.ref a_has_wishes)
  b_has_wishes : Binds K fd_has_wishes ["tree", "value"] []
  a_has_pair : Addr
  fd_has_pair : FuncData
  F_has_pair : FunV K "has_pair" "has_pair" (topS 24) a_has_pair fd_has_pair
  g_has_pair : mg "has_pair" = some (.ref a_has_pair)
  b_has_pair : Binds K fd_has_pair ["tree", "value"] []
  a_has_pairs : Addr
  fd_has_pairs : FuncData
  F_has_pairs : FunV K "has_pairs" "has_pairs" (topS 25) a_has_pairs fd_has_pairs
  g_has_pairs : mg "has_pairs" = some (.ref a_has_pairs)
  b_has_pairs : Binds K fd_has_pairs ["tree", "value"] []
  a_has_door : Addr
  fd_has_door : FuncData
  F_has_door : FunV K "has_door" "has_door" (topS 26) a_has_door fd_has_door
  g_has_door : mg "has_door" = some (.ref a_has_door)
  b_has_door : Binds K fd_has_door ["tree", "value"] []
  a_check_door : Addr
  fd_check_door : FuncData
  F_check_door : FunV K "check_door" "check_door" (topS 34) a_check_door fd_check_door
  g_check_door : mg "check_door" = some (.ref a_check_door)
  b_check_door : Binds K fd_check_door ["tree", "door"] []
  a_Doors___init__ : Addr
  fd_Doors___init__ : FuncData
  F_Doors___init__ : FunV K "__init__" "Doors.__init__" stm_Doors___init__ a_Doors___init__ fd_Doors___init__
  hb_Doors___init__ : ∀ us rest : List Value, us.length = 2 → bindArgs fd_Doors___init__ ⟨us ++ rest, []⟩ = (newTuple rest >>= fun t => pure ((["self", "tree"] : List Str).zip us ++ [(("doors" : Str), t)]))
  a__law_is_list : Addr
  fd__law_is_list : FuncData
  F__law_is_list : FunV K "_law_is_list" "_law_is_list" (topS 44) a__law_is_list fd__law_is_list
  g__law_is_list : mg "_law_is_list" = some (.ref a__law_is_list)
  b__law_is_list : Binds K fd__law_is_list ["told", "due"] []
  a_check_wishes : Addr
  fd_check_wishes : FuncData
  F_check_wishes : FunV K "check_wishes" "check_wishes" (topS 22) a_check_wishes fd_check_wishes
  g_check_wishes : mg "check_wishes" = some (.ref a_check_wishes)
  b_check_wishes : Binds K fd_check_wishes ["tree", "wishes"] []
  a_swapped : Addr
  fd_swapped : FuncData
  F_swapped : FunV K "swapped" "swapped" (topS 28) a_swapped fd_swapped
  g_swapped : mg "swapped" = some (.ref a_swapped)
  b_swapped : Binds K fd_swapped ["pairs", "wish"] []
  a_path_of : Addr
  fd_path_of : FuncData
  F_path_of : FunV K "path_of" "path_of" (topS 15) a_path_of fd_path_of
  g_path_of : mg "path_of" = some (.ref a_path_of)
  b_path_of : Binds K fd_path_of ["tree", "locale"] []
  a_lifted : Addr
  fd_lifted : FuncData
  F_lifted : FunV K "lifted" "lifted" (topS 27) a_lifted fd_lifted
  g_lifted : mg "lifted" = some (.ref a_lifted)
  b_lifted : Binds K fd_lifted ["tree", "locales", "wish"] []
  a_behind_door : Addr
  fd_behind_door : FuncData
  F_behind_door : FunV K "behind_door" "behind_door" (topS 29) a_behind_door fd_behind_door
  g_behind_door : mg "behind_door" = some (.ref a_behind_door)
  b_behind_door : Binds K fd_behind_door ["tree", "door", "wishes"] []
  a_behind_doors : Addr
  fd_behind_doors : FuncData
  F_behind_doors : FunV K "behind_doors" "behind_doors" (topS 30) a_behind_doors fd_behind_doors
  g_behind_doors : mg "behind_doors" = some (.ref a_behind_doors)
  b_behind_doors : Binds K fd_behind_doors ["tree", "doors", "wishes"] []
  a_Doors___call__ : Addr
  fd_Doors___call__ : FuncData
  F_Doors___call__ : FunV K "__call__" "Doors.__call__" stm_Doors___call__ a_Doors___call__ fd_Doors___call__
  b_Doors___call__ : Binds K fd_Doors___call__ ["self", "wishes"] []
  a__law_up_from : Addr
  fd__law_up_from : FuncData
  F__law_up_from : FunV K "_law_up_from" "_law_up_from" (topS 42) a__law_up_from fd__law_up_from
  g__law_up_from : mg "_law_up_from" = some (.ref a__law_up_from)
  b__law_up_from : Binds K fd__law_up_from ["fir", "spot"] []
  a__law_one_gate : Addr
  fd__law_one_gate : FuncData
  F__law_one_gate : FunV K "_law_one_gate" "_law_one_gate" (topS 43) a__law_one_gate fd__law_one_gate
  g__law_one_gate : mg "_law_one_gate" = some (.ref a__law_one_gate)
  b__law_one_gate : Binds K fd__law_one_gate ["fir", "gate", "asks"] []
  a_law : Addr
  fd_law : FuncData
  F_law : FunV K "law" "law" (topS 45) a_law fd_law
  g_law : mg "law" = some (.ref a_law)
  b_law : Binds K fd_law ["script"] []
  o_Doors : ObjT K mg "Doors"
  mk_Doors : Mk K o_Doors.C a_Doors___init__
  na_Doors__tree : NoAttr K o_Doors.C "_tree"
  na_Doors__doors : NoAttr K o_Doors.C "_doors"
  co_Doors : StX.CallO K o_Doors.C a_Doors___call__
  kw1_Doors___call___wishes : ∀ (s : Shared) (u v : Value), BindsTo s fd_Doors___call__ ⟨[u], [("wishes", v)]⟩ ((["self", "wishes"] : List Str).zip [u, v])
  m_all : mg "all" = none
  m_bool : mg "bool" = none
  m_int : mg "int" = none
  m_isinstance : mg "isinstance" = none
  m_len : mg "len" = none
  m_list : mg "list" = none
  m_max : mg "max" = none
  m_min : mg "min" = none
  m_range : mg "range" = none
  m_str : mg "str" = none
  m_tuple : mg "tuple" = none
  m_type : mg "type" = none
  m_zip : mg "zip" = none
  k_MOST_LOCALES : Tok
  c_MOST_LOCALES : mg "MOST_LOCALES" = some (.int (10) k_MOST_LOCALES)
section
variable {P : Program} {w : World} {K : PySem.W.Frag} {mg : Str → Option Value} {base : Heap}
theorem ok__law_pot (t : Txt K mg) : GOk P w K mg base 1 t.a__law_pot t.fd__law_pot ["cell"] (spD K mg false 1 f__law_pot) := by
  refine def_ok (k := 0) (N := N__law_pot) (m := m__law_pot) t.F__law_pot sc__law_pot (by decide) fun cdv A outer s H E hr => ?_
  exact ss_cons (s_set 1 sc__law_pot.nd (e_int)) (ss_cons (s_if (y_ge (o_s 0) (o_v (x_pow (o_v (e_int)) (o_v (e_int))))) (ss_one (s_set 1 sc__law_pot.nd (x_sub (o_s 0) (o_v (x_pow (o_v (e_int)) (o_v (e_int))))))) (ss_nil)) (ss_one (s_ret (e_lst (a_cons (o_v (e_var 1)) (a_cons (o_v (x_mod (o_v (x_int t.m_int (o_s 0))) (o_v (e_int)))) (a_cons (o_v (e_int)) a_nil)))))))
theorem ok__law_pick (t : Txt K mg) : GOk P w K mg base 1 t.a__law_pick t.fd__law_pick ["pot", "upto"] (spD K mg true 2 f__law_pick) := by
  refine def_ok (k := 0) (N := N__law_pick) (m := m__law_pick) t.F__law_pick sc__law_pick (by decide) fun cdv A outer s H E hr => ?_
  exact ss_cons (s_if (y_gt (o_v (x_ix (o_s 0) (o_v (e_int)) (fun _ _ => rfl))) (o_v (e_int))) (ss_cons (s_set 2 sc__law_pick.nd (x_mod (o_v (x_int t.m_int (o_v (x_ix (o_s 0) (o_v (e_int)) (fun _ _ => rfl))))) (o_s 1))) (ss_cons (s_setIx 0 (x_fdiv (o_v (x_ix (o_s 0) (o_v (e_int)) (fun _ _ => rfl))) (o_s 1)) (o_v (e_int))) (ss_one (s_retV 2)))) (ss_nil)) (ss_cons (s_setIx 0 (x_add (o_v (x_ix (o_s 0) (o_v (e_int)) (fun _ _ => rfl))) (o_v (e_int))) (o_v (e_int))) (ss_cons (s_set 3 sc__law_pick.nd (x_ix (o_s 0) (o_v (e_int)) (fun _ _ => rfl))) (ss_cons (s_set 4 sc__law_pick.nd (x_add (o_v (x_mul (o_v (x_add (o_v (x_ix (o_s 0) (o_v (e_int)) (fun _ _ => rfl))) (o_v (e_int)))) (o_v (x_add (o_v (x_add (o_v (x_mul (o_v (x_mul (o_v (e_int)) (o_s 3))) (o_s 3))) (o_v (x_mul (o_v (e_int)) (o_s 3))))) (o_v (e_int)))))) (o_v (x_mul (o_v (e_int)) (o_s 3))))) (ss_cons (s_set 4 sc__law_pick.nd (x_fdiv (o_v (x_mod (o_v (x_int t.m_int (o_v (x_add (o_v (x_mul (o_s 4) (o_s 4))) (o_v (x_mul (o_v (e_int)) (o_s 4))))))) (o_v (e_int)))) (o_v (e_int)))) (ss_cons (s_set 4 sc__law_pick.nd (x_fdiv (o_v (x_mod (o_v (x_int t.m_int (o_v (x_add (o_v (x_add (o_v (x_mul (o_s 4) (o_s 4))) (o_v (x_mul (o_v (e_int)) (o_s 4))))) (o_s 3))))) (o_v (e_int)))) (o_v (e_int)))) (ss_one (s_ret (x_mod (o_v (x_int t.m_int (o_s 4))) (o_s 1)))))))))
theorem ok__law_drawn_fir (t : Txt K mg) : GOk P w K mg base 2 t.a__law_drawn_fir t.fd__law_drawn_fir ["pot", "upto"] (spD K mg true 2 f__law_drawn_fir) := by
  refine def_ok (k := 1) (N := N__law_drawn_fir) (m := m__law_drawn_fir) t.F__law_drawn_fir sc__law_drawn_fir (by decide) fun cdv A outer s H E hr => ?_
  exact ss_cons (s_set 2 sc__law_drawn_fir.nd (x_add (o_v (e_int)) (o_v (e_callR 0 (ok__law_pick t) (hr.mono (by decide)) t.g__law_pick t.F__law_pick.kp t.b__law_pick (takes_of rfl rfl rfl rfl) (a_cons (o_v (e_var 1)) a_nil))))) (ss_cons (s_set 3 sc__law_drawn_fir.nd (e_callR 0 (ok__law_pick t) (hr.mono (by decide)) t.g__law_pick t.F__law_pick.kp t.b__law_pick (takes_of rfl rfl rfl rfl) (a_cons (o_v (e_int)) a_nil))) (ss_cons (s_set 4 sc__law_drawn_fir.nd (e_lst (a_cons (o_v (e_non)) a_nil))) (ss_cons (s_for (passes_of rfl) rfl (it_rng2 (by rfl) t.m_range (a_cons (o_v (e_int)) (a_cons (o_s 2) a_nil))) (g_name 5 sc__law_drawn_fir.nd) (ss_cons (s_set 6 sc__law_drawn_fir.nd (e_callR 0 (ok__law_pick t) (hr.mono (by decide)) t.g__law_pick t.F__law_pick.kp t.b__law_pick (takes_of rfl rfl rfl rfl) (a_cons (o_v (e_var 5)) a_nil))) (ss_cons (s_if (y_eq hr (o_s 3) (o_v (e_int))) (ss_one (s_set 6 sc__law_drawn_fir.nd (e_int))) (ss_nil)) (ss_cons (s_if (y_eq hr (o_s 3) (o_v (e_int))) (ss_one (s_set 6 sc__law_drawn_fir.nd (x_sub (o_s 5) (o_v (e_int))))) (ss_nil)) (ss_cons (s_if (y_eq hr (o_s 3) (o_v (e_int))) (ss_one (s_set 6 sc__law_drawn_fir.nd (x_max (by rfl) t.m_max (a_cons (o_v (e_int)) (a_cons (o_v (x_sub (o_s 5) (o_v (e_int)))) a_nil))))) (ss_nil)) (ss_one (s_expr (e_append 4 (a_cons (o_v (e_var 6)) a_nil))))))))) (ss_one (s_ret (x_tuple t.m_tuple (o_s 4)))))))
theorem ok__law_drawn_asks (t : Txt K mg) : GOk P w K mg base 2 t.a__law_drawn_asks t.fd__law_drawn_asks ["pot", "size", "upto"] (spD K mg true 3 f__law_drawn_asks) := by
  refine def_ok (k := 1) (N := N__law_drawn_asks) (m := m__law_drawn_asks) t.F__law_drawn_asks sc__law_drawn_asks (by decide) fun cdv A outer s H E hr => ?_
  exact ss_cons (s_set 3 sc__law_drawn_asks.nd (e_callR 0 (ok__law_pick t) (hr.mono (by decide)) t.g__law_pick t.F__law_pick.kp t.b__law_pick (takes_of rfl rfl rfl rfl) (a_cons (o_v (x_add (o_v (e_int)) (o_v (x_ix (o_v (e_lst (a_cons (o_v (x_min (by rfl) t.m_min (a_cons (o_v (e_int)) (a_cons (o_s 2) a_nil)))) (a_cons (o_v (e_var 2)) a_nil)))) (o_v (e_callR 0 (ok__law_pick t) (hr.mono (by decide)) t.g__law_pick t.F__law_pick.kp t.b__law_pick (takes_of rfl rfl rfl rfl) (a_cons (o_v (e_int)) a_nil))) (fun _ _ => rfl))))) a_nil))) (ss_one (s_ret (x_tuple t.m_tuple (o_v (by exact (e_comp (by rfl) sc__law_drawn_asks.nd (blkOk_by (own := [("k", 4)]) (N := N__law_drawn_asks) (sc := defScope (topS 40)) (by decide +kernel)) (by exact (it_rng1 (by rfl) t.m_range (a_cons (o_s 3) a_nil))) (fun _ _ _ _ _ => by exact (g_name 4 sc__law_drawn_asks.nd)) (fun _ _ _ _ _ => by exact (e_callR 0 (ok__law_pick t) (hr.mono (by decide)) t.g__law_pick t.F__law_pick.kp t.b__law_pick takes0 (a_cons (o_v (e_var 1)) a_nil)))))))))
theorem ok__law_drawn_gate (t : Txt K mg) : GOk P w K mg base 3 t.a__law_drawn_gate t.fd__law_drawn_gate ["pot", "size", "upto"] (spD K mg true 3 f__law_drawn_gate) := by
  refine def_ok (k := 2) (N := N__law_drawn_gate) (m := m__law_drawn_gate) t.F__law_drawn_gate sc__law_drawn_gate (by decide) fun cdv A outer s H E hr => ?_
  exact ss_cons (s_set 3 sc__law_drawn_gate.nd (x_ix (o_v (e_lst (a_cons (o_v (e_str)) (a_cons (o_v (e_str)) (a_cons (o_v (e_str)) (a_cons (o_v (e_str)) (a_cons (o_v (e_str)) a_nil))))))) (o_v (e_callR 0 (ok__law_pick t) (hr.mono (by decide)) t.g__law_pick t.F__law_pick.kp t.b__law_pick (takes_of rfl rfl rfl rfl) (a_cons (o_v (e_int)) a_nil))) (fun _ _ => rfl))) (ss_cons (s_if (t_w (w_or (y_eq hr (o_s 3) (o_v (e_str))) (w_or1 (y_eq hr (o_s 3) (o_v (e_str)))))) (ss_one (s_ret (e_tup (a_cons (o_v (e_var 3)) (a_cons (o_v (e_callR 0 (ok__law_drawn_asks t) (hr.mono (by decide)) t.g__law_drawn_asks t.F__law_drawn_asks.kp t.b__law_drawn_asks (takes_of rfl rfl rfl rfl) (a_cons (o_v (e_var 1)) (a_cons (o_v (e_var 2)) a_nil)))) a_nil))))) (ss_nil)) (ss_cons (s_set 4 sc__law_drawn_gate.nd (x_ix (o_v (e_lst (a_cons (o_v (e_int)) (a_cons (o_v (e_int)) (a_cons (o_v (e_int)) a_nil))))) (o_v (e_callR 0 (ok__law_pick t) (hr.mono (by decide)) t.g__law_pick t.F__law_pick.kp t.b__law_pick (takes_of rfl rfl rfl rfl) (a_cons (o_v (e_int)) a_nil))) (fun _ _ => rfl))) (ss_cons (s_setCompIf 5 (by rfl) sc__law_drawn_gate.nd (blkOk_by (own := [("k", 6)]) (N := N__law_drawn_gate) (sc := defScope (topS 41)) (by decide +kernel)) (by exact (it_rng1 (by rfl) t.m_range (a_cons (o_s 1) a_nil))) (fun _ _ _ _ _ => by exact (g_name 6 sc__law_drawn_gate.nd)) (fun _ _ _ _ _ => by exact (y_eq hr (o_v (e_callR 0 (ok__law_pick t) (hr.mono (by decide)) t.g__law_pick t.F__law_pick.kp t.b__law_pick takes0 (a_cons (o_v (e_var 4)) a_nil))) (o_v (e_int)))) (fun _ _ _ _ _ => by exact (e_var 6)) (sw_true rfl rfl rfl (by decide +kernel))) (ss_cons (s_if (y_eq hr (o_s 3) (o_v (e_str))) (ss_one (s_ret (e_tup (a_cons (o_v (e_var 3)) (a_cons (o_v (x_tuple t.m_tuple (o_v (by exact (e_comp (by rfl) sc__law_drawn_gate.nd (blkOk_by (own := [("k", 6)]) (N := N__law_drawn_gate) (sc := defScope (topS 41)) (by decide +kernel)) (by exact (it_seq (e_var 5))) (fun _ _ _ _ _ => by exact (g_name 6 sc__law_drawn_gate.nd)) (fun _ _ _ _ _ => by exact (e_tup (a_cons (o_v (e_var 6)) (a_cons (o_v (e_callR 0 (ok__law_pick t) (hr.mono (by decide)) t.g__law_pick t.F__law_pick.kp t.b__law_pick takes0 (a_cons (o_v (e_var 1)) a_nil))) a_nil))))))))) a_nil))))) (ss_nil)) (ss_one (s_ret (e_tup (a_cons (o_v (e_var 3)) (a_cons (o_v (x_tuple t.m_tuple (o_s 5))) a_nil)))))))))
theorem ok_is_tuple (t : Txt K mg) : GOk P w K mg base 1 t.a_is_tuple t.fd_is_tuple ["value"] (spD K mg false 1 f_is_tuple) := by
  refine def_ok (k := 0) (N := N_is_tuple) (m := m_is_tuple) t.F_is_tuple sc_is_tuple (by decide) fun cdv A outer s H E hr => ?_
  exact ss_one (s_ret (e_tyIs (o_s 0) t.m_type t.m_tuple (by decide +kernel)))
theorem ok_is_integer_within (t : Txt K mg) : GOk P w K mg base 1 t.a_is_integer_within t.fd_is_integer_within ["value", "low", "high"] (spD K mg false 3 f_is_integer_within) := by
  refine def_ok (k := 0) (N := N_is_integer_within) (m := m_is_integer_within) t.F_is_integer_within sc_is_integer_within (by decide) fun cdv A outer s H E hr => ?_
  exact ss_one (s_ret (e_and (e_isI (o_s 0) t.m_isinstance t.m_int (by decide +kernel)) (e_and (e_not (e_isI (o_s 0) t.m_isinstance t.m_bool (by decide +kernel))) (e_one (e_chain op_le op_le pr_cmp pr_cmp (o_s 1) (o_v (e_var 0)) (o_s 2))))))
theorem ok_is_tree (t : Txt K mg) : GOk P w K mg base 2 t.a_is_tree t.fd_is_tree ["value"] (spD K mg false 1 f_is_tree) := by
  refine def_ok (k := 1) (N := N_is_tree) (m := m_is_tree) t.F_is_tree sc_is_tree (by decide) fun cdv A outer s H E hr => ?_
  exact ss_cons (s_if (t_w (w_or (t_not (t_val (e_call (ok_is_tuple t) (hr.mono (by decide)) t.g_is_tuple t.F_is_tuple.kp t.b_is_tuple (takes_of rfl rfl rfl rfl) (a_cons (o_v (e_var 0)) a_nil)))) (w_or1 (t_not (t_chain op_le op_le pr_cmp pr_cmp (o_v (e_int)) (o_v (x_len t.m_len (o_s 0))) (o_v (e_gint (by rfl) t.c_MOST_LOCALES))))))) (ss_one (s_ret (e_bl))) (ss_nil)) (ss_cons (s_if (y_notN (o_v (x_ix (o_s 0) (o_v (e_int)) (fun _ _ => rfl))) (o_v (e_non))) (ss_one (s_ret (e_bl))) (ss_nil)) (ss_one (s_ret (x_all (by rfl) t.m_all (o_v (by exact (e_comp (by rfl) sc_is_tree.nd (blkOk_by (own := [("index", 1)]) (N := N_is_tree) (sc := defScope (topS 20)) (by decide +kernel)) (by exact (it_rng2 (by rfl) t.m_range (a_cons (o_v (e_int)) (a_cons (o_v (x_len t.m_len (o_s 0))) a_nil)))) (fun _ _ _ _ _ => by exact (g_name 1 sc_is_tree.nd)) (fun _ _ _ _ _ => by exact (e_call (ok_is_integer_within t) (hr.mono (by decide)) t.g_is_integer_within t.F_is_integer_within.kp t.b_is_integer_within takes0 (a_cons (o_v (x_ix (o_s 0) (o_s 1) (fun _ _ => rfl))) (a_cons (o_v (e_int)) (a_cons (o_v (x_sub (o_s 1) (o_v (e_int)))) a_nil))))))))))))
theorem ok_check_tree (t : Txt K mg) : GOk P w K mg base 3 t.a_check_tree t.fd_check_tree ["tree"] (spD K mg false 1 f_check_tree) := by
  refine def_ok (k := 2) (N := N_check_tree) (m := m_check_tree) t.F_check_tree sc_check_tree (by decide) fun cdv A outer s H E hr => ?_
  exact ss_one (s_if (t_not (t_val (e_call (ok_is_tree t) (hr.mono (by decide)) t.g_is_tree t.F_is_tree.kp t.b_is_tree (takes_of rfl rfl rfl rfl) (a_cons (o_v (e_var 0)) a_nil)))) (ss_one (s_never)) (ss_nil))
theorem ok_is_ascending (t : Txt K mg) : GOk P w K mg base 1 t.a_is_ascending t.fd_is_ascending ["values"] (spD K mg false 1 f_is_ascending) := by
  refine def_ok (k := 0) (N := N_is_ascending) (m := m_is_ascending) t.F_is_ascending sc_is_ascending (by decide) fun cdv A outer s H E hr => ?_
  exact ss_one (s_ret (x_all (by rfl) t.m_all (o_v (by exact (e_comp (by rfl) sc_is_ascending.nd (blkOk_by (own := [("value", 1), ("next_value", 2)]) (N := N_is_ascending) (sc := defScope (topS 11)) (by decide +kernel)) (by exact (it_zip (by rfl) t.m_zip (a_cons (o_v (e_var 0)) (a_cons (o_v (x_slice (o_s 0) (p_some (e_int)) p_none)) a_nil)))) (fun _ _ _ _ _ => by exact (g_tup rfl (gs_cons (g_name 1 sc_is_ascending.nd) (gs_cons (g_name 2 sc_is_ascending.nd) (gs_nil))))) (fun _ _ _ _ _ => by exact (x_lt (o_s 1) (o_s 2))))))))
theorem ok_has_locale (t : Txt K mg) : GOk P w K mg base 2 t.a_has_locale t.fd_has_locale ["tree", "value"] (spD K mg false 2 f_has_locale) := by
  refine def_ok (k := 1) (N := N_has_locale) (m := m_has_locale) t.F_has_locale sc_has_locale (by decide) fun cdv A outer s H E hr => ?_
  exact ss_one (s_ret (e_call (ok_is_integer_within t) (hr.mono (by decide)) t.g_is_integer_within t.F_is_integer_within.kp t.b_is_integer_within (takes_of rfl rfl rfl rfl) (a_cons (o_v (e_var 1)) (a_cons (o_v (e_int)) (a_cons (o_v (x_sub (o_v (x_len t.m_len (o_s 0))) (o_v (e_int)))) a_nil)))))
theorem ok_has_wishes (t : Txt K mg) : GOk P w K mg base 3 t.a_has_wishes t.fd_has_wishes ["tree", "value"] (spD K mg false 2 f_has_wishes) := by
  refine def_ok (k := 2) (N := N_has_wishes) (m := m_has_wishes) t.F_has_wishes sc_has_wishes (by decide) fun cdv A outer s H E hr => ?_
  exact ss_one (s_ret (e_and (e_call (ok_is_tuple t) (hr.mono (by decide)) t.g_is_tuple t.F_is_tuple.kp t.b_is_tuple (takes_of rfl rfl rfl rfl) (a_cons (o_v (e_var 1)) a_nil)) (e_one (x_all (by rfl) t.m_all (o_v (by exact (e_comp (by rfl) sc_has_wishes.nd (blkOk_by (own := [("wish", 2)]) (N := N_has_wishes) (sc := defScope (topS 14)) (by decide +kernel)) (by exact (it_seq (e_var 1))) (fun _ _ _ _ _ => by exact (g_name 2 sc_has_wishes.nd)) (fun _ _ _ _ _ => by exact (e_call (ok_has_locale t) (hr.mono (by decide)) t.g_has_locale t.F_has_locale.kp t.b_has_locale takes0 (a_cons (o_v (e_var 0)) (a_cons (o_v (e_var 2)) a_nil)))))))))))
theorem ok_has_pair (t : Txt K mg) : GOk P w K mg base 4 t.a_has_pair t.fd_has_pair ["tree", "value"] (spD K mg false 2 f_has_pair) := by
  refine def_ok (k := 3) (N := N_has_pair) (m := m_has_pair) t.F_has_pair sc_has_pair (by decide) fun cdv A outer s H E hr => ?_
  exact ss_one (s_ret (e_and (e_call (ok_has_wishes t) (hr.mono (by decide)) t.g_has_wishes t.F_has_wishes.kp t.b_has_wishes (takes_of rfl rfl rfl rfl) (a_cons (o_v (e_var 0)) (a_cons (o_v (e_var 1)) a_nil))) (e_one (x_eq hr (o_v (x_len t.m_len (o_s 1))) (o_v (e_int))))))
theorem ok_has_pairs (t : Txt K mg) : GOk P w K mg base 5 t.a_has_pairs t.fd_has_pairs ["tree", "value"] (spD K mg false 2 f_has_pairs) := by
  refine def_ok (k := 4) (N := N_has_pairs) (m := m_has_pairs) t.F_has_pairs sc_has_pairs (by decide) fun cdv A outer s H E hr => ?_
  exact ss_cons (s_if (t_w (w_or (t_not (t_val (e_call (ok_is_tuple t) (hr.mono (by decide)) t.g_is_tuple t.F_is_tuple.kp t.b_is_tuple (takes_of rfl rfl rfl rfl) (a_cons (o_v (e_var 1)) a_nil)))) (w_or1 (t_not (t_val (x_all (by rfl) t.m_all (o_v (by exact (e_comp (by rfl) sc_has_pairs.nd (blkOk_by (own := [("pair", 2)]) (N := N_has_pairs) (sc := defScope (topS 25)) (by decide +kernel)) (by exact (it_seq (e_var 1))) (fun _ _ _ _ _ => by exact (g_name 2 sc_has_pairs.nd)) (fun _ _ _ _ _ => by exact (e_call (ok_has_pair t) (hr.mono (by decide)) t.g_has_pair t.F_has_pair.kp t.b_has_pair takes0 (a_cons (o_v (e_var 0)) (a_cons (o_v (e_var 2)) a_nil))))))))))))) (ss_one (s_ret (e_bl))) (ss_nil)) (ss_one (s_ret (e_call (ok_is_ascending t) (hr.mono (by decide)) t.g_is_ascending t.F_is_ascending.kp t.b_is_ascending (takes_of rfl rfl rfl rfl) (a_cons (o_v (by exact (e_comp (by rfl) sc_has_pairs.nd (blkOk_by (own := [("pair", 2)]) (N := N_has_pairs) (sc := defScope (topS 25)) (by decide +kernel)) (by exact (it_seq (e_var 1))) (fun _ _ _ _ _ => by exact (g_name 2 sc_has_pairs.nd)) (fun _ _ _ _ _ => by exact (x_ix (o_s 2) (o_v (e_int)) (fun _ _ => rfl)))))) a_nil))))
theorem ok_has_door (t : Txt K mg) : GOk P w K mg base 6 t.a_has_door t.fd_has_door ["tree", "value"] (spD K mg false 2 f_has_door) := by
  refine def_ok (k := 5) (N := N_has_door) (m := m_has_door) t.F_has_door sc_has_door (by decide) fun cdv A outer s H E hr => ?_
  exact ss_cons (s_if (t_w (w_or (t_not (t_val (e_call (ok_is_tuple t) (hr.mono (by decide)) t.g_is_tuple t.F_is_tuple.kp t.b_is_tuple (takes_of rfl rfl rfl rfl) (a_cons (o_v (e_var 1)) a_nil)))) (w_or (y_ne hr (o_v (x_len t.m_len (o_s 1))) (o_v (e_int))) (w_or1 (t_not (t_val (e_isI (o_v (x_ix (o_s 1) (o_v (e_int)) (fun _ _ => rfl))) t.m_isinstance t.m_str (by decide +kernel)))))))) (ss_one (s_ret (e_bl))) (ss_nil)) (ss_cons (s_asg (e_var 1) (g_tup rfl (gs_cons (g_name 2 sc_has_door.nd) (gs_cons (g_name 3 sc_has_door.nd) (gs_nil))))) (ss_cons (s_if (y_in (by with_unfolding_all rfl) (o_s 2) (o_v (e_tup (a_cons (o_v (e_str)) (a_cons (o_v (e_str)) a_nil))))) (ss_one (s_ret (e_and (e_call (ok_has_wishes t) (hr.mono (by decide)) t.g_has_wishes t.F_has_wishes.kp t.b_has_wishes (takes_of rfl rfl rfl rfl) (a_cons (o_v (e_var 0)) (a_cons (o_v (e_var 3)) a_nil))) (e_one (e_call (ok_is_ascending t) (hr.mono (by decide)) t.g_is_ascending t.F_is_ascending.kp t.b_is_ascending (takes_of rfl rfl rfl rfl) (a_cons (o_v (e_var 3)) a_nil)))))) (ss_nil)) (ss_cons (s_if (y_eq hr (o_s 2) (o_v (e_str))) (ss_one (s_ret (e_call (ok_has_pairs t) (hr.mono (by decide)) t.g_has_pairs t.F_has_pairs.kp t.b_has_pairs (takes_of rfl rfl rfl rfl) (a_cons (o_v (e_var 0)) (a_cons (o_v (e_var 3)) a_nil))))) (ss_nil)) (ss_one (s_ret (e_and (x_in (by with_unfolding_all rfl) (o_s 2) (o_v (e_tup (a_cons (o_v (e_str)) (a_cons (o_v (e_str)) a_nil))))) (e_one (e_call (ok_has_wishes t) (hr.mono (by decide)) t.g_has_wishes t.F_has_wishes.kp t.b_has_wishes (takes_of rfl rfl rfl rfl) (a_cons (o_v (e_var 0)) (a_cons (o_v (e_var 3)) a_nil))))))))))
theorem ok_check_door (t : Txt K mg) : GOk P w K mg base 7 t.a_check_door t.fd_check_door ["tree", "door"] (spD K mg false 2 f_check_door) := by
  refine def_ok (k := 6) (N := N_check_door) (m := m_check_door) t.F_check_door sc_check_door (by decide) fun cdv A outer s H E hr => ?_
  exact ss_one (s_if (t_not (t_val (e_call (ok_has_door t) (hr.mono (by decide)) t.g_has_door t.F_has_door.kp t.b_has_door (takes_of rfl rfl rfl rfl) (a_cons (o_v (e_var 0)) (a_cons (o_v (e_var 1)) a_nil))))) (ss_one (s_never)) (ss_nil))
theorem ok_Doors (t : Txt K mg) : FnG P w K mg base 8 t.a_Doors___init__ (spI K mg t.o_Doors.C 1 4 m_Doors___init__ "_tree" 1 "_doors" 2) := by
  refine init_fn (k := 7) (N := N_Doors___init__) (ps := ["self", "tree"]) (pre := (defBody stm_Doors___init__).take 2) (m := m_Doors___init__) t.F_Doors___init__ sc_Doors___init__ rfl t.hb_Doors___init__ t.o_Doors.cl t.na_Doors__tree t.na_Doors__doors (by decide) rfl fun cdv A outer s H E hr => ⟨?_, pe_var rfl (.inl rfl), pe_var rfl (.inl rfl), pe_var rfl (.inl rfl), pe_var rfl (.inl rfl), rfl, rfl⟩
  exact sx_cons (s_expr (e_call (ok_check_tree t) (hr.mono (by decide)) t.g_check_tree t.F_check_tree.kp t.b_check_tree (takes_of rfl rfl rfl rfl) (a_cons (o_v (e_var 1)) a_nil))) (sx_cons (s_for (passes_of rfl) rfl (it_seq (e_var 2)) (g_name 3 sc_Doors___init__.nd) (ss_one (s_expr (e_call (ok_check_door t) (hr.mono (by decide)) t.g_check_door t.F_check_door.kp t.b_check_door (takes_of rfl rfl rfl rfl) (a_cons (o_v (e_var 1)) (a_cons (o_v (e_var 3)) a_nil)))))) (sx_nil))
theorem ok__law_is_list (t : Txt K mg) : GOk P w K mg base 1 t.a__law_is_list t.fd__law_is_list ["told", "due"] (spD K mg false 2 f__law_is_list) := by
  refine def_ok (k := 0) (N := N__law_is_list) (m := m__law_is_list) t.F__law_is_list sc__law_is_list (by decide) fun cdv A outer s H E hr => ?_
  exact ss_cons (s_if (t_w (w_or (t_not (t_val (e_isI (o_s 0) t.m_isinstance t.m_tuple (by decide +kernel)))) (w_or1 (y_ne hr (o_v (x_len t.m_len (o_s 0))) (o_v (x_len t.m_len (o_s 1))))))) (ss_one (s_ret (e_bl))) (ss_nil)) (ss_cons (s_for (passes_of rfl) rfl (it_rng1 (by rfl) t.m_range (a_cons (o_v (x_len t.m_len (o_s 1))) a_nil)) (g_name 2 sc__law_is_list.nd) (ss_one (s_if (t_w (w_or (t_not (t_val (e_isI (o_v (x_ix (o_s 0) (o_s 2) (fun _ _ => rfl))) t.m_isinstance t.m_int (by decide +kernel)))) (w_or (t_val (e_isI (o_v (x_ix (o_s 0) (o_s 2) (fun _ _ => rfl))) t.m_isinstance t.m_bool (by decide +kernel))) (w_or1 (y_ne hr (o_v (x_ix (o_s 0) (o_s 2) (fun _ _ => rfl))) (o_v (x_ix (o_s 1) (o_s 2) (fun _ _ => rfl)))))))) (ss_one (s_ret (e_bl))) (ss_nil)))) (ss_one (s_ret (e_bl))))
theorem ok_check_wishes (t : Txt K mg) : GOk P w K mg base 4 t.a_check_wishes t.fd_check_wishes ["tree", "wishes"] (spD K mg false 2 f_check_wishes) := by
  refine def_ok (k := 3) (N := N_check_wishes) (m := m_check_wishes) t.F_check_wishes sc_check_wishes (by decide) fun cdv A outer s H E hr => ?_
  exact ss_one (s_if (t_not (t_val (e_call (ok_has_wishes t) (hr.mono (by decide)) t.g_has_wishes t.F_has_wishes.kp t.b_has_wishes (takes_of rfl rfl rfl rfl) (a_cons (o_v (e_var 0)) (a_cons (o_v (e_var 1)) a_nil))))) (ss_one (s_never)) (ss_nil))
theorem ok_swapped (t : Txt K mg) : GOk P w K mg base 1 t.a_swapped t.fd_swapped ["pairs", "wish"] (spD K mg false 2 f_swapped) := by
  refine def_ok (k := 0) (N := N_swapped) (m := m_swapped) t.F_swapped sc_swapped (by decide) fun cdv A outer s H E hr => ?_
  exact ss_cons (s_for (passes_of rfl) rfl (it_seq (e_var 0)) (g_tup rfl (gs_cons (g_name 2 sc_swapped.nd) (gs_cons (g_name 3 sc_swapped.nd) (gs_nil)))) (ss_one (s_if (y_eq hr (o_s 2) (o_s 1)) (ss_one (s_retV 3)) (ss_nil)))) (ss_one (s_ret (e_var 1)))
theorem ok_path_of (t : Txt K mg) : GOk P w K mg base 1 t.a_path_of t.fd_path_of ["tree", "locale"] (spD K mg false 2 f_path_of) := by
  refine def_ok (k := 0) (N := N_path_of) (m := m_path_of) t.F_path_of sc_path_of (by decide) fun cdv A outer s H E hr => ?_
  exact ss_cons (s_set 2 sc_path_of.nd (e_lst (a_cons (o_v (e_var 1)) a_nil))) (ss_cons (s_set 3 sc_path_of.nd (x_ix (o_s 0) (o_s 1) (fun _ _ => rfl))) (ss_cons (s_while 64 (passes_of rfl) (t_w (w_and (y_notN (o_s 3) (o_v (e_non))) (w_and1 (y_ne hr (o_s 3) (o_v (e_int)))))) (ss_cons (s_expr (e_append 2 (a_cons (o_v (e_var 3)) a_nil))) (ss_one (s_set 3 sc_path_of.nd (x_ix (o_s 0) (o_s 3) (fun _ _ => rfl)))))) (ss_one (s_ret (x_tuple t.m_tuple (o_s 2))))))
theorem ok_lifted (t : Txt K mg) : GOk P w K mg base 2 t.a_lifted t.fd_lifted ["tree", "locales", "wish"] (spD K mg false 3 f_lifted) := by
  refine def_ok (k := 1) (N := N_lifted) (m := m_lifted) t.F_lifted sc_lifted (by decide) fun cdv A outer s H E hr => ?_
  exact ss_one (s_ret (x_slice (o_v (by exact (e_compIf (by rfl) sc_lifted.nd (blkOk_by (own := [("step", 3)]) (N := N_lifted) (sc := defScope (topS 27)) (by decide +kernel)) (by exact (it_seq (e_call (ok_path_of t) (hr.mono (by decide)) t.g_path_of t.F_path_of.kp t.b_path_of (takes_of rfl rfl rfl rfl) (a_cons (o_v (e_var 0)) (a_cons (o_v (e_var 2)) a_nil))))) (fun _ _ _ _ _ => by exact (g_name 3 sc_lifted.nd)) (fun _ _ _ _ _ => by exact (y_in (by with_unfolding_all rfl) (o_s 3) (o_s 1))) (fun _ _ _ _ _ => by exact (e_var 3))))) p_none (p_some (e_int))))
theorem ok_behind_door (t : Txt K mg) : GOk P w K mg base 3 t.a_behind_door t.fd_behind_door ["tree", "door", "wishes"] (spD K mg false 3 f_behind_door) := by
  refine def_ok (k := 2) (N := N_behind_door) (m := m_behind_door) t.F_behind_door sc_behind_door (by decide) fun cdv A outer s H E hr => ?_
  exact ss_cons (s_asg (e_var 1) (g_tup rfl (gs_cons (g_name 3 sc_behind_door.nd) (gs_cons (g_name 4 sc_behind_door.nd) (gs_nil))))) (ss_cons (s_if (y_eq hr (o_s 3) (o_v (e_str))) (ss_one (s_ret (x_tuple t.m_tuple (o_v (by exact (e_compIf (by rfl) sc_behind_door.nd (blkOk_by (own := [("wish", 5)]) (N := N_behind_door) (sc := defScope (topS 29)) (by decide +kernel)) (by exact (it_seq (e_var 2))) (fun _ _ _ _ _ => by exact (g_name 5 sc_behind_door.nd)) (fun _ _ _ _ _ => by exact (y_in (by with_unfolding_all rfl) (o_s 5) (o_s 4))) (fun _ _ _ _ _ => by exact (e_var 5)))))))) (ss_nil)) (ss_cons (s_if (y_eq hr (o_s 3) (o_v (e_str))) (ss_one (s_ret (x_tuple t.m_tuple (o_v (by exact (e_comp2 (by rfl) sc_behind_door.nd (blkOk_by (own := [("wish", 5), ("step", 6)]) (N := N_behind_door) (sc := defScope (topS 29)) (by decide +kernel)) (by exact (it_seq (e_var 2))) (fun _ _ _ _ _ => by exact (g_name 5 sc_behind_door.nd)) (fun _ _ _ _ _ => by exact (it_seq (e_call (ok_lifted t) (hr.mono (by decide)) t.g_lifted t.F_lifted.kp t.b_lifted takes0 (a_cons (o_v (e_var 0)) (a_cons (o_v (e_var 4)) (a_cons (o_v (e_var 5)) a_nil)))))) (fun _ _ _ _ _ => by exact (g_name 6 sc_behind_door.nd)) (fun _ _ _ _ _ => by exact (e_var 6)))))))) (ss_nil)) (ss_cons (s_if (y_eq hr (o_s 3) (o_v (e_str))) (ss_one (s_ret (x_tuple t.m_tuple (o_v (by exact (e_comp (by rfl) sc_behind_door.nd (blkOk_by (own := [("wish", 5)]) (N := N_behind_door) (sc := defScope (topS 29)) (by decide +kernel)) (by exact (it_seq (e_var 2))) (fun _ _ _ _ _ => by exact (g_name 5 sc_behind_door.nd)) (fun _ _ _ _ _ => by exact (e_call (ok_swapped t) (hr.mono (by decide)) t.g_swapped t.F_swapped.kp t.b_swapped takes0 (a_cons (o_v (e_var 4)) (a_cons (o_v (e_var 5)) a_nil)))))))))) (ss_nil)) (ss_cons (s_if (y_eq hr (o_s 3) (o_v (e_str))) (ss_one (s_ret (x_add (o_s 4) (o_s 2)))) (ss_nil)) (ss_one (s_ret (x_add (o_s 2) (o_s 4))))))))
theorem ok_behind_doors (t : Txt K mg) : GOk P w K mg base 4 t.a_behind_doors t.fd_behind_doors ["tree", "doors", "wishes"] (spD K mg false 3 f_behind_doors) := by
  refine def_ok (k := 3) (N := N_behind_doors) (m := m_behind_doors) t.F_behind_doors sc_behind_doors (by decide) fun cdv A outer s H E hr => ?_
  exact ss_cons (s_set 3 sc_behind_doors.nd (e_var 2)) (ss_cons (s_for (passes_of rfl) rfl (it_seq (e_var 1)) (g_name 4 sc_behind_doors.nd) (ss_one (s_set 3 sc_behind_doors.nd (e_call (ok_behind_door t) (hr.mono (by decide)) t.g_behind_door t.F_behind_door.kp t.b_behind_door (takes_of rfl rfl rfl rfl) (a_cons (o_v (e_var 0)) (a_cons (o_v (e_var 4)) (a_cons (o_v (e_var 3)) a_nil))))))) (ss_one (s_retV 3)))
theorem ok_Doors___call__ (t : Txt K mg) : GOk P w K mg base 5 t.a_Doors___call__ t.fd_Doors___call__ ["self", "wishes"] (spD K mg false 2 f_Doors___call__) := by
  refine def_ok (k := 4) (N := N_Doors___call__) (m := m_Doors___call__) t.F_Doors___call__ sc_Doors___call__ (by decide) fun cdv A outer s H E hr => ?_
  exact ss_cons (s_expr (e_call (ok_check_wishes t) (hr.mono (by decide)) t.g_check_wishes t.F_check_wishes.kp t.b_check_wishes (takes_of rfl rfl rfl rfl) (a_cons (o_v (e_fldP t.o_Doors.cl t.na_Doors__tree t.o_Doors.n (o_s 0))) (a_cons (o_v (e_var 1)) a_nil)))) (ss_one (s_ret (e_call (ok_behind_doors t) (hr.mono (by decide)) t.g_behind_doors t.F_behind_doors.kp t.b_behind_doors (takes_of rfl rfl rfl rfl) (a_cons (o_v (e_fldP t.o_Doors.cl t.na_Doors__tree t.o_Doors.n (o_s 0))) (a_cons (o_v (e_fldP t.o_Doors.cl t.na_Doors__doors t.o_Doors.n (o_s 0))) (a_cons (o_v (e_var 1)) a_nil))))))
theorem ok__law_up_from (t : Txt K mg) : GOk P w K mg base 1 t.a__law_up_from t.fd__law_up_from ["fir", "spot"] (spD K mg false 2 f__law_up_from) := by
  refine def_ok (k := 0) (N := N__law_up_from) (m := m__law_up_from) t.F__law_up_from sc__law_up_from (by decide) fun cdv A outer s H E hr => ?_
  exact ss_cons (s_set 2 sc__law_up_from.nd (e_lst (a_cons (o_v (e_var 1)) a_nil))) (ss_cons (s_for (passes_of rfl) rfl (it_rng1 (by rfl) t.m_range (a_cons (o_v (x_len t.m_len (o_s 0))) a_nil)) (g_name 3 sc__law_up_from.nd) (ss_cons (s_set 4 sc__law_up_from.nd (x_ix (o_s 0) (o_v (x_ix (o_s 2) (o_v (x_neg (o_v (e_int)))) (fun _ _ => rfl))) (fun _ _ => rfl))) (ss_cons (s_if (t_w (w_or (y_isN (o_s 4) (o_v (e_non))) (w_or1 (y_eq hr (o_s 4) (o_v (e_int)))))) (ss_one (s_retV 2)) (ss_nil)) (ss_one (s_expr (e_append 2 (a_cons (o_v (e_var 4)) a_nil))))))) (ss_one (s_retV 2)))
theorem ok__law_one_gate (t : Txt K mg) : GOk P w K mg base 2 t.a__law_one_gate t.fd__law_one_gate ["fir", "gate", "asks"] (spD K mg false 3 f__law_one_gate) := by
  refine def_ok (k := 1) (N := N__law_one_gate) (m := m__law_one_gate) t.F__law_one_gate sc__law_one_gate (by decide) fun cdv A outer s H E hr => ?_
  exact ss_cons (s_asg (e_var 1) (g_tup rfl (gs_cons (g_name 3 sc__law_one_gate.nd) (gs_cons (g_name 4 sc__law_one_gate.nd) (gs_nil))))) (ss_cons (s_if (y_eq hr (o_s 3) (o_v (e_str))) (ss_one (s_ret (x_add (o_v (x_list t.m_list (o_s 4))) (o_v (x_list t.m_list (o_s 2)))))) (ss_nil)) (ss_cons (s_if (y_eq hr (o_s 3) (o_v (e_str))) (ss_one (s_ret (x_add (o_v (x_list t.m_list (o_s 2))) (o_v (x_list t.m_list (o_s 4)))))) (ss_nil)) (ss_cons (s_set 5 sc__law_one_gate.nd (e_lst a_nil)) (ss_cons (s_for (passes_of rfl) rfl (it_seq (e_var 2)) (g_name 6 sc__law_one_gate.nd) (ss_cons (s_set 7 sc__law_one_gate.nd (e_lst (a_cons (o_v (e_var 6)) a_nil))) (ss_cons (s_if (y_eq hr (o_s 3) (o_v (e_str))) (ss_one (s_setCompIf 7 (by rfl) sc__law_one_gate.nd (blkOk_by (own := [("spot", 8)]) (N := N__law_one_gate) (sc := defScope (topS 43)) (by decide +kernel)) (by exact (it_seq (e_var 4))) (fun _ _ _ _ _ => by exact (g_name 8 sc__law_one_gate.nd)) (fun _ _ _ _ _ => by exact (y_eq hr (o_s 8) (o_s 6))) (fun _ _ _ _ _ => by exact (e_var 8)) (sw_true rfl rfl rfl (by decide +kernel)))) (ss_nil)) (ss_cons (s_if (y_eq hr (o_s 3) (o_v (e_str))) (ss_one (s_setCompIf 7 (by rfl) sc__law_one_gate.nd (blkOk_by (own := [("spot", 8)]) (N := N__law_one_gate) (sc := defScope (topS 43)) (by decide +kernel)) (by exact (it_seq (e_call (ok__law_up_from t) (hr.mono (by decide)) t.g__law_up_from t.F__law_up_from.kp t.b__law_up_from (takes_of rfl rfl rfl rfl) (a_cons (o_v (e_var 0)) (a_cons (o_v (e_var 6)) a_nil))))) (fun _ _ _ _ _ => by exact (g_name 8 sc__law_one_gate.nd)) (fun _ _ _ _ _ => by exact (y_in (by with_unfolding_all rfl) (o_s 8) (o_s 4))) (fun _ _ _ _ _ => by exact (e_var 8)) (sw_true rfl rfl rfl (by decide +kernel)))) (ss_nil)) (ss_cons (s_if (y_eq hr (o_s 3) (o_v (e_str))) (ss_one (s_set 7 sc__law_one_gate.nd (x_add (o_v (by exact (e_compIf (by rfl) sc__law_one_gate.nd (blkOk_by (own := [("pair", 9)]) (N := N__law_one_gate) (sc := defScope (topS 43)) (by decide +kernel)) (by exact (it_seq (e_var 4))) (fun _ _ _ _ _ => by exact (g_name 9 sc__law_one_gate.nd)) (fun _ _ _ _ _ => by exact (y_eq hr (o_v (x_ix (o_s 9) (o_v (e_int)) (fun _ _ => rfl))) (o_s 6))) (fun _ _ _ _ _ => by exact (x_ix (o_s 9) (o_v (e_int)) (fun _ _ => rfl)))))) (o_v (e_lst (a_cons (o_v (e_var 6)) a_nil)))))) (ss_nil)) (ss_one (s_if (y_ne hr (o_s 7) (o_v (e_lst a_nil))) (ss_one (s_expr (e_append 5 (a_cons (o_v (x_ix (o_s 7) (o_v (e_int)) (fun _ _ => rfl))) a_nil)))) (ss_nil)))))))) (ss_one (s_retV 5))))))
theorem ok_law (t : Txt K mg) : GOk P w K mg base 10 t.a_law t.fd_law ["script"] (spD K mg false 1 f_law) := by
  refine def_ok (k := 9) (N := N_law) (m := m_law) t.F_law sc_law (by decide) fun cdv A outer s H E hr => ?_
  exact ss_cons (s_for (passes_of rfl) rfl (it_seq (x_add (o_v (e_lst (a_cons (o_v (e_int)) a_nil))) (o_v (x_slice (o_s 0) p_none (p_some (e_int)))))) (g_name 1 sc_law.nd) (ss_cons (s_set 2 sc_law.nd (e_call (ok__law_pot t) (hr.mono (by decide)) t.g__law_pot t.F__law_pot.kp t.b__law_pot (takes_of rfl rfl rfl rfl) (a_cons (o_v (e_var 1)) a_nil))) (ss_cons (s_set 3 sc_law.nd (e_callR 2 (ok__law_drawn_fir t) (hr.mono (by decide)) t.g__law_drawn_fir t.F__law_drawn_fir.kp t.b__law_drawn_fir (takes_of rfl rfl rfl rfl) (a_cons (o_v (e_int)) a_nil))) (ss_cons (s_set 4 sc_law.nd (e_callR 2 (ok__law_drawn_gate t) (hr.mono (by decide)) t.g__law_drawn_gate t.F__law_drawn_gate.kp t.b__law_drawn_gate (takes_of rfl rfl rfl rfl) (a_cons (o_v (x_len t.m_len (o_s 3))) (a_cons (o_v (e_int)) a_nil)))) (ss_cons (s_set 5 sc_law.nd (e_callR 2 (ok__law_drawn_asks t) (hr.mono (by decide)) t.g__law_drawn_asks t.F__law_drawn_asks.kp t.b__law_drawn_asks (takes_of rfl rfl rfl rfl) (a_cons (o_v (x_len t.m_len (o_s 3))) (a_cons (o_v (e_int)) a_nil)))) (ss_cons (s_set 6 sc_law.nd (e_callR 2 (ok__law_drawn_asks t) (hr.mono (by decide)) t.g__law_drawn_asks t.F__law_drawn_asks.kp t.b__law_drawn_asks (takes_of rfl rfl rfl rfl) (a_cons (o_v (x_len t.m_len (o_s 3))) (a_cons (o_v (e_int)) a_nil)))) (ss_cons (s_set 7 sc_law.nd (e_new t.mk_Doors (ok_Doors t) (hr.mono (by decide)) t.o_Doors.n t.o_Doors.g (takes_of rfl rfl rfl rfl) (a_cons (o_v (e_var 3)) (a_cons (o_v (e_var 4)) a_nil)))) (ss_cons (s_for (passes_of rfl) rfl (it_seq (e_lst (a_cons (o_v (e_var 5)) (a_cons (o_v (e_var 6)) (a_cons (o_v (e_var 5)) a_nil))))) (g_name 8 sc_law.nd) (ss_one (s_if (t_not (t_val (e_call (ok__law_is_list t) (hr.mono (by decide)) t.g__law_is_list t.F__law_is_list.kp t.b__law_is_list (takes_of rfl rfl rfl rfl) (a_cons (o_v (e_callO t.co_Doors (ok_Doors___call__ t) (hr.mono (by decide)) t.o_Doors.n t.b_Doors___call__ (takes_of rfl rfl rfl rfl) (e_var 7) (a_cons (o_v (e_var 8)) a_nil))) (a_cons (o_v (e_call (ok__law_one_gate t) (hr.mono (by decide)) t.g__law_one_gate t.F__law_one_gate.kp t.b__law_one_gate (takes_of rfl rfl rfl rfl) (a_cons (o_v (e_var 3)) (a_cons (o_v (e_var 4)) (a_cons (o_v (e_var 8)) a_nil))))) a_nil))))) (ss_one (s_ret (e_bl))) (ss_nil)))) (ss_cons (s_if (t_not (t_val (e_call (ok__law_is_list t) (hr.mono (by decide)) t.g__law_is_list t.F__law_is_list.kp t.b__law_is_list (takes_of rfl rfl rfl rfl) (a_cons (o_v (e_callO1K t.co_Doors (ok_Doors___call__ t) (hr.mono (by decide)) t.o_Doors.n t.kw1_Doors___call___wishes (takes_of rfl rfl rfl rfl) (e_new t.mk_Doors (ok_Doors t) (hr.mono (by decide)) t.o_Doors.n t.o_Doors.g (takes_of rfl rfl rfl rfl) (a_cons (o_v (e_var 3)) a_nil)) (k_cons (o_v (e_var 6)) k_nil))) (a_cons (o_v (x_list t.m_list (o_s 6))) a_nil))))) (ss_one (s_ret (e_bl))) (ss_nil)) (ss_one (s_if (t_not (t_val (e_call (ok__law_is_list t) (hr.mono (by decide)) t.g__law_is_list t.F__law_is_list.kp t.b__law_is_list (takes_of rfl rfl rfl rfl) (a_cons (o_v (e_callO1K t.co_Doors (ok_Doors___call__ t) (hr.mono (by decide)) t.o_Doors.n t.kw1_Doors___call___wishes (takes_of rfl rfl rfl rfl) (e_var 7) (k_cons (o_v (e_var 6)) k_nil))) (a_cons (o_v (e_call (ok__law_one_gate t) (hr.mono (by decide)) t.g__law_one_gate t.F__law_one_gate.kp t.b__law_one_gate (takes_of rfl rfl rfl rfl) (a_cons (o_v (e_var 3)) (a_cons (o_v (e_var 4)) (a_cons (o_v (e_var 6)) a_nil))))) a_nil))))) (ss_one (s_ret (e_bl))) (ss_nil)))))))))))) (ss_one (s_ret (e_bl)))
end
theorem all_mk {l : PySem.W.OpenLaw} {w : World} {K : PySem.W.Frag} {h : Heap} {mg : Str → Option Value} {fa : Addr} (X : K.In h) (G : h.Ns mainGlobals mg) (hfa : mg "law" = some (.ref fa))
    {X_Doors : Addr}
    {f0 : Addr} {od0 an0 : Option Addr} {sl0 : Array (Option Value)} {oc0 kV0 dc0 pm0 cd0 ct0 : Value}
    {f1 : Addr} {od1 an1 : Option Addr} {sl1 : Array (Option Value)} {oc1 kV1 dc1 pm1 cd1 ct1 : Value}
    {f2 : Addr} {od2 an2 : Option Addr} {sl2 : Array (Option Value)} {oc2 kV2 dc2 pm2 cd2 ct2 : Value}
    {f3 : Addr} {od3 an3 : Option Addr} {sl3 : Array (Option Value)} {oc3 kV3 dc3 pm3 cd3 ct3 : Value}
    {f4 : Addr} {od4 an4 : Option Addr} {sl4 : Array (Option Value)} {oc4 kV4 dc4 pm4 cd4 ct4 : Value}
    {f5 : Addr} {od5 an5 : Option Addr} {sl5 : Array (Option Value)} {oc5 kV5 dc5 pm5 cd5 ct5 : Value}
    {f6 : Addr} {od6 an6 : Option Addr} {sl6 : Array (Option Value)} {oc6 kV6 dc6 pm6 cd6 ct6 : Value}
    {f7 : Addr} {od7 an7 : Option Addr} {sl7 : Array (Option Value)} {oc7 kV7 dc7 pm7 cd7 ct7 : Value}
    {f8 : Addr} {od8 an8 : Option Addr} {sl8 : Array (Option Value)} {oc8 kV8 dc8 pm8 cd8 ct8 : Value}
    {f9 : Addr} {od9 an9 : Option Addr} {sl9 : Array (Option Value)} {oc9 kV9 dc9 pm9 cd9 ct9 : Value}
    {f10 : Addr} {od10 an10 : Option Addr} {sl10 : Array (Option Value)} {oc10 kV10 dc10 pm10 cd10 ct10 : Value}
    {f11 : Addr} {od11 an11 : Option Addr} {sl11 : Array (Option Value)} {oc11 kV11 dc11 pm11 cd11 ct11 : Value}
    {f12 : Addr} {od12 an12 : Option Addr} {sl12 : Array (Option Value)} {oc12 kV12 dc12 pm12 cd12 ct12 : Value}
    {f13 : Addr} {od13 an13 : Option Addr} {sl13 : Array (Option Value)} {oc13 kV13 dc13 pm13 cd13 ct13 : Value}
    {f14 : Addr} {od14 an14 : Option Addr} {sl14 : Array (Option Value)} {oc14 kV14 dc14 pm14 cd14 ct14 : Value}
    {f15 : Addr} {od15 an15 : Option Addr} {sl15 : Array (Option Value)} {oc15 kV15 dc15 pm15 cd15 ct15 : Value}
    {f16 : Addr} {od16 an16 : Option Addr} {sl16 : Array (Option Value)} {oc16 kV16 dc16 pm16 cd16 ct16 : Value}
    {f17 : Addr} {od17 an17 : Option Addr} {sl17 : Array (Option Value)} {oc17 kV17 dc17 pm17 cd17 ct17 : Value}
    {f18 : Addr} {od18 an18 : Option Addr} {sl18 : Array (Option Value)} {oc18 kV18 dc18 pm18 cd18 ct18 : Value}
    {f19 : Addr} {od19 an19 : Option Addr} {sl19 : Array (Option Value)} {oc19 kV19 dc19 pm19 cd19 ct19 : Value}
    {f20 : Addr} {od20 an20 : Option Addr} {sl20 : Array (Option Value)} {oc20 kV20 dc20 pm20 cd20 ct20 : Value}
    {f21 : Addr} {od21 an21 : Option Addr} {sl21 : Array (Option Value)} {oc21 kV21 dc21 pm21 cd21 ct21 : Value}
    {f22 : Addr} {od22 an22 : Option Addr} {sl22 : Array (Option Value)} {oc22 kV22 dc22 pm22 cd22 ct22 : Value}
    {f23 : Addr} {od23 an23 : Option Addr} {sl23 : Array (Option Value)} {oc23 kV23 dc23 pm23 cd23 ct23 : Value}
    {f24 : Addr} {od24 an24 : Option Addr} {sl24 : Array (Option Value)} {oc24 kV24 dc24 pm24 cd24 ct24 : Value}
    {f25 : Addr} {od25 an25 : Option Addr} {sl25 : Array (Option Value)} {oc25 kV25 dc25 pm25 cd25 ct25 : Value}
    {f26 : Addr} {od26 an26 : Option Addr} {sl26 : Array (Option Value)} {oc26 kV26 dc26 pm26 cd26 ct26 : Value}
    {f27 : Addr} {od27 an27 : Option Addr} {sl27 : Array (Option Value)} {oc27 kV27 dc27 pm27 cd27 ct27 : Value}
    {tk_MOST_LOCALES : Tok}
    (xa_Doors : PySem.W.nsIn K mainGlobals "Doors" = some (some (.ref X_Doors))) (xc1_Doors : PySem.W.plainGet K X_Doors Str.empty = true) (xc2_Doors : PySem.W.hasDictIn K X_Doors = true) (xc3_Doors : PySem.W.plainOver K X_Doors = true) (xc4_Doors : PySem.W.findIn K (.ref X_Doors) "__setattr__" = some (some (.builtin "object.__setattr__"))) (xc5_Doors : PySem.W.makesIn K X_Doors = true) (xc6_Doors : PySem.W.keepIn K (.ref X_Doors) = true) (xn_Doors__tree : PySem.W.findIn K (.ref X_Doors) "_tree" = some none) (xn_Doors__doors : PySem.W.findIn K (.ref X_Doors) "_doors" = some none)
    (a0 : PySem.W.nsIn K mainGlobals "_law_pot" = some (some (.ref f0))) (l0 : K.lookup f0 = some ⟨oc0, od0, .func (PySem.W.fnOf "_law_pot" "_law_pot" (defArgs (topS 37)) (defBody (topS 37)) (defScope (topS 37)) .none kV0 dc0 pm0 an0 cd0 ct0), sl0⟩) (c0 : PySem.W.codeIn K cd0 "_law_pot" = true) (k0 : PySem.W.keepIn K (.ref f0) = true)
    (a1 : PySem.W.nsIn K mainGlobals "_law_pick" = some (some (.ref f1))) (l1 : K.lookup f1 = some ⟨oc1, od1, .func (PySem.W.fnOf "_law_pick" "_law_pick" (defArgs (topS 38)) (defBody (topS 38)) (defScope (topS 38)) .none kV1 dc1 pm1 an1 cd1 ct1), sl1⟩) (c1 : PySem.W.codeIn K cd1 "_law_pick" = true) (k1 : PySem.W.keepIn K (.ref f1) = true)
    (a2 : PySem.W.nsIn K mainGlobals "_law_drawn_fir" = some (some (.ref f2))) (l2 : K.lookup f2 = some ⟨oc2, od2, .func (PySem.W.fnOf "_law_drawn_fir" "_law_drawn_fir" (defArgs (topS 39)) (defBody (topS 39)) (defScope (topS 39)) .none kV2 dc2 pm2 an2 cd2 ct2), sl2⟩) (c2 : PySem.W.codeIn K cd2 "_law_drawn_fir" = true) (k2 : PySem.W.keepIn K (.ref f2) = true)
    (a3 : PySem.W.nsIn K mainGlobals "_law_drawn_asks" = some (some (.ref f3))) (l3 : K.lookup f3 = some ⟨oc3, od3, .func (PySem.W.fnOf "_law_drawn_asks" "_law_drawn_asks" (defArgs (topS 40)) (defBody (topS 40)) (defScope (topS 40)) .none kV3 dc3 pm3 an3 cd3 ct3), sl3⟩) (c3 : PySem.W.codeIn K cd3 "_law_drawn_asks" = true) (k3 : PySem.W.keepIn K (.ref f3) = true)
    (a4 : PySem.W.nsIn K mainGlobals "_law_drawn_gate" = some (some (.ref f4))) (l4 : K.lookup f4 = some ⟨oc4, od4, .func (PySem.W.fnOf "_law_drawn_gate" "_law_drawn_gate" (defArgs (topS 41)) (defBody (topS 41)) (defScope (topS 41)) .none kV4 dc4 pm4 an4 cd4 ct4), sl4⟩) (c4 : PySem.W.codeIn K cd4 "_law_drawn_gate" = true) (k4 : PySem.W.keepIn K (.ref f4) = true)
    (a5 : PySem.W.nsIn K mainGlobals "is_tuple" = some (some (.ref f5))) (l5 : K.lookup f5 = some ⟨oc5, od5, .func (PySem.W.fnOf "is_tuple" "is_tuple" (defArgs (topS 9)) (defBody (topS 9)) (defScope (topS 9)) .none kV5 dc5 pm5 an5 cd5 ct5), sl5⟩) (c5 : PySem.W.codeIn K cd5 "is_tuple" = true) (k5 : PySem.W.keepIn K (.ref f5) = true)
    (a6 : PySem.W.nsIn K mainGlobals "is_integer_within" = some (some (.ref f6))) (l6 : K.lookup f6 = some ⟨oc6, od6, .func (PySem.W.fnOf "is_integer_within" "is_integer_within" (defArgs (topS 10)) (defBody (topS 10)) (defScope (topS 10)) .none kV6 dc6 pm6 an6 cd6 ct6), sl6⟩) (c6 : PySem.W.codeIn K cd6 "is_integer_within" = true) (k6 : PySem.W.keepIn K (.ref f6) = true)
    (a7 : PySem.W.nsIn K mainGlobals "is_tree" = some (some (.ref f7))) (l7 : K.lookup f7 = some ⟨oc7, od7, .func (PySem.W.fnOf "is_tree" "is_tree" (defArgs (topS 20)) (defBody (topS 20)) (defScope (topS 20)) .none kV7 dc7 pm7 an7 cd7 ct7), sl7⟩) (c7 : PySem.W.codeIn K cd7 "is_tree" = true) (k7 : PySem.W.keepIn K (.ref f7) = true)
    (a8 : PySem.W.nsIn K mainGlobals "check_tree" = some (some (.ref f8))) (l8 : K.lookup f8 = some ⟨oc8, od8, .func (PySem.W.fnOf "check_tree" "check_tree" (defArgs (topS 21)) (defBody (topS 21)) (defScope (topS 21)) .none kV8 dc8 pm8 an8 cd8 ct8), sl8⟩) (c8 : PySem.W.codeIn K cd8 "check_tree" = true) (k8 : PySem.W.keepIn K (.ref f8) = true)
    (a9 : PySem.W.nsIn K mainGlobals "is_ascending" = some (some (.ref f9))) (l9 : K.lookup f9 = some ⟨oc9, od9, .func (PySem.W.fnOf "is_ascending" "is_ascending" (defArgs (topS 11)) (defBody (topS 11)) (defScope (topS 11)) .none kV9 dc9 pm9 an9 cd9 ct9), sl9⟩) (c9 : PySem.W.codeIn K cd9 "is_ascending" = true) (k9 : PySem.W.keepIn K (.ref f9) = true)
    (a10 : PySem.W.nsIn K mainGlobals "has_locale" = some (some (.ref f10))) (l10 : K.lookup f10 = some ⟨oc10, od10, .func (PySem.W.fnOf "has_locale" "has_locale" (defArgs (topS 13)) (defBody (topS 13)) (defScope (topS 13)) .none kV10 dc10 pm10 an10 cd10 ct10), sl10⟩) (c10 : PySem.W.codeIn K cd10 "has_locale" = true) (k10 : PySem.W.keepIn K (.ref f10) = true)
    (a11 : PySem.W.nsIn K mainGlobals "has_wishes" = some (some (.ref f11))) (l11 : K.lookup f11 = some ⟨oc11, od11, .func (PySem.W.fnOf "has_wishes" "has_wishes" (defArgs (topS 14)) (defBody (topS 14)) (defScope (topS 14)) .none kV11 dc11 pm11 an11 cd11 ct11), sl11⟩) (c11 : PySem.W.codeIn K cd11 "has_wishes" = true) (k11 : PySem.W.keepIn K (.ref f11) = true)
    (a12 : PySem.W.nsIn K mainGlobals "has_pair" = some (some (.ref f12))) (l12 : K.lookup f12 = some ⟨oc12, od12, .func (PySem.W.fnOf "has_pair" "has_pair" (defArgs (topS 24)) (defBody (topS 24)) (defScope (topS 24)) .none kV12 dc12 pm12 an12 cd12 ct12), sl12⟩) (c12 : PySem.W.codeIn K cd12 "has_pair" = true) (k12 : PySem.W.keepIn K (.ref f12) = true)
    (a13 : PySem.W.nsIn K mainGlobals "has_pairs" = some (some (.ref f13))) (l13 : K.lookup f13 = some ⟨oc13, od13, .func (PySem.W.fnOf "has_pairs" "has_pairs" (defArgs (topS 25)) (defBody (topS 25)) (defScope (topS 25)) .none kV13 dc13 pm13 an13 cd13 ct13), sl13⟩) (c13 : PySem.W.codeIn K cd13 "has_pairs" = true) (k13 : PySem.W.keepIn K (.ref f13) = true)
    (a14 : PySem.W.nsIn K mainGlobals "has_door" = some (some (.ref f14))) (l14 : K.lookup f14 = some ⟨oc14, od14, .func (PySem.W.fnOf "has_door" "has_door" (defArgs (topS 26)) (defBody (topS 26)) (defScope (topS 26)) .none kV14 dc14 pm14 an14 cd14 ct14), sl14⟩) (c14 : PySem.W.codeIn K cd14 "has_door" = true) (k14 : PySem.W.keepIn K (.ref f14) = true)
    (a15 : PySem.W.nsIn K mainGlobals "check_door" = some (some (.ref f15))) (l15 : K.lookup f15 = some ⟨oc15, od15, .func (PySem.W.fnOf "check_door" "check_door" (defArgs (topS 34)) (defBody (topS 34)) (defScope (topS 34)) .none kV15 dc15 pm15 an15 cd15 ct15), sl15⟩) (c15 : PySem.W.codeIn K cd15 "check_door" = true) (k15 : PySem.W.keepIn K (.ref f15) = true)
    (a16 : PySem.W.findIn K (.ref X_Doors) "__init__" = some (some (.ref f16))) (l16 : K.lookup f16 = some ⟨oc16, od16, .func (PySem.W.fnOf "__init__" "Doors.__init__" (defArgs stm_Doors___init__) (defBody stm_Doors___init__) (defScope stm_Doors___init__) .none kV16 dc16 pm16 an16 cd16 ct16), sl16⟩) (c16 : PySem.W.codeIn K cd16 "Doors.__init__" = true) (k16 : PySem.W.keepIn K (.ref f16) = true) (fa16 : PySem.W.isFn K (.ref f16) = true) (fb16 : PySem.W.fnIn K f16 = true)
    (a17 : PySem.W.nsIn K mainGlobals "_law_is_list" = some (some (.ref f17))) (l17 : K.lookup f17 = some ⟨oc17, od17, .func (PySem.W.fnOf "_law_is_list" "_law_is_list" (defArgs (topS 44)) (defBody (topS 44)) (defScope (topS 44)) .none kV17 dc17 pm17 an17 cd17 ct17), sl17⟩) (c17 : PySem.W.codeIn K cd17 "_law_is_list" = true) (k17 : PySem.W.keepIn K (.ref f17) = true)
    (a18 : PySem.W.nsIn K mainGlobals "check_wishes" = some (some (.ref f18))) (l18 : K.lookup f18 = some ⟨oc18, od18, .func (PySem.W.fnOf "check_wishes" "check_wishes" (defArgs (topS 22)) (defBody (topS 22)) (defScope (topS 22)) .none kV18 dc18 pm18 an18 cd18 ct18), sl18⟩) (c18 : PySem.W.codeIn K cd18 "check_wishes" = true) (k18 : PySem.W.keepIn K (.ref f18) = true)
    (a19 : PySem.W.nsIn K mainGlobals "swapped" = some (some (.ref f19))) (l19 : K.lookup f19 = some ⟨oc19, od19, .func (PySem.W.fnOf "swapped" "swapped" (defArgs (topS 28)) (defBody (topS 28)) (defScope (topS 28)) .none kV19 dc19 pm19 an19 cd19 ct19), sl19⟩) (c19 : PySem.W.codeIn K cd19 "swapped" = true) (k19 : PySem.W.keepIn K (.ref f19) = true)
    (a20 : PySem.W.nsIn K mainGlobals "path_of" = some (some (.ref f20))) (l20 : K.lookup f20 = some ⟨oc20, od20, .func (PySem.W.fnOf "path_of" "path_of" (defArgs (topS 15)) (defBody (topS 15)) (defScope (topS 15)) .none kV20 dc20 pm20 an20 cd20 ct20), sl20⟩) (c20 : PySem.W.codeIn K cd20 "path_of" = true) (k20 : PySem.W.keepIn K (.ref f20) = true)
    (a21 : PySem.W.nsIn K mainGlobals "lifted" = some (some (.ref f21))) (l21 : K.lookup f21 = some ⟨oc21, od21, .func (PySem.W.fnOf "lifted" "lifted" (defArgs (topS 27)) (defBody (topS 27)) (defScope (topS 27)) .none kV21 dc21 pm21 an21 cd21 ct21), sl21⟩) (c21 : PySem.W.codeIn K cd21 "lifted" = true) (k21 : PySem.W.keepIn K (.ref f21) = true)
    (a22 : PySem.W.nsIn K mainGlobals "behind_door" = some (some (.ref f22))) (l22 : K.lookup f22 = some ⟨oc22, od22, .func (PySem.W.fnOf "behind_door" "behind_door" (defArgs (topS 29)) (defBody (topS 29)) (defScope (topS 29)) .none kV22 dc22 pm22 an22 cd22 ct22), sl22⟩) (c22 : PySem.W.codeIn K cd22 "behind_door" = true) (k22 : PySem.W.keepIn K (.ref f22) = true)
    (a23 : PySem.W.nsIn K mainGlobals "behind_doors" = some (some (.ref f23))) (l23 : K.lookup f23 = some ⟨oc23, od23, .func (PySem.W.fnOf "behind_doors" "behind_doors" (defArgs (topS 30)) (defBody (topS 30)) (defScope (topS 30)) .none kV23 dc23 pm23 an23 cd23 ct23), sl23⟩) (c23 : PySem.W.codeIn K cd23 "behind_doors" = true) (k23 : PySem.W.keepIn K (.ref f23) = true)
    (a24 : PySem.W.findIn K (.ref X_Doors) "__call__" = some (some (.ref f24))) (l24 : K.lookup f24 = some ⟨oc24, od24, .func (PySem.W.fnOf "__call__" "Doors.__call__" (defArgs stm_Doors___call__) (defBody stm_Doors___call__) (defScope stm_Doors___call__) .none kV24 dc24 pm24 an24 cd24 ct24), sl24⟩) (c24 : PySem.W.codeIn K cd24 "Doors.__call__" = true) (k24 : PySem.W.keepIn K (.ref f24) = true) (fa24 : PySem.W.isFn K (.ref f24) = true) (fb24 : PySem.W.fnIn K f24 = true)
    (a25 : PySem.W.nsIn K mainGlobals "_law_up_from" = some (some (.ref f25))) (l25 : K.lookup f25 = some ⟨oc25, od25, .func (PySem.W.fnOf "_law_up_from" "_law_up_from" (defArgs (topS 42)) (defBody (topS 42)) (defScope (topS 42)) .none kV25 dc25 pm25 an25 cd25 ct25), sl25⟩) (c25 : PySem.W.codeIn K cd25 "_law_up_from" = true) (k25 : PySem.W.keepIn K (.ref f25) = true)
    (a26 : PySem.W.nsIn K mainGlobals "_law_one_gate" = some (some (.ref f26))) (l26 : K.lookup f26 = some ⟨oc26, od26, .func (PySem.W.fnOf "_law_one_gate" "_law_one_gate" (defArgs (topS 43)) (defBody (topS 43)) (defScope (topS 43)) .none kV26 dc26 pm26 an26 cd26 ct26), sl26⟩) (c26 : PySem.W.codeIn K cd26 "_law_one_gate" = true) (k26 : PySem.W.keepIn K (.ref f26) = true)
    (a27 : PySem.W.nsIn K mainGlobals "law" = some (some (.ref f27))) (l27 : K.lookup f27 = some ⟨oc27, od27, .func (PySem.W.fnOf "law" "law" (defArgs (topS 45)) (defBody (topS 45)) (defScope (topS 45)) .none kV27 dc27 pm27 an27 cd27 ct27), sl27⟩) (c27 : PySem.W.codeIn K cd27 "law" = true) (k27 : PySem.W.keepIn K (.ref f27) = true)
    (z_all : PySem.W.nsIn K mainGlobals "all" = some none)
    (z_bool : PySem.W.nsIn K mainGlobals "bool" = some none)
    (z_int : PySem.W.nsIn K mainGlobals "int" = some none)
    (z_isinstance : PySem.W.nsIn K mainGlobals "isinstance" = some none)
    (z_len : PySem.W.nsIn K mainGlobals "len" = some none)
    (z_list : PySem.W.nsIn K mainGlobals "list" = some none)
    (z_max : PySem.W.nsIn K mainGlobals "max" = some none)
    (z_min : PySem.W.nsIn K mainGlobals "min" = some none)
    (z_range : PySem.W.nsIn K mainGlobals "range" = some none)
    (z_str : PySem.W.nsIn K mainGlobals "str" = some none)
    (z_tuple : PySem.W.nsIn K mainGlobals "tuple" = some none)
    (z_type : PySem.W.nsIn K mainGlobals "type" = some none)
    (z_zip : PySem.W.nsIn K mainGlobals "zip" = some none)
    (v_MOST_LOCALES : PySem.W.nsIn K mainGlobals "MOST_LOCALES" = some (some (.int (10) tk_MOST_LOCALES))) :
    ∃ fd : FuncData, (∀ (s : Shared) (v : Value), BindsTo s fd ⟨[v], []⟩ [("script", v)]) ∧ ∀ base : Heap, K.In base → base.Ns mainGlobals mg → GOk l.prog w K mg base 10 fa fd ["script"] (spD K mg false 1 f_law) := by
  let t : Txt K mg := {
    a__law_pot := f0
    fd__law_pot := PySem.W.fnOf "_law_pot" "_law_pot" (defArgs (topS 37)) (defBody (topS 37)) (defScope (topS 37)) .none kV0 dc0 pm0 an0 cd0 ct0
    F__law_pot := L2Fun.v (fun_mk (st := topS 37) l0 c0 k0)
    g__law_pot := PySem.W.mg_of X G a0
    b__law_pot := (fun_mk (st := topS 37) l0 c0 k0).binds (ps := ["cell"]) (fun _ _ _ _ _ _ us hl => match us, hl with | [_], _ => rfl)
    a__law_pick := f1
    fd__law_pick := PySem.W.fnOf "_law_pick" "_law_pick" (defArgs (topS 38)) (defBody (topS 38)) (defScope (topS 38)) .none kV1 dc1 pm1 an1 cd1 ct1
    F__law_pick := L2Fun.v (fun_mk (st := topS 38) l1 c1 k1)
    g__law_pick := PySem.W.mg_of X G a1
    b__law_pick := (fun_mk (st := topS 38) l1 c1 k1).binds (ps := ["pot", "upto"]) (fun _ _ _ _ _ _ us hl => match us, hl with | [_, _], _ => rfl)
    a__law_drawn_fir := f2
    fd__law_drawn_fir := PySem.W.fnOf "_law_drawn_fir" "_law_drawn_fir" (defArgs (topS 39)) (defBody (topS 39)) (defScope (topS 39)) .none kV2 dc2 pm2 an2 cd2 ct2
    F__law_drawn_fir := L2Fun.v (fun_mk (st := topS 39) l2 c2 k2)
    g__law_drawn_fir := PySem.W.mg_of X G a2
    b__law_drawn_fir := (fun_mk (st := topS 39) l2 c2 k2).binds (ps := ["pot", "upto"]) (fun _ _ _ _ _ _ us hl => match us, hl with | [_, _], _ => rfl)
    a__law_drawn_asks := f3
    fd__law_drawn_asks := PySem.W.fnOf "_law_drawn_asks" "_law_drawn_asks" (defArgs (topS 40)) (defBody (topS 40)) (defScope (topS 40)) .none kV3 dc3 pm3 an3 cd3 ct3
    F__law_drawn_asks := L2Fun.v (fun_mk (st := topS 40) l3 c3 k3)
    g__law_drawn_asks := PySem.W.mg_of X G a3
    b__law_drawn_asks := (fun_mk (st := topS 40) l3 c3 k3).binds (ps := ["pot", "size", "upto"]) (fun _ _ _ _ _ _ us hl => match us, hl with | [_, _, _], _ => rfl)
    a__law_drawn_gate := f4
    fd__law_drawn_gate := PySem.W.fnOf "_law_drawn_gate" "_law_drawn_gate" (defArgs (topS 41)) (defBody (topS 41)) (defScope (topS 41)) .none kV4 dc4 pm4 an4 cd4 ct4
    F__law_drawn_gate := L2Fun.v (fun_mk (st := topS 41) l4 c4 k4)
    g__law_drawn_gate := PySem.W.mg_of X G a4
    b__law_drawn_gate := (fun_mk (st := topS 41) l4 c4 k4).binds (ps := ["pot", "size", "upto"]) (fun _ _ _ _ _ _ us hl => match us, hl with | [_, _, _], _ => rfl)
    a_is_tuple := f5
    fd_is_tuple := PySem.W.fnOf "is_tuple" "is_tuple" (defArgs (topS 9)) (defBody (topS 9)) (defScope (topS 9)) .none kV5 dc5 pm5 an5 cd5 ct5
    F_is_tuple := L2Fun.v (fun_mk (st := topS 9) l5 c5 k5)
    g_is_tuple := PySem.W.mg_of X G a5
    b_is_tuple := (fun_mk (st := topS 9) l5 c5 k5).binds (ps := ["value"]) (fun _ _ _ _ _ _ us hl => match us, hl with | [_], _ => rfl)
    a_is_integer_within := f6
    fd_is_integer_within := PySem.W.fnOf "is_integer_within" "is_integer_within" (defArgs (topS 10)) (defBody (topS 10)) (defScope (topS 10)) .none kV6 dc6 pm6 an6 cd6 ct6
    F_is_integer_within := L2Fun.v (fun_mk (st := topS 10) l6 c6 k6)
    g_is_integer_within := PySem.W.mg_of X G a6
    b_is_integer_within := (fun_mk (st := topS 10) l6 c6 k6).binds (ps := ["value", "low", "high"]) (fun _ _ _ _ _ _ us hl => match us, hl with | [_, _, _], _ => rfl)
    a_is_tree := f7
    fd_is_tree := PySem.W.fnOf "is_tree" "is_tree" (defArgs (topS 20)) (defBody (topS 20)) (defScope (topS 20)) .none kV7 dc7 pm7 an7 cd7 ct7
    F_is_tree := L2Fun.v (fun_mk (st := topS 20) l7 c7 k7)
    g_is_tree := PySem.W.mg_of X G a7
    b_is_tree := (fun_mk (st := topS 20) l7 c7 k7).binds (ps := ["value"]) (fun _ _ _ _ _ _ us hl => match us, hl with | [_], _ => rfl)
    a_check_tree := f8
    fd_check_tree := PySem.W.fnOf "check_tree" "check_tree" (defArgs (topS 21)) (defBody (topS 21)) (defScope (topS 21)) .none kV8 dc8 pm8 an8 cd8 ct8
    F_check_tree := L2Fun.v (fun_mk (st := topS 21) l8 c8 k8)
    g_check_tree := PySem.W.mg_of X G a8
    b_check_tree := (fun_mk (st := topS 21) l8 c8 k8).binds (ps := ["tree"]) (fun _ _ _ _ _ _ us hl => match us, hl with | [_], _ => rfl)
    a_is_ascending := f9
    fd_is_ascending := PySem.W.fnOf "is_ascending" "is_ascending" (defArgs (topS 11)) (defBody (topS 11)) (defScope (topS 11)) .none kV9 dc9 pm9 an9 cd9 ct9
    F_is_ascending := L2Fun.v (fun_mk (st := topS 11) l9 c9 k9)
    g_is_ascending := PySem.W.mg_of X G a9
    b_is_ascending := (fun_mk (st := topS 11) l9 c9 k9).binds (ps := ["values"]) (fun _ _ _ _ _ _ us hl => match us, hl with | [_], _ => rfl)
    a_has_locale := f10
    fd_has_locale := PySem.W.fnOf "has_locale" "has_locale" (defArgs (topS 13)) (defBody (topS 13)) (defScope (topS 13)) .none kV10 dc10 pm10 an10 cd10 ct10
    F_has_locale := L2Fun.v (fun_mk (st := topS 13) l10 c10 k10)
    g_has_locale := PySem.W.mg_of X G a10
    b_has_locale := (fun_mk (st := topS 13) l10 c10 k10).binds (ps := ["tree", "value"]) (fun _ _ _ _ _ _ us hl => match us, hl with | [_, _], _ => rfl)
    a_has_wishes := f11
    fd_has_wishes := PySem.W.fnOf "has_wishes" "has_wishes" (defArgs (topS 14)) (defBody (topS 14)) (defScope (topS 14)) .none kV11 dc11 pm11 an11 cd11 ct11
    F_has_wishes := L2Fun.v (fun_mk (st := topS 14) l11 c11 k11)
    g_has_wishes := PySem.W.mg_of X G a11
    b_has_wishes := (fun_mk (st := topS 14) l11 c11 k11).binds (ps := ["tree", "value"]) (fun _ _ _ _ _ _ us hl => match us, hl with | [_, _], _ => rfl)
    a_has_pair := f12
    fd_has_pair := PySem.W.fnOf "has_pair" "has_pair" (defArgs (topS 24)) (defBody (topS 24)) (defScope (topS 24)) .none kV12 dc12 pm12 an12 cd12 ct12
    F_has_pair := L2Fun.v (fun_mk (st := topS 24) l12 c12 k12)
    g_has_pair := PySem.W.mg_of X G a12
    b_has_pair := (fun_mk (st := topS 24) l12 c12 k12).binds (ps := ["tree", "value"]) (fun _ _ _ _ _ _ us hl => match us, hl with | [_, _], _ => rfl)
    a_has_pairs := f13
    fd_has_pairs := PySem.W.fnOf "has_pairs" "has_pairs" (defArgs (topS 25)) (defBody (topS 25)) (defScope (topS 25)) .none kV13 dc13 pm13 an13 cd13 ct13
    F_has_pairs := L2Fun.v (fun_mk (st := topS 25) l13 c13 k13)
    g_has_pairs := PySem.W.mg_of X G a13
    b_has_pairs := (fun_mk (st := topS 25) l13 c13 k13).binds (ps := ["tree", "value"]) (fun _ _ _ _ _ _ us hl => match us, hl with | [_, _], _ => rfl)
    a_has_door := f14
    fd_has_door := PySem.W.fnOf "has_door" "has_door" (defArgs (topS 26)) (defBody (topS 26)) (defScope (topS 26)) .none kV14 dc14 pm14 an14 cd14 ct14
    F_has_door := L2Fun.v (fun_mk (st := topS 26) l14 c14 k14)
    g_has_door := PySem.W.mg_of X G a14
    b_has_door := (fun_mk (st := topS 26) l14 c14 k14).binds (ps := ["tree", "value"]) (fun _ _ _ _ _ _ us hl => match us, hl with | [_, _], _ => rfl)
    a_check_door := f15
    fd_check_door := PySem.W.fnOf "check_door" "check_door" (defArgs (topS 34)) (defBody (topS 34)) (defScope (topS 34)) .none kV15 dc15 pm15 an15 cd15 ct15
    F_check_door := L2Fun.v (fun_mk (st := topS 34) l15 c15 k15)
    g_check_door := PySem.W.mg_of X G a15
    b_check_door := (fun_mk (st := topS 34) l15 c15 k15).binds (ps := ["tree", "door"]) (fun _ _ _ _ _ _ us hl => match us, hl with | [_, _], _ => rfl)
    a_Doors___init__ := f16
    fd_Doors___init__ := PySem.W.fnOf "__init__" "Doors.__init__" (defArgs stm_Doors___init__) (defBody stm_Doors___init__) (defScope stm_Doors___init__) .none kV16 dc16 pm16 an16 cd16 ct16
    F_Doors___init__ := L2Fun.v (fun_mk (st := stm_Doors___init__) l16 c16 k16)
    hb_Doors___init__ := StX.bind_star2 (B := fun us => bindArgs (PySem.W.fnOf "__init__" "Doors.__init__" (defArgs stm_Doors___init__) (defBody stm_Doors___init__) (defScope stm_Doors___init__) .none kV16 dc16 pm16 an16 cd16 ct16) ⟨us, []⟩) (p1 := "self") (p2 := "tree") (pv := "doors") (fun _ _ => rfl) (fun _ _ _ _ => rfl)
    a__law_is_list := f17
    fd__law_is_list := PySem.W.fnOf "_law_is_list" "_law_is_list" (defArgs (topS 44)) (defBody (topS 44)) (defScope (topS 44)) .none kV17 dc17 pm17 an17 cd17 ct17
    F__law_is_list := L2Fun.v (fun_mk (st := topS 44) l17 c17 k17)
    g__law_is_list := PySem.W.mg_of X G a17
    b__law_is_list := (fun_mk (st := topS 44) l17 c17 k17).binds (ps := ["told", "due"]) (fun _ _ _ _ _ _ us hl => match us, hl with | [_, _], _ => rfl)
    a_check_wishes := f18
    fd_check_wishes := PySem.W.fnOf "check_wishes" "check_wishes" (defArgs (topS 22)) (defBody (topS 22)) (defScope (topS 22)) .none kV18 dc18 pm18 an18 cd18 ct18
    F_check_wishes := L2Fun.v (fun_mk (st := topS 22) l18 c18 k18)
    g_check_wishes := PySem.W.mg_of X G a18
    b_check_wishes := (fun_mk (st := topS 22) l18 c18 k18).binds (ps := ["tree", "wishes"]) (fun _ _ _ _ _ _ us hl => match us, hl with | [_, _], _ => rfl)
    a_swapped := f19
    fd_swapped := PySem.W.fnOf "swapped" "swapped" (defArgs (topS 28)) (defBody (topS 28)) (defScope (topS 28)) .none kV19 dc19 pm19 an19 cd19 ct19
    F_swapped := L2Fun.v (fun_mk (st := topS 28) l19 c19 k19)
    g_swapped := PySem.W.mg_of X G a19
    b_swapped := (fun_mk (st := topS 28) l19 c19 k19).binds (ps := ["pairs", "wish"]) (fun _ _ _ _ _ _ us hl => match us, hl with | [_, _], _ => rfl)
    a_path_of := f20
    fd_path_of := PySem.W.fnOf "path_of" "path_of" (defArgs (topS 15)) (defBody (topS 15)) (defScope (topS 15)) .none kV20 dc20 pm20 an20 cd20 ct20
    F_path_of := L2Fun.v (fun_mk (st := topS 15) l20 c20 k20)
    g_path_of := PySem.W.mg_of X G a20
    b_path_of := (fun_mk (st := topS 15) l20 c20 k20).binds (ps := ["tree", "locale"]) (fun _ _ _ _ _ _ us hl => match us, hl with | [_, _], _ => rfl)
    a_lifted := f21
    fd_lifted := PySem.W.fnOf "lifted" "lifted" (defArgs (topS 27)) (defBody (topS 27)) (defScope (topS 27)) .none kV21 dc21 pm21 an21 cd21 ct21
    F_lifted := L2Fun.v (fun_mk (st := topS 27) l21 c21 k21)
    g_lifted := PySem.W.mg_of X G a21
    b_lifted := (fun_mk (st := topS 27) l21 c21 k21).binds (ps := ["tree", "locales", "wish"]) (fun _ _ _ _ _ _ us hl => match us, hl with | [_, _, _], _ => rfl)
    a_behind_door := f22
    fd_behind_door := PySem.W.fnOf "behind_door" "behind_door" (defArgs (topS 29)) (defBody (topS 29)) (defScope (topS 29)) .none kV22 dc22 pm22 an22 cd22 ct22
    F_behind_door := L2Fun.v (fun_mk (st := topS 29) l22 c22 k22)
    g_behind_door := PySem.W.mg_of X G a22
    b_behind_door := (fun_mk (st := topS 29) l22 c22 k22).binds (ps := ["tree", "door", "wishes"]) (fun _ _ _ _ _ _ us hl => match us, hl with | [_, _, _], _ => rfl)
    a_behind_doors := f23
    fd_behind_doors := PySem.W.fnOf "behind_doors" "behind_doors" (defArgs (topS 30)) (defBody (topS 30)) (defScope (topS 30)) .none kV23 dc23 pm23 an23 cd23 ct23
    F_behind_doors := L2Fun.v (fun_mk (st := topS 30) l23 c23 k23)
    g_behind_doors := PySem.W.mg_of X G a23
    b_behind_doors := (fun_mk (st := topS 30) l23 c23 k23).binds (ps := ["tree", "doors", "wishes"]) (fun _ _ _ _ _ _ us hl => match us, hl with | [_, _, _], _ => rfl)
    a_Doors___call__ := f24
    fd_Doors___call__ := PySem.W.fnOf "__call__" "Doors.__call__" (defArgs stm_Doors___call__) (defBody stm_Doors___call__) (defScope stm_Doors___call__) .none kV24 dc24 pm24 an24 cd24 ct24
    F_Doors___call__ := L2Fun.v (fun_mk (st := stm_Doors___call__) l24 c24 k24)
    b_Doors___call__ := (fun_mk (st := stm_Doors___call__) l24 c24 k24).binds (ps := ["self", "wishes"]) (fun _ _ _ _ _ _ us hl => match us, hl with | [_, _], _ => rfl)
    a__law_up_from := f25
    fd__law_up_from := PySem.W.fnOf "_law_up_from" "_law_up_from" (defArgs (topS 42)) (defBody (topS 42)) (defScope (topS 42)) .none kV25 dc25 pm25 an25 cd25 ct25
    F__law_up_from := L2Fun.v (fun_mk (st := topS 42) l25 c25 k25)
    g__law_up_from := PySem.W.mg_of X G a25
    b__law_up_from := (fun_mk (st := topS 42) l25 c25 k25).binds (ps := ["fir", "spot"]) (fun _ _ _ _ _ _ us hl => match us, hl with | [_, _], _ => rfl)
    a__law_one_gate := f26
    fd__law_one_gate := PySem.W.fnOf "_law_one_gate" "_law_one_gate" (defArgs (topS 43)) (defBody (topS 43)) (defScope (topS 43)) .none kV26 dc26 pm26 an26 cd26 ct26
    F__law_one_gate := L2Fun.v (fun_mk (st := topS 43) l26 c26 k26)
    g__law_one_gate := PySem.W.mg_of X G a26
    b__law_one_gate := (fun_mk (st := topS 43) l26 c26 k26).binds (ps := ["fir", "gate", "asks"]) (fun _ _ _ _ _ _ us hl => match us, hl with | [_, _, _], _ => rfl)
    a_law := f27
    fd_law := PySem.W.fnOf "law" "law" (defArgs (topS 45)) (defBody (topS 45)) (defScope (topS 45)) .none kV27 dc27 pm27 an27 cd27 ct27
    F_law := L2Fun.v (fun_mk (st := topS 45) l27 c27 k27)
    g_law := PySem.W.mg_of X G a27
    b_law := (fun_mk (st := topS 45) l27 c27 k27).binds (ps := ["script"]) (fun _ _ _ _ _ _ us hl => match us, hl with | [_], _ => rfl)
    o_Doors := ⟨X_Doors, xa_Doors, PySem.W.mg_of X G xa_Doors, ⟨xc1_Doors, xc2_Doors, xc3_Doors, xc4_Doors⟩⟩
    mk_Doors := ⟨xc5_Doors, a16, fa16, xc6_Doors⟩
    na_Doors__tree := xn_Doors__tree
    na_Doors__doors := xn_Doors__doors
    co_Doors := ⟨a24, fa24, fb24⟩
    kw1_Doors___call___wishes := fun s u v => .of_eq rfl
    m_all := PySem.W.mg_none_of X G z_all
    m_bool := PySem.W.mg_none_of X G z_bool
    m_int := PySem.W.mg_none_of X G z_int
    m_isinstance := PySem.W.mg_none_of X G z_isinstance
    m_len := PySem.W.mg_none_of X G z_len
    m_list := PySem.W.mg_none_of X G z_list
    m_max := PySem.W.mg_none_of X G z_max
    m_min := PySem.W.mg_none_of X G z_min
    m_range := PySem.W.mg_none_of X G z_range
    m_str := PySem.W.mg_none_of X G z_str
    m_tuple := PySem.W.mg_none_of X G z_tuple
    m_type := PySem.W.mg_none_of X G z_type
    m_zip := PySem.W.mg_none_of X G z_zip
    k_MOST_LOCALES := tk_MOST_LOCALES
    c_MOST_LOCALES := PySem.W.mg_of X G v_MOST_LOCALES }
  have e : t.a_law = fa := by
    have := hfa.symm.trans t.g_law
    cases this
    rfl
  rw [← e]
  exact ⟨t.fd_law, fun s v => .of_eq rfl, fun base _ _ => ok_law t⟩
end My
/-! DM: reckoning with the data's worths; what is known of lists of numbers. -/
namespace DL
open PySem PySem.Spec PyProof.Rows L2
section
variable (a b : Int) (xs ys : List D) (d : D) (p q : Bool)
@[simp] theorem p_sub : pSub [.int a, .int b] = some (.d (.int (a - b))) := id rfl
@[simp] theorem p_fdiv : pFdiv [.int a, .int b] = if 0 < b ∧ b.natAbs.log2 < 9000 then some (.d (.int (a / b))) else none := by
  simp only [pFdiv, pInt2]; split <;> rfl
@[simp] theorem p_mod : pMod [.int a, .int b] = if 0 < b then some (.d (.int (a % b))) else none := by
  simp only [pMod, pInt2]; split <;> rfl
@[simp] theorem p_pow : pPow [.int a, .int b] = if 0 ≤ b ∧ b ≤ 1000000 ∧ a.natAbs < 2 ^ 64 then some (.d (.int (a ^ b.toNat))) else none := by
  simp only [pPow, pInt2]; split <;> rfl
@[simp] theorem p_cmp (f : Int → Int → Bool) : pCmp f [.int a, .int b] = some (.d (.bl (f a b))) := id rfl
@[simp] theorem p_neg : pNeg [.int a] = some (.d (.int (-a))) := id rfl
@[simp] theorem p_addI : pAdd [.int a, .int b] = some (.d (.int (a + b))) := id rfl
@[simp] theorem p_addT : pAdd [.tup xs, .tup ys] = if xs.length + ys.length ≤ sizeLine then some (.d (.tup (xs ++ ys))) else none := id rfl
@[simp] theorem p_addL : pAdd [.lst xs, .lst ys] = if xs.length + ys.length ≤ sizeLine then some (.nl (xs ++ ys)) else none := id rfl
@[simp] theorem p_mul : pMul [.int a, .int b] = if wideMul a b = true then some (.d (.int (a * b))) else none := id rfl
@[simp] theorem p_isN : pIsN [d, .non] = some (.d (.bl (isNonD d))) := id rfl
@[simp] theorem p_notN : pNotN [d, .non] = some (.d (.bl (!isNonD d))) := id rfl
@[simp] theorem p_isB : pIsB [.bl p, .bl q] = some (.d (.bl (decide (p = q)))) := id rfl
@[simp] theorem p_notB : pNotB [.bl p, .bl q] = some (.d (.bl (!decide (p = q)))) := id rfl
@[simp] theorem p_ixL : pIx [.lst xs, .int a] = (atI xs a).map PR.d := id rfl
@[simp] theorem p_ixT : pIx [.tup xs, .int a] = (atI xs a).map PR.d := id rfl
@[simp] theorem p_ixF : pIx [.fz xs, .int a] = (atI xs a).map PR.d := id rfl
@[simp] theorem p_lenL : pLen [.lst xs] = some (.d (.int xs.length)) := id rfl
@[simp] theorem p_lenT : pLen [.tup xs] = some (.d (.int xs.length)) := id rfl
@[simp] theorem p_lenF : pLen [.fz xs] = some (.d (.int xs.length)) := id rfl
@[simp] theorem p_int : pIntOf [.int a] = some (.d (.int a)) := id rfl
@[simp] theorem p_intB : pIntOf [.bl p] = some (.d (.int (if p then 1 else 0))) := id rfl
@[simp] theorem p_max : pMax [.int a, .int b] = some (.d (.int (if b > a then b else a))) := id rfl
@[simp] theorem p_min : pMin [.int a, .int b] = some (.d (.int (if b < a then b else a))) := id rfl
@[simp] theorem p_tupL : pTupOf [.lst xs] = some (.d (.tup xs)) := id rfl
@[simp] theorem p_tupT : pTupOf [.tup xs] = some (.d (.tup xs)) := id rfl
@[simp] theorem p_lstL : pLstOf [.lst xs] = some (.nl xs) := id rfl
@[simp] theorem p_lstT : pLstOf [.tup xs] = some (.nl xs) := id rfl
@[simp] theorem p_lstF : pLstOf [.fz xs] = some (.nl xs) := id rfl
@[simp] theorem p_lst : pLst xs = if xs.length ≤ sizeLine then some (.nl xs) else none := id rfl
@[simp] theorem p_tup : pTup xs = if xs.length ≤ sizeLine then some (.d (.tup xs)) else none := id rfl
@[simp] theorem m_app : mApp xs [d] = if xs.length < sizeLine then some (xs ++ [d], .non) else none := id rfl
end

def FinD {α : Type} (r : R α) (P : α → DEnv → Prop) : Prop := match r with
  | .ok a e => P a e
  | _ => False
theorem fin_congr_D {α : Type} {r r' : R α} {P : α → DEnv → Prop} (h : r = r') : FinD r P = FinD r' P := by rw [h]
theorem fin_ok_D {α : Type} {a : α} {e : DEnv} {P : α → DEnv → Prop} : FinD (.ok a e) P ↔ P a e := ⟨fun h => h, fun h => h⟩
theorem fin_bad_D {α : Type} {P : α → DEnv → Prop} : FinD (R.bad : R α) P ↔ False := ⟨fun h => h, fun h => h⟩
theorem bind_ok {α β : Type} {f : α → DEnv → R β} {a : α} {e : DEnv} : (R.ok a e).bind f = f a e := rfl
theorem bind_bad {α β : Type} {f : α → DEnv → R β} : (R.bad : R α).bind f = .bad := rfl
theorem fin_bind_D {α β : Type} {r : R α} {f : α → DEnv → R β} {P : β → DEnv → Prop} : FinD (r.bind f) P ↔ FinD r fun a e => FinD (f a e) P := by
  cases r <;> exact Iff.rfl
theorem fin_iff_D {α : Type} {r : R α} {P : α → DEnv → Prop} : FinD r P ↔ ∃ a e, r = .ok a e ∧ P a e := by
  cases r with
  | ok a e => exact ⟨fun h => ⟨a, e, rfl, h⟩, fun ⟨_, _, z, h⟩ => by cases z; exact h⟩
  | err x e => exact ⟨fun h => h.elim, fun ⟨_, _, z, h⟩ => by cases z⟩
  | bad => exact ⟨fun h => h.elim, fun ⟨_, _, z, h⟩ => by cases z⟩
theorem FinD.mono {α : Type} {r : R α} {P P' : α → DEnv → Prop} (h : FinD r P) (k : ∀ a e, P a e → P' a e) : FinD r P' := by
  cases r with
  | ok a e => exact k a e h
  | err x e => exact h
  | bad => exact h
def contS (b : DS) : Fl → DS
  | .nx => b
  | fl => fun env => .ok fl env
theorem contS_nx_D {b : DS} {e : DEnv} {P : Fl → DEnv → Prop} : FinD (contS b .nx e) P ↔ FinD (b e) P := ⟨id, id⟩
theorem contS_ret_D {b : DS} {r : Ent} {e : DEnv} {P : Fl → DEnv → Prop} : FinD (contS b (.ret r) e) P ↔ P (.ret r) e := ⟨id, id⟩
theorem contS_brk_D {b : DS} {e : DEnv} {P : Fl → DEnv → Prop} : FinD (contS b .brk e) P ↔ P .brk e := ⟨id, id⟩
theorem contS_cnt_D {b : DS} {e : DEnv} {P : Fl → DEnv → Prop} : FinD (contS b .cnt e) P ↔ P .cnt e := ⟨id, id⟩
theorem fin_seq_D {a b : DS} {env : DEnv} {P : Fl → DEnv → Prop} : FinD (dSeq a b env) P ↔ FinD (a env) fun fl e => FinD (contS b fl e) P := by
  unfold dSeq
  cases a env with
  | ok fl e => cases fl <;> exact Iff.rfl
  | err x e => exact Iff.rfl
  | bad => exact Iff.rfl
/-! each piece, from the left to the right -/
def ofO (o : Option (Option Ent)) (env : DEnv) : R Ent := match o with
  | some (some e) => .ok e env
  | _ => .bad
theorem fin_ofO_D {e : Ent} {env : DEnv} {P : Ent → DEnv → Prop} : FinD (ofO (some (some e)) env) P ↔ P e env := ⟨id, id⟩
def resP (o : Option PR) (env : DEnv) : R Ent := match o with
  | some r => .ok r.ent env
  | none => .bad
theorem fin_resD_D {x : D} {env : DEnv} {P : Ent → DEnv → Prop} : FinD (resP (some (.d x)) env) P ↔ P ⟨.shr, x⟩ env := ⟨id, id⟩
theorem fin_resN_D {xs : List D} {env : DEnv} {P : Ent → DEnv → Prop} : FinD (resP (some (.nl xs)) env) P ↔ P ⟨.own, .lst xs⟩ env := ⟨id, id⟩
def resA {α : Type} (o : Option α) (env : DEnv) : R α := match o with
  | some r => .ok r env
  | none => .bad
theorem fin_resA_D {α : Type} {x : α} {env : DEnv} {P : α → DEnv → Prop} : FinD (resA (some x) env) P ↔ P x env := ⟨id, id⟩
section
variable {env : DEnv} {PF : Fl → DEnv → Prop} {PE : Ent → DEnv → Prop} {PB : Bool → DEnv → Prop} {PL : List D → DEnv → Prop}
theorem fin_ifs_D {c : DT} {a b : DS} : FinD (dIfS c a b env) PF ↔ FinD (c env) fun k e => FinD (if k = true then a e else b e) PF := fin_bind_D
theorem fin_next_D : FinD (dNext env) PF ↔ PF .nx env := ⟨id, id⟩
theorem fin_brk_D : FinD (dBrk env) PF ↔ PF .brk env := ⟨id, id⟩
theorem fin_cnt_D : FinD (dCnt env) PF ↔ PF .cnt env := ⟨id, id⟩
theorem fin_never_D : FinD (dNever env) PF ↔ False := ⟨id, id⟩
theorem fin_set_D {i : Nat} {m : DE} : FinD (dSet i m env) PF ↔ FinD (m env) fun r e => PF .nx (e.set i (some r)) := fin_bind_D
theorem fin_drop_D {m : DE} : FinD (dDrop m env) PF ↔ FinD (m env) fun r e => PF .nx e := fin_bind_D
theorem fin_ret_D {m : DE} : FinD (dRet m env) PF ↔ FinD (m env) fun r e => PF (.ret r) e := fin_bind_D
theorem fin_retV_D {i : Nat} : FinD (dRetV i env) PF ↔ FinD (ofO env[i]? env) fun r e => PF (.ret r) (e.set i none) := by
  unfold dRetV ofO
  cases env[i]? with
  | none => exact Iff.rfl
  | some o => cases o <;> exact Iff.rfl
theorem fin_c_D {d : D} : FinD (dC d env) PE ↔ PE ⟨.shr, d⟩ env := ⟨id, id⟩
theorem fin_var_D {i : Nat} : FinD (dVar i env) PE ↔ FinD (ofO env[i]? env) fun r e => PE ⟨.shr, r.d⟩ (e.set i (some ⟨.shr, r.d⟩)) := by
  unfold dVar ofO
  cases env[i]? with
  | none => exact Iff.rfl
  | some o => cases o <;> exact Iff.rfl
theorem fin_os_nil_D {P : List AV → DEnv → Prop} : FinD (evOs [] env) P ↔ P [] env := ⟨id, id⟩
theorem fin_os_v_D {m : DE} {os : List Opd} {P : List AV → DEnv → Prop} : FinD (evOs (.v m :: os) env) P ↔ FinD (m env) fun r e => FinD (evOs os e) fun avs e2 => P (.d r.d :: avs) e2 := by
  rw [evOs, fin_bind_D]
  refine ⟨fun h => h.mono fun r e k => fin_bind_D.mp k, fun h => h.mono fun r e k => fin_bind_D.mpr k⟩
theorem fin_os_s_D {i : Nat} {os : List Opd} {P : List AV → DEnv → Prop} : FinD (evOs (.s i :: os) env) P ↔ FinD (ofO env[i]? env) fun _ e => FinD (evOs os e) fun avs e2 => P (.s i :: avs) e2 := by
  rw [evOs]
  unfold ofO
  cases env[i]? with
  | none => exact Iff.rfl
  | some o => cases o with
    | none => exact Iff.rfl
    | some e => exact fin_bind_D
theorem fin_prim_D {p : Pr} {os : List Opd} : FinD (dPrim p os env) PE ↔ FinD (evOs os env) fun avs e => FinD (resP ((getAVs e avs).bind p) e) PE := by
  unfold dPrim
  rw [fin_bind_D]
  have key : ∀ (avs : List AV) (e : DEnv), FinD (match (getAVs e avs).bind p with
    | some r => R.ok r.ent e
    | none => R.bad) PE ↔ FinD (resP ((getAVs e avs).bind p) e) PE := fun avs e => by
    unfold resP
    cases (getAVs e avs).bind p <;> exact Iff.rfl
  exact ⟨fun h => h.mono fun a e k => (key a e).mp k, fun h => h.mono fun a e k => (key a e).mpr k⟩
def tstB (r : Ent) (env : DEnv) : R Bool := match r with
  | ⟨.shr, .bl b⟩ => .ok b env
  | _ => .bad
theorem fin_tstB_D {b : Bool} : FinD (tstB ⟨.shr, .bl b⟩ env) PB ↔ PB b env := ⟨id, id⟩
theorem fin_tst_D {m : DE} : FinD (dTst m env) PB ↔ FinD (m env) fun r e => FinD (tstB r e) PB := fin_bind_D
theorem fin_and_D {a b : DT} : FinD (dAnd a b env) PB ↔ FinD (a env) fun c e => FinD (if c = true then b e else .ok false e) PB := fin_bind_D
theorem fin_or_D {a b : DT} : FinD (dOr a b env) PB ↔ FinD (a env) fun c e => FinD (if c = true then .ok true e else b e) PB := fin_bind_D
theorem fin_not_D {a : DT} : FinD (dNot a env) PB ↔ FinD (a env) fun c e => PB (!c) e := fin_bind_D
theorem fin_yes_D : FinD (dYes env) PB ↔ PB true env := ⟨id, id⟩
theorem fin_B_D {m : DT} : FinD (dB m env) PE ↔ FinD (m env) fun b e => PE ⟨.shr, .bl b⟩ e := fin_bind_D
theorem fin_andV_D {a : DT} {b : DE} : FinD (dAndV a b env) PE ↔ FinD (a env) fun c e => FinD (if c = true then b e else .ok ⟨.shr, .bl false⟩ e) PE := fin_bind_D
theorem fin_orV_D {a : DT} {b : DE} : FinD (dOrV a b env) PE ↔ FinD (a env) fun c e => FinD (if c = true then .ok ⟨.shr, .bl true⟩ e else b e) PE := fin_bind_D
theorem fin_if_D {c : DT} {a b : DE} : FinD (dIf c a b env) PE ↔ FinD (c env) fun k e => FinD (if k = true then a e else b e) PE := fin_bind_D
def secondV : List AV → Option D
  | [_, .d y] => some y
  | _ => none
@[simp] theorem secondV_d {a : AV} {y : D} : secondV [a, .d y] = some y := rfl
def chainN (p' : Pr) (oc : Opd) (y : Option D) (o : Option PR) (env : DEnv) : R Ent := match y, o with
  | some y, some (.d (.bl k)) => if k = true then dPrim p' [.v (dC y), oc] env else .ok ⟨.shr, .bl false⟩ env
  | _, _ => .bad
theorem fin_chainN_D {p' : Pr} {oc : Opd} {y : D} {k : Bool} : FinD (chainN p' oc (some y) (some (.d (.bl k))) env) PE ↔ FinD (if k = true then dPrim p' [.v (dC y), oc] env else .ok ⟨.shr, .bl false⟩ env) PE := ⟨id, id⟩
theorem chain_eq {p p' : Pr} {oa ob oc : Opd} : dChain p p' oa ob oc env = (evOs [oa, ob] env).bind fun avs e => chainN p' oc (secondV avs) ((getAVs e avs).bind p) e := by
  unfold dChain
  congr 1
  funext avs e
  generalize (getAVs e avs).bind p = o
  rcases avs with _ | ⟨a, _ | ⟨b, _ | ⟨c, t⟩⟩⟩
  · rfl
  · rfl
  · rcases o with _ | (d | l)
    · cases b <;> rfl
    · cases b <;> cases d <;> rfl
    · cases b <;> rfl
  · rcases o with _ | (d | l)
    · cases b <;> rfl
    · cases b <;> cases d <;> rfl
    · cases b <;> rfl
theorem fin_chain_D {p p' : Pr} {oa ob oc : Opd} : FinD (dChain p p' oa ob oc env) PE ↔ FinD (evOs [oa, ob] env) fun avs e => FinD (chainN p' oc (secondV avs) ((getAVs e avs).bind p) e) PE := by
  rw [chain_eq, fin_bind_D]
theorem fin_call_D {f : DFn} {os : List Opd} : FinD (dCall f os env) PE ↔ FinD (evOs os env) fun avs e => FinD (resA (getAVs e avs) e) fun ds e => FinD (afterC e (f (shrs ds))) PE := by
  unfold dCall
  rw [fin_bind_D]
  have key : ∀ (avs : List AV) (e : DEnv), FinD (match getAVs e avs with
    | some ds => afterC e (f (shrs ds))
    | none => .bad) PE ↔ FinD (resA (getAVs e avs) e) fun ds e => FinD (afterC e (f (shrs ds))) PE := fun avs e => by
    unfold resA
    cases getAVs e avs <;> exact Iff.rfl
  exact ⟨fun h => h.mono fun a e k => (key a e).mp k, fun h => h.mono fun a e k => (key a e).mpr k⟩
theorem fin_afterOk_D {r : Ent} {o : D} : FinD (afterC env (.ok r o)) PE ↔ PE r env := ⟨id, id⟩
theorem fin_afterROk_D {r : Ent} {o : D} {i : Nat} : FinD (afterR env i (.ok r o)) PE ↔ PE r (env.set i (some ⟨.own, o⟩)) := ⟨id, id⟩
def ownO (o : Option (Option Ent)) (env : DEnv) : R D := match o with
  | some (some (Ent.mk Md.own d)) => .ok d env
  | _ => .bad
theorem fin_ownO_D {d : D} {P : D → DEnv → Prop} : FinD (ownO (some (some ⟨.own, d⟩)) env) P ↔ P d env := ⟨id, id⟩
def ownL (o : Option (Option Ent)) (env : DEnv) : R (List D) := match o with
  | some (some (Ent.mk Md.own (.lst d))) => .ok d env
  | _ => .bad
theorem fin_ownL_D {d : List D} : FinD (ownL (some (some ⟨.own, .lst d⟩)) env) PL ↔ PL d env := ⟨id, id⟩
theorem fin_callR_D {f : DFn} {i : Nat} {os : List Opd} : FinD (dCallR f i os env) PE ↔ FinD (ownO env[i]? env) fun _ e => FinD (evOs os e) fun avs e => FinD (resA (getAVs e avs) e) fun ds e => FinD (ownO e[i]? e) fun d e => FinD (afterR e i (f (⟨.own, d⟩ :: shrs ds))) PE := by
  unfold dCallR
  cases env[i]? with
  | none => exact Iff.rfl
  | some o => cases o with
    | none => exact Iff.rfl
    | some w =>
      obtain ⟨md, d⟩ := w
      cases md with
      | own =>
        refine Iff.trans fin_bind_D ?_
        have key : ∀ (avs : List AV) (e : DEnv), FinD (match getAVs e avs, (e[i]? : Option (Option Ent)) with
          | some ds, some (some (Ent.mk Md.own d)) => afterR e i (f (⟨.own, d⟩ :: shrs ds))
          | _, _ => .bad) PE ↔ FinD (resA (getAVs e avs) e) fun ds e => FinD (ownO e[i]? e) fun d e => FinD (afterR e i (f (⟨.own, d⟩ :: shrs ds))) PE := fun avs e => by
          cases getAVs e avs with
          | none => exact Iff.rfl
          | some ds =>
            refine Iff.trans ?_ (fin_resA_D (x := ds)).symm
            cases e[i]? with
            | none => exact Iff.rfl
            | some o => cases o with
              | none => exact Iff.rfl
              | some w =>
                obtain ⟨md, d⟩ := w
                cases md <;> exact Iff.rfl
        exact ⟨fun h => fin_ownO_D.mpr (h.mono fun a e k => (key a e).mp k), fun h => (fin_ownO_D.mp h).mono fun a e k => (key a e).mpr k⟩
      | shr => exact Iff.rfl
      | bor => exact Iff.rfl
theorem fin_mut_D {op : List D → List D → Option (List D × D)} {i : Nat} {os : List Opd} : FinD (dMut op i os env) PE ↔ FinD (ownL env[i]? env) fun _ e => FinD (evOs os e) fun avs e => FinD (resA (getAVs e avs) e) fun ds e => FinD (ownL e[i]? e) fun xs e => FinD (resA (op xs ds) e) fun y e => PE ⟨.shr, y.2⟩ (e.set i (some ⟨.own, .lst y.1⟩)) := by
  unfold dMut
  cases env[i]? with
  | none => exact Iff.rfl
  | some o => cases o with
    | none => exact Iff.rfl
    | some w =>
      obtain ⟨md, d⟩ := w
      cases md with
      | own =>
        cases d with
        | lst d =>
          refine Iff.trans fin_bind_D ?_
          have key : ∀ (avs : List AV) (e : DEnv), FinD (match getAVs e avs, (e[i]? : Option (Option Ent)) with
            | some ds, some (some (Ent.mk Md.own (.lst xs))) => (match op xs ds with
              | some (ys, r) => .ok ⟨.shr, r⟩ (e.set i (some ⟨.own, .lst ys⟩))
              | none => .bad)
            | _, _ => .bad) PE ↔ FinD (resA (getAVs e avs) e) fun ds e => FinD (ownL e[i]? e) fun xs e => FinD (resA (op xs ds) e) fun y e => PE ⟨.shr, y.2⟩ (e.set i (some ⟨.own, .lst y.1⟩)) := fun avs e => by
            cases getAVs e avs with
            | none => exact Iff.rfl
            | some ds =>
              refine Iff.trans ?_ (fin_resA_D (x := ds)).symm
              cases e[i]? with
              | none => exact Iff.rfl
              | some o => cases o with
                | none => exact Iff.rfl
                | some w =>
                  obtain ⟨md, d⟩ := w
                  cases md with
                  | own =>
                    cases d with
                    | lst xs =>
                      refine Iff.trans ?_ (fin_ownL_D (d := xs)).symm
                      dsimp only
                      unfold resA
                      cases op xs ds <;> exact Iff.rfl
                    | _ => exact Iff.rfl
                  | shr => exact Iff.rfl
                  | bor => exact Iff.rfl
          exact ⟨fun h => fin_ownL_D.mpr (h.mono fun a e k => (key a e).mp k), fun h => (fin_ownL_D.mp h).mono fun a e k => (key a e).mpr k⟩
        | _ => exact Iff.rfl
      | shr => exact Iff.rfl
      | bor => exact Iff.rfl
def intO (ds : Option (List D)) (env : DEnv) : R Int := match ds with
  | some [.int k] => .ok k env
  | _ => .bad
theorem fin_intO_D {k : Int} {P : Int → DEnv → Prop} : FinD (intO (some [.int k]) env) P ↔ P k env := ⟨id, id⟩
theorem fin_setIx_D {i : Nat} {os : List Opd} {m : DE} : FinD (dSetIx i os m env) PF ↔ FinD (m env) fun r e => FinD (ownL e[i]? e) fun _ e => FinD (evOs os e) fun avs e => FinD (intO (getAVs e avs) e) fun k e => FinD (ownL e[i]? e) fun xs e => FinD (resA (ixN xs.length k) e) fun j e => PF .nx (e.set i (some ⟨.own, .lst (xs.set j r.d)⟩)) := by
  unfold dSetIx
  rw [fin_bind_D]
  have key : ∀ (r : Ent) (e : DEnv), FinD (match (e[i]? : Option (Option Ent)) with
    | some (some (Ent.mk Md.own (.lst _))) => (evOs os e).bind fun avs env2 => match getAVs env2 avs, (env2[i]? : Option (Option Ent)) with
      | some [.int k], some (some (Ent.mk Md.own (.lst xs))) => (match ixN xs.length k with
        | some j => .ok .nx (env2.set i (some ⟨.own, .lst (xs.set j r.d)⟩))
        | none => .bad)
      | _, _ => .bad
    | _ => .bad) PF ↔ FinD (ownL e[i]? e) fun _ e => FinD (evOs os e) fun avs e => FinD (intO (getAVs e avs) e) fun k e => FinD (ownL e[i]? e) fun xs e => FinD (resA (ixN xs.length k) e) fun j e => PF .nx (e.set i (some ⟨.own, .lst (xs.set j r.d)⟩)) := fun r e => by
    cases e[i]? with
    | none => exact Iff.rfl
    | some o => cases o with
      | none => exact Iff.rfl
      | some w =>
        obtain ⟨md, d⟩ := w
        cases md with
        | shr => exact Iff.rfl
        | bor => exact Iff.rfl
        | own =>
          cases d with
          | lst d =>
            refine Iff.trans fin_bind_D ?_
            have key : ∀ (avs : List AV) (e : DEnv), FinD (match getAVs e avs, (e[i]? : Option (Option Ent)) with
              | some [.int k], some (some (Ent.mk Md.own (.lst xs))) => (match ixN xs.length k with
                | some j => .ok .nx (e.set i (some ⟨.own, .lst (xs.set j r.d)⟩))
                | none => .bad)
              | _, _ => .bad) PF ↔ FinD (intO (getAVs e avs) e) fun k e => FinD (ownL e[i]? e) fun xs e => FinD (resA (ixN xs.length k) e) fun j e => PF .nx (e.set i (some ⟨.own, .lst (xs.set j r.d)⟩)) := fun avs e => by
              rcases getAVs e avs with _ | (_ | ⟨d1, _ | ⟨d2, t⟩⟩)
              · exact Iff.rfl
              · exact Iff.rfl
              · cases d1 with
                | int k =>
                  refine Iff.trans ?_ (fin_intO_D (k := k)).symm
                  cases e[i]? with
                  | none => exact Iff.rfl
                  | some o => cases o with
                    | none => exact Iff.rfl
                    | some w =>
                      obtain ⟨md, d⟩ := w
                      cases md with
                      | own =>
                        cases d with
                        | lst xs =>
                          refine Iff.trans ?_ (fin_ownL_D (d := xs)).symm
                          dsimp only
                          unfold resA
                          cases ixN xs.length k <;> exact Iff.rfl
                        | _ => exact Iff.rfl
                      | shr => exact Iff.rfl
                      | bor => exact Iff.rfl
                | _ => exact Iff.rfl
              · cases d1 <;> exact Iff.rfl
            exact ⟨fun h => fin_ownL_D.mpr (h.mono fun a e k => (key a e).mp k), fun h => (fin_ownL_D.mp h).mono fun a e k => (key a e).mpr k⟩
          | _ => exact Iff.rfl
  exact ⟨fun h => h.mono fun a e k => (key a e).mp k, fun h => h.mono fun a e k => (key a e).mpr k⟩
def intB (r : Ent) (env : DEnv) : R (Option Int) := match r with
  | ⟨.shr, .int b⟩ => .ok (some b) env
  | _ => .bad
theorem fin_intB_D {b : Int} {P : Option Int → DEnv → Prop} : FinD (intB ⟨.shr, .int b⟩ env) P ↔ P (some b) env := ⟨id, id⟩
theorem fin_partN_D {P : Option Int → DEnv → Prop} : FinD (dPart none env) P ↔ P none env := ⟨id, id⟩
theorem fin_partS_D {m : DE} {P : Option Int → DEnv → Prop} : FinD (dPart (some m) env) P ↔ FinD (m env) fun r e => FinD (intB r e) P := by
  unfold dPart
  exact fin_bind_D
def oneO (ds : Option (List D)) (env : DEnv) : R D := match ds with
  | some [d] => .ok d env
  | _ => .bad
theorem fin_oneO_D {d : D} {P : D → DEnv → Prop} : FinD (oneO (some [d]) env) P ↔ P d env := ⟨id, id⟩
theorem fin_slice_D {p : Ps} {o : Opd} {lo hi : Option DE} : FinD (dSlice p o lo hi env) PE ↔ FinD (evOs [o] env) fun avs e => FinD (dPart lo e) fun l e => FinD (dPart hi e) fun u e => FinD (oneO (getAVs e avs) e) fun d e => FinD (resP (p d l u) e) PE := by
  unfold dSlice
  rw [fin_bind_D]
  have key : ∀ (avs : List AV) (l u : Option Int) (e : DEnv), FinD (match getAVs e avs with
    | some [d] => (match p d l u with
      | some r => R.ok r.ent e
      | none => .bad)
    | _ => .bad) PE ↔ FinD (oneO (getAVs e avs) e) fun d e => FinD (resP (p d l u) e) PE := fun avs l u e => by
    rcases getAVs e avs with _ | (_ | ⟨d1, _ | ⟨d2, t⟩⟩)
    · exact Iff.rfl
    · exact Iff.rfl
    · refine Iff.trans ?_ (fin_oneO_D (d := d1)).symm
      dsimp only
      unfold resP
      cases p d1 l u <;> exact Iff.rfl
    · exact Iff.rfl
  refine ⟨fun h => h.mono fun avs e k => (fin_bind_D.mp k).mono fun l e k => (fin_bind_D.mp k).mono fun u e k => (key avs l u e).mp k, fun h => h.mono fun avs e k => fin_bind_D.mpr (k.mono fun l e k => fin_bind_D.mpr (k.mono fun u e k => (key avs l u e).mpr k))⟩
theorem fin_forI_D {it : DI} {g : DG} {body : DS} : FinD (dForI it g body env) PF ↔ FinD (it env) fun xs e => FinD (dFor g body xs e) PF := fin_bind_D
theorem fin_iArgs_D {p : List D → Option (List D)} {os : List Opd} : FinD (iArgs p os env) PL ↔ FinD (evOs os env) fun avs e => FinD (resA ((getAVs e avs).bind p) e) PL := by
  unfold iArgs
  rw [fin_bind_D]
  have key : ∀ (avs : List AV) (e : DEnv), FinD (match (getAVs e avs).bind p with
    | some xs => R.ok xs e
    | none => R.bad) PL ↔ FinD (resA ((getAVs e avs).bind p) e) PL := fun avs e => by
    unfold resA
    cases (getAVs e avs).bind p <;> exact Iff.rfl
  exact ⟨fun h => h.mono fun a e k => (key a e).mp k, fun h => h.mono fun a e k => (key a e).mpr k⟩
theorem fin_iSeq_D {m : DE} : FinD (iSeq m env) PL ↔ FinD (m env) fun r e => FinD (resA (dSeqOf r.d) e) PL := by
  unfold iSeq
  rw [fin_bind_D]
  have key : ∀ (r : Ent) (e : DEnv), FinD (match dSeqOf r.d with
    | some xs => R.ok xs e
    | none => R.bad) PL ↔ FinD (resA (dSeqOf r.d) e) PL := fun r e => by
    unfold resA
    cases dSeqOf r.d <;> exact Iff.rfl
  exact ⟨fun h => h.mono fun a e k => (key a e).mp k, fun h => h.mono fun a e k => (key a e).mpr k⟩
end
def Goes : Fl → Prop
  | .nx => True
  | .cnt => True
  | _ => False
@[simp] theorem goes_nx : Goes .nx ↔ True := Iff.rfl
@[simp] theorem goes_cnt : Goes .cnt ↔ True := Iff.rfl
/-- what a function gives -/
def FinFD (r : FR) (P : Ent → D → Prop) : Prop := match r with
  | .ok a o => P a o
  | _ => False
theorem finF_congr_D {r r' : FR} {P : Ent → D → Prop} (h : r = r') : FinFD r P = FinFD r' P := by rw [h]
theorem finF_ok_D {a : Ent} {o : D} {P : Ent → D → Prop} : FinFD (.ok a o) P ↔ P a o := Iff.rfl
theorem finF_iff_D {r : FR} {P : Ent → D → Prop} : FinFD r P ↔ ∃ a o, r = .ok a o ∧ P a o := by
  cases r with
  | ok a e => exact ⟨fun h => ⟨a, e, rfl, h⟩, fun ⟨_, _, z, h⟩ => by cases z; exact h⟩
  | err x e => exact ⟨fun h => h.elim, fun ⟨_, _, z, h⟩ => by cases z⟩
  | bad => exact ⟨fun h => h.elim, fun ⟨_, _, z, h⟩ => by cases z⟩
def EndS (br : Bool) (P : Ent → D → Prop) (fl : Fl) (e : DEnv) : Prop := match fl with
  | .ret r => ∃ o, outOf br e = some o ∧ P r o
  | .nx => ∃ o, outOf br e = some o ∧ P ⟨.shr, .non⟩ o
  | _ => False
@[simp] theorem endS_ret {br : Bool} {P : Ent → D → Prop} {r : Ent} {e : DEnv} : EndS br P (.ret r) e ↔ ∃ o, outOf br e = some o ∧ P r o := Iff.rfl
@[simp] theorem endS_nx {br : Bool} {P : Ent → D → Prop} {e : DEnv} : EndS br P .nx e ↔ ∃ o, outOf br e = some o ∧ P ⟨.shr, .non⟩ o := Iff.rfl
@[simp] theorem outOf_false {e : DEnv} : outOf false e = some .non := rfl
@[simp] theorem outOf_true {d : D} {e : DEnv} : outOf true (some ⟨.own, d⟩ :: e) = some d := rfl
theorem finF_def_D {br : Bool} {n ns : Nat} {body : DS} {args : List Ent} {P : Ent → D → Prop} (hn : args.length = n) (h : FinD (body (args.map some ++ List.replicate (ns - n) none)) (EndS br P)) : FinFD (dDef br n ns body args) P := by
  unfold dDef
  rw [if_pos hn]
  revert h
  cases body (args.map some ++ List.replicate (ns - n) none) with
  | ok fl e =>
    cases fl with
    | nx => exact fun ⟨o, h1, h2⟩ => by simp only [h1]; exact h2
    | ret r => exact fun ⟨o, h1, h2⟩ => by simp only [h1]; exact h2
    | brk => exact fun h => h
    | cnt => exact fun h => h
  | err x e => exact fun h => h.elim
  | bad => exact fun h => h
/-- a function that changes nothing: its answer, told as an equation -/
theorem def_eq_D {n ns : Nat} {body : DS} {args : List Ent} {r : Ent} (hn : args.length = n) (h : FinD (body (args.map some ++ List.replicate (ns - n) none)) fun fl _ => fl = .ret r ∨ (fl = .nx ∧ r = ⟨.shr, .non⟩)) : dDef false n ns body args = .ok r .non := by
  have q := finF_def_D (br := false) (P := fun a o => a = r ∧ o = .non) hn (h.mono fun fl e k => by
    rcases k with rfl | ⟨rfl, rfl⟩
    · exact ⟨.non, rfl, rfl, rfl⟩
    · exact ⟨.non, rfl, rfl, rfl⟩)
  obtain ⟨a, o, e, rfl, rfl⟩ := finF_iff_D.mp q
  exact e
theorem fin_after_D {env : DEnv} {r : FR} {P : Ent → DEnv → Prop} : FinFD r (fun a _ => P a env) → FinD (afterC env r) P := by
  cases r <;> exact id
theorem fin_afterR_D {env : DEnv} {i : Nat} {r : FR} {P : Ent → DEnv → Prop} : FinFD r (fun a o => P a (env.set i (some ⟨.own, o⟩))) → FinD (afterR env i r) P := by
  cases r <;> exact id

/-! ### loops -/
theorem fin_for_from_D {g : DG} {body : DS} {P : Fl → DEnv → Prop} (I : Nat → DEnv → Prop) : ∀ (xs : List D) (k : Nat) (env : DEnv), I k env →
    (∀ j x env, xs[j]? = some x → I (k + j) env → ∃ env1, g x env = some env1 ∧ FinD (body env1) fun fl e => Goes fl ∧ I (k + j + 1) e) →
    (∀ env, I (k + xs.length) env → P .nx env) → FinD (dFor g body xs env) P
  | [], k, env, h, _, z => z env h
  | x :: xs, k, env, h, step, z => by
    obtain ⟨env1, e1, h1⟩ := step 0 x env rfl h
    have go : ∀ env2, I (k + 1) env2 → FinD (dFor g body xs env2) P := fun env2 h2 => fin_for_from_D (g := g) (body := body) I xs (k + 1) env2 h2 (fun j y en hj hi => by
      have q := step (j + 1) y en (by simpa using hj) (by rw [show k + (j + 1) = k + 1 + j by omega]; exact hi)
      rw [show k + (j + 1) + 1 = k + 1 + j + 1 by omega] at q
      exact q) (fun en hi => z en (by rw [List.length_cons, show k + (xs.length + 1) = k + 1 + xs.length by omega]; exact hi))
    rw [dFor, e1]
    revert h1
    simp only [Nat.add_zero]
    cases body env1 with
    | ok fl e2 =>
      cases fl with
      | nx => exact fun ⟨_, h2⟩ => go e2 h2
      | cnt => exact fun ⟨_, h2⟩ => go e2 h2
      | brk => exact fun ⟨h2, _⟩ => h2.elim
      | ret r => exact fun ⟨h2, _⟩ => h2.elim
    | err x e => exact fun h => h
    | bad => exact fun h => h
/-- a loop that goes to its end -/
theorem fin_for_D {g : DG} {body : DS} {P : Fl → DEnv → Prop} {xs : List D} {env : DEnv} (I : Nat → DEnv → Prop) (h0 : I 0 env)
    (step : ∀ j x env, xs[j]? = some x → I j env → ∃ env1, g x env = some env1 ∧ FinD (body env1) fun fl e => Goes fl ∧ I (j + 1) e)
    (z : ∀ env, I xs.length env → P .nx env) : FinD (dFor g body xs env) P :=
  fin_for_from_D I xs 0 env h0 (fun j x en hj hi => by
    rw [Nat.zero_add] at *
    exact step j x en hj hi) (fun en hi => z en (by rw [Nat.zero_add] at hi; exact hi))
theorem fin_while_D {c : DT} {body : DS} {P : Fl → DEnv → Prop} (I : Nat → DEnv → Prop)
    (step : ∀ k env, I k env → FinD (c env) fun b e => if b = true then FinD (body e) (fun fl e2 => Goes fl ∧ ∃ k', k' < k ∧ I k' e2) else P .nx e) : ∀ (n k : Nat) (env : DEnv), k < n → I k env → FinD (dWhile c body n env) P
  | 0, k, env, h, _ => absurd h (Nat.not_lt_zero k)
  | n + 1, k, env, h, hi => by
    have q := step k env hi
    rw [dWhile, fin_bind_D]
    refine q.mono fun b e hb => ?_
    cases b with
    | false => exact hb
    | true =>
      simp only [if_true] at hb ⊢
      revert hb
      cases body e with
      | ok fl e2 =>
        cases fl with
        | nx => exact fun ⟨_, k', h1, h2⟩ => fin_while_D I step n k' e2 (by omega) h2
        | cnt => exact fun ⟨_, k', h1, h2⟩ => fin_while_D I step n k' e2 (by omega) h2
        | brk => exact fun ⟨h2, _⟩ => h2.elim
        | ret r => exact fun ⟨h2, _⟩ => h2.elim
      | err x e => exact fun h => h
      | bad => exact fun h => h
/-- a comprehension without a condition: its items, one by one -/
theorem dLoop_map {vs : List Nat} {g : DG} {e : DE} (I : DEnv → Prop) (F : D → D) : ∀ (xs acc : List D) (env : DEnv), I env → acc.length + xs.length ≤ sizeLine →
    (∀ x ∈ xs, ∀ env, I env → ∃ env1, g x env = some env1 ∧ ∃ env2 md, e env1 = .ok ⟨md, F x⟩ env2 ∧ I (wipeD env2 vs)) →
    ∃ env', dLoop vs g dYes e xs acc env = .ok (acc ++ xs.map F) env' ∧ I env'
  | [], acc, env, h, _, _ => ⟨env, by simp [dLoop], h⟩
  | x :: xs, acc, env, h, hl, step => by
    obtain ⟨env1, e1, env2, md, e2, h2⟩ := step x (List.mem_cons_self ..) env h
    rw [List.length_cons] at hl
    obtain ⟨env', e3, h3⟩ := dLoop_map I F xs (acc ++ [F x]) (wipeD env2 vs) h2 (by rw [List.length_append, List.length_singleton]; omega) fun y hy => step y (List.mem_cons_of_mem _ hy)
    refine ⟨env', ?_, h3⟩
    rw [dLoop, e1]
    simp only [dYes, e2]
    rw [if_pos (by omega), e3, List.map_cons, List.append_assoc]
    rfl

theorem fin_comp_D {vs : List Nat} {it : DI} {g : DG} {e : DE} {env env1 : DEnv} {xs : List D} {P : Ent → DEnv → Prop} (hi : FinD (it env) fun ys e => ys = xs ∧ e = env1) (I : DEnv → Prop) (F : D → D) (h0 : I (wipeD env1 vs)) (hl : xs.length ≤ sizeLine)
    (step : ∀ x ∈ xs, ∀ env, I env → ∃ env1, g x env = some env1 ∧ FinD (e env1) fun r env2 => r.d = F x ∧ I (wipeD env2 vs))
    (z : ∀ env', I env' → P ⟨.own, .lst (xs.map F)⟩ (backD env1 env' vs)) : FinD (dComp vs it g dYes e env) P := by
  obtain ⟨env', e1, h1⟩ := dLoop_map (g := g) (e := e) (vs := vs) I F xs [] (wipeD env1 vs) h0 (by simpa using hl) fun x hx en hI => by
    obtain ⟨en1, q1, q2⟩ := step x hx en hI
    obtain ⟨r, en2, q3, q4, q5⟩ := fin_iff_D.mp q2
    exact ⟨en1, q1, en2, r.md, by rw [q3, ← q4], q5⟩
  obtain ⟨ys, e2, hi1, rfl, rfl⟩ := fin_iff_D.mp hi
  unfold dComp
  rw [hi1, bind_ok, e1]
  exact z env' h1


/-! the same, closed to unfolding -/
structure Fin {α : Type} (r : R α) (P : α → DEnv → Prop) : Prop where
  out : FinD r P
structure FinF (r : FR) (P : Ent → D → Prop) : Prop where
  out : FinFD r P
def bindO {α : Type} (o : Option (List D)) (p : List D → Option α) : Option α := o.bind p
@[simp] theorem bindO_some {α : Type} {l : List D} {p : List D → Option α} : bindO (some l) p = p l := id rfl
theorem fin_eq {α : Type} : @FinD α = @Fin α := by
  funext r P
  exact propext ⟨fun h => ⟨h⟩, fun h => h.out⟩
theorem finF_eq : FinFD = FinF := by
  funext r P
  exact propext ⟨fun h => ⟨h⟩, fun h => h.out⟩
theorem fin_congr {α : Type} {r r' : R α} {P : α → DEnv → Prop} (h : r = r') : Fin r P = Fin r' P := by
  have h := @fin_congr_D
  simp only [fin_eq, finF_eq] at h
  first | exact h | exact h (by assumption) | exact h (by assumption) (by assumption) | exact h _ (by assumption) (by assumption) (by assumption) | exact h _ _ _ _ (by assumption) (by assumption) (by assumption)
@[simp] theorem fin_ok {α : Type} {a : α} {e : DEnv} {P : α → DEnv → Prop} : Fin (.ok a e) P ↔ P a e := by
  have h := @fin_ok_D
  simp only [fin_eq, finF_eq] at h
  first | exact h | exact h (by assumption) | exact h (by assumption) (by assumption) | exact h _ (by assumption) (by assumption) (by assumption) | exact h _ _ _ _ (by assumption) (by assumption) (by assumption)
@[simp] theorem fin_bad {α : Type} {P : α → DEnv → Prop} : Fin (R.bad : R α) P ↔ False := by
  have h := @fin_bad_D
  simp only [fin_eq, finF_eq] at h
  first | exact h | exact h (by assumption) | exact h (by assumption) (by assumption) | exact h _ (by assumption) (by assumption) (by assumption) | exact h _ _ _ _ (by assumption) (by assumption) (by assumption)
@[simp ↓] theorem fin_bind {α β : Type} {r : R α} {f : α → DEnv → R β} {P : β → DEnv → Prop} : Fin (r.bind f) P ↔ Fin r fun a e => Fin (f a e) P := by
  have h := @fin_bind_D
  simp only [fin_eq, finF_eq] at h
  first | exact h | exact h (by assumption) | exact h (by assumption) (by assumption) | exact h _ (by assumption) (by assumption) (by assumption) | exact h _ _ _ _ (by assumption) (by assumption) (by assumption)
theorem fin_iff {α : Type} {r : R α} {P : α → DEnv → Prop} : Fin r P ↔ ∃ a e, r = .ok a e ∧ P a e := by
  have h := @fin_iff_D
  simp only [fin_eq, finF_eq] at h
  first | exact h | exact h (by assumption) | exact h (by assumption) (by assumption) | exact h _ (by assumption) (by assumption) (by assumption) | exact h _ _ _ _ (by assumption) (by assumption) (by assumption)
theorem Fin.mono {α : Type} {r : R α} {P P' : α → DEnv → Prop} (h : Fin r P) (k : ∀ a e, P a e → P' a e) : Fin r P' := by
  have h := @FinD.mono
  simp only [fin_eq, finF_eq] at h
  first | exact h | exact h (by assumption) | exact h (by assumption) (by assumption) | exact h _ (by assumption) (by assumption) (by assumption) | exact h _ _ _ _ (by assumption) (by assumption) (by assumption)
@[simp ↓] theorem contS_nx {b : DS} {e : DEnv} {P : Fl → DEnv → Prop} : Fin (contS b .nx e) P ↔ Fin (b e) P := by
  have h := @contS_nx_D
  simp only [fin_eq, finF_eq] at h
  first | exact h | exact h (by assumption) | exact h (by assumption) (by assumption) | exact h _ (by assumption) (by assumption) (by assumption) | exact h _ _ _ _ (by assumption) (by assumption) (by assumption)
@[simp ↓] theorem contS_ret {b : DS} {r : Ent} {e : DEnv} {P : Fl → DEnv → Prop} : Fin (contS b (.ret r) e) P ↔ P (.ret r) e := by
  have h := @contS_ret_D
  simp only [fin_eq, finF_eq] at h
  first | exact h | exact h (by assumption) | exact h (by assumption) (by assumption) | exact h _ (by assumption) (by assumption) (by assumption) | exact h _ _ _ _ (by assumption) (by assumption) (by assumption)
@[simp ↓] theorem contS_brk {b : DS} {e : DEnv} {P : Fl → DEnv → Prop} : Fin (contS b .brk e) P ↔ P .brk e := by
  have h := @contS_brk_D
  simp only [fin_eq, finF_eq] at h
  first | exact h | exact h (by assumption) | exact h (by assumption) (by assumption) | exact h _ (by assumption) (by assumption) (by assumption) | exact h _ _ _ _ (by assumption) (by assumption) (by assumption)
@[simp ↓] theorem contS_cnt {b : DS} {e : DEnv} {P : Fl → DEnv → Prop} : Fin (contS b .cnt e) P ↔ P .cnt e := by
  have h := @contS_cnt_D
  simp only [fin_eq, finF_eq] at h
  first | exact h | exact h (by assumption) | exact h (by assumption) (by assumption) | exact h _ (by assumption) (by assumption) (by assumption) | exact h _ _ _ _ (by assumption) (by assumption) (by assumption)
@[simp ↓] theorem fin_seq {a b : DS} {env : DEnv} {P : Fl → DEnv → Prop} : Fin (dSeq a b env) P ↔ Fin (a env) fun fl e => Fin (contS b fl e) P := by
  have h := @fin_seq_D
  simp only [fin_eq, finF_eq] at h
  first | exact h | exact h (by assumption) | exact h (by assumption) (by assumption) | exact h _ (by assumption) (by assumption) (by assumption) | exact h _ _ _ _ (by assumption) (by assumption) (by assumption)
@[simp] theorem fin_ofO {e : Ent} {env : DEnv} {P : Ent → DEnv → Prop} : Fin (ofO (some (some e)) env) P ↔ P e env := by
  have h := @fin_ofO_D
  simp only [fin_eq, finF_eq] at h
  first | exact h | exact h (by assumption) | exact h (by assumption) (by assumption) | exact h _ (by assumption) (by assumption) (by assumption) | exact h _ _ _ _ (by assumption) (by assumption) (by assumption)
@[simp] theorem fin_resD {x : D} {env : DEnv} {P : Ent → DEnv → Prop} : Fin (resP (some (.d x)) env) P ↔ P ⟨.shr, x⟩ env := by
  have h := @fin_resD_D
  simp only [fin_eq, finF_eq] at h
  first | exact h | exact h (by assumption) | exact h (by assumption) (by assumption) | exact h _ (by assumption) (by assumption) (by assumption) | exact h _ _ _ _ (by assumption) (by assumption) (by assumption)
@[simp] theorem fin_resN {xs : List D} {env : DEnv} {P : Ent → DEnv → Prop} : Fin (resP (some (.nl xs)) env) P ↔ P ⟨.own, .lst xs⟩ env := by
  have h := @fin_resN_D
  simp only [fin_eq, finF_eq] at h
  first | exact h | exact h (by assumption) | exact h (by assumption) (by assumption) | exact h _ (by assumption) (by assumption) (by assumption) | exact h _ _ _ _ (by assumption) (by assumption) (by assumption)
@[simp] theorem fin_resA {α : Type} {x : α} {env : DEnv} {P : α → DEnv → Prop} : Fin (resA (some x) env) P ↔ P x env := by
  have h := @fin_resA_D
  simp only [fin_eq, finF_eq] at h
  first | exact h | exact h (by assumption) | exact h (by assumption) (by assumption) | exact h _ (by assumption) (by assumption) (by assumption) | exact h _ _ _ _ (by assumption) (by assumption) (by assumption)
section
variable {env : DEnv} {PF : Fl → DEnv → Prop} {PE : Ent → DEnv → Prop} {PB : Bool → DEnv → Prop} {PL : List D → DEnv → Prop}
@[simp ↓] theorem fin_ifs {c : DT} {a b : DS} : Fin (dIfS c a b env) PF ↔ Fin (c env) fun k e => Fin (if k = true then a e else b e) PF := by
  have h := @fin_ifs_D
  simp only [fin_eq, finF_eq] at h
  first | exact h | exact h (by assumption) | exact h (by assumption) (by assumption) | exact h _ (by assumption) (by assumption) (by assumption) | exact h _ _ _ _ (by assumption) (by assumption) (by assumption)
@[simp ↓] theorem fin_next : Fin (dNext env) PF ↔ PF .nx env := by
  have h := @fin_next_D
  simp only [fin_eq, finF_eq] at h
  first | exact h | exact h (by assumption) | exact h (by assumption) (by assumption) | exact h _ (by assumption) (by assumption) (by assumption) | exact h _ _ _ _ (by assumption) (by assumption) (by assumption)
@[simp ↓] theorem fin_brk : Fin (dBrk env) PF ↔ PF .brk env := by
  have h := @fin_brk_D
  simp only [fin_eq, finF_eq] at h
  first | exact h | exact h (by assumption) | exact h (by assumption) (by assumption) | exact h _ (by assumption) (by assumption) (by assumption) | exact h _ _ _ _ (by assumption) (by assumption) (by assumption)
@[simp ↓] theorem fin_cnt : Fin (dCnt env) PF ↔ PF .cnt env := by
  have h := @fin_cnt_D
  simp only [fin_eq, finF_eq] at h
  first | exact h | exact h (by assumption) | exact h (by assumption) (by assumption) | exact h _ (by assumption) (by assumption) (by assumption) | exact h _ _ _ _ (by assumption) (by assumption) (by assumption)
@[simp ↓] theorem fin_never : Fin (dNever env) PF ↔ False := by
  have h := @fin_never_D
  simp only [fin_eq, finF_eq] at h
  first | exact h | exact h (by assumption) | exact h (by assumption) (by assumption) | exact h _ (by assumption) (by assumption) (by assumption) | exact h _ _ _ _ (by assumption) (by assumption) (by assumption)
@[simp ↓] theorem fin_set {i : Nat} {m : DE} : Fin (dSet i m env) PF ↔ Fin (m env) fun r e => PF .nx (e.set i (some r)) := by
  have h := @fin_set_D
  simp only [fin_eq, finF_eq] at h
  first | exact h | exact h (by assumption) | exact h (by assumption) (by assumption) | exact h _ (by assumption) (by assumption) (by assumption) | exact h _ _ _ _ (by assumption) (by assumption) (by assumption)
@[simp ↓] theorem fin_drop {m : DE} : Fin (dDrop m env) PF ↔ Fin (m env) fun r e => PF .nx e := by
  have h := @fin_drop_D
  simp only [fin_eq, finF_eq] at h
  first | exact h | exact h (by assumption) | exact h (by assumption) (by assumption) | exact h _ (by assumption) (by assumption) (by assumption) | exact h _ _ _ _ (by assumption) (by assumption) (by assumption)
@[simp ↓] theorem fin_ret {m : DE} : Fin (dRet m env) PF ↔ Fin (m env) fun r e => PF (.ret r) e := by
  have h := @fin_ret_D
  simp only [fin_eq, finF_eq] at h
  first | exact h | exact h (by assumption) | exact h (by assumption) (by assumption) | exact h _ (by assumption) (by assumption) (by assumption) | exact h _ _ _ _ (by assumption) (by assumption) (by assumption)
@[simp ↓] theorem fin_retV {i : Nat} : Fin (dRetV i env) PF ↔ Fin (ofO env[i]? env) fun r e => PF (.ret r) (e.set i none) := by
  have h := @fin_retV_D
  simp only [fin_eq, finF_eq] at h
  first | exact h | exact h (by assumption) | exact h (by assumption) (by assumption) | exact h _ (by assumption) (by assumption) (by assumption) | exact h _ _ _ _ (by assumption) (by assumption) (by assumption)
@[simp ↓] theorem fin_c {d : D} : Fin (dC d env) PE ↔ PE ⟨.shr, d⟩ env := by
  have h := @fin_c_D
  simp only [fin_eq, finF_eq] at h
  first | exact h | exact h (by assumption) | exact h (by assumption) (by assumption) | exact h _ (by assumption) (by assumption) (by assumption) | exact h _ _ _ _ (by assumption) (by assumption) (by assumption)
@[simp ↓] theorem fin_var {i : Nat} : Fin (dVar i env) PE ↔ Fin (ofO env[i]? env) fun r e => PE ⟨.shr, r.d⟩ (e.set i (some ⟨.shr, r.d⟩)) := by
  have h := @fin_var_D
  simp only [fin_eq, finF_eq] at h
  first | exact h | exact h (by assumption) | exact h (by assumption) (by assumption) | exact h _ (by assumption) (by assumption) (by assumption) | exact h _ _ _ _ (by assumption) (by assumption) (by assumption)
@[simp ↓] theorem fin_os_nil {P : List AV → DEnv → Prop} : Fin (evOs [] env) P ↔ P [] env := by
  have h := @fin_os_nil_D
  simp only [fin_eq, finF_eq] at h
  first | exact h | exact h (by assumption) | exact h (by assumption) (by assumption) | exact h _ (by assumption) (by assumption) (by assumption) | exact h _ _ _ _ (by assumption) (by assumption) (by assumption)
@[simp ↓] theorem fin_os_v {m : DE} {os : List Opd} {P : List AV → DEnv → Prop} : Fin (evOs (.v m :: os) env) P ↔ Fin (m env) fun r e => Fin (evOs os e) fun avs e2 => P (.d r.d :: avs) e2 := by
  have h := @fin_os_v_D
  simp only [fin_eq, finF_eq] at h
  first | exact h | exact h (by assumption) | exact h (by assumption) (by assumption) | exact h _ (by assumption) (by assumption) (by assumption) | exact h _ _ _ _ (by assumption) (by assumption) (by assumption)
@[simp ↓] theorem fin_os_s {i : Nat} {os : List Opd} {P : List AV → DEnv → Prop} : Fin (evOs (.s i :: os) env) P ↔ Fin (ofO env[i]? env) fun _ e => Fin (evOs os e) fun avs e2 => P (.s i :: avs) e2 := by
  have h := @fin_os_s_D
  simp only [fin_eq, finF_eq] at h
  first | exact h | exact h (by assumption) | exact h (by assumption) (by assumption) | exact h _ (by assumption) (by assumption) (by assumption) | exact h _ _ _ _ (by assumption) (by assumption) (by assumption)
@[simp ↓] theorem fin_prim {p : Pr} {os : List Opd} : Fin (dPrim p os env) PE ↔ Fin (evOs os env) fun avs e => Fin (resP (bindO (getAVs e avs) p) e) PE := by
  have h := @fin_prim_D
  simp only [fin_eq, finF_eq] at h
  first | exact h | exact h (by assumption) | exact h (by assumption) (by assumption) | exact h _ (by assumption) (by assumption) (by assumption) | exact h _ _ _ _ (by assumption) (by assumption) (by assumption)
@[simp ↓] theorem fin_tstB {b : Bool} : Fin (tstB ⟨.shr, .bl b⟩ env) PB ↔ PB b env := by
  have h := @fin_tstB_D
  simp only [fin_eq, finF_eq] at h
  first | exact h | exact h (by assumption) | exact h (by assumption) (by assumption) | exact h _ (by assumption) (by assumption) (by assumption) | exact h _ _ _ _ (by assumption) (by assumption) (by assumption)
@[simp ↓] theorem fin_tst {m : DE} : Fin (dTst m env) PB ↔ Fin (m env) fun r e => Fin (tstB r e) PB := by
  have h := @fin_tst_D
  simp only [fin_eq, finF_eq] at h
  first | exact h | exact h (by assumption) | exact h (by assumption) (by assumption) | exact h _ (by assumption) (by assumption) (by assumption) | exact h _ _ _ _ (by assumption) (by assumption) (by assumption)
@[simp ↓] theorem fin_and {a b : DT} : Fin (dAnd a b env) PB ↔ Fin (a env) fun c e => Fin (if c = true then b e else .ok false e) PB := by
  have h := @fin_and_D
  simp only [fin_eq, finF_eq] at h
  first | exact h | exact h (by assumption) | exact h (by assumption) (by assumption) | exact h _ (by assumption) (by assumption) (by assumption) | exact h _ _ _ _ (by assumption) (by assumption) (by assumption)
@[simp ↓] theorem fin_or {a b : DT} : Fin (dOr a b env) PB ↔ Fin (a env) fun c e => Fin (if c = true then .ok true e else b e) PB := by
  have h := @fin_or_D
  simp only [fin_eq, finF_eq] at h
  first | exact h | exact h (by assumption) | exact h (by assumption) (by assumption) | exact h _ (by assumption) (by assumption) (by assumption) | exact h _ _ _ _ (by assumption) (by assumption) (by assumption)
@[simp ↓] theorem fin_not {a : DT} : Fin (dNot a env) PB ↔ Fin (a env) fun c e => PB (!c) e := by
  have h := @fin_not_D
  simp only [fin_eq, finF_eq] at h
  first | exact h | exact h (by assumption) | exact h (by assumption) (by assumption) | exact h _ (by assumption) (by assumption) (by assumption) | exact h _ _ _ _ (by assumption) (by assumption) (by assumption)
@[simp ↓] theorem fin_yes : Fin (dYes env) PB ↔ PB true env := by
  have h := @fin_yes_D
  simp only [fin_eq, finF_eq] at h
  first | exact h | exact h (by assumption) | exact h (by assumption) (by assumption) | exact h _ (by assumption) (by assumption) (by assumption) | exact h _ _ _ _ (by assumption) (by assumption) (by assumption)
@[simp ↓] theorem fin_B {m : DT} : Fin (dB m env) PE ↔ Fin (m env) fun b e => PE ⟨.shr, .bl b⟩ e := by
  have h := @fin_B_D
  simp only [fin_eq, finF_eq] at h
  first | exact h | exact h (by assumption) | exact h (by assumption) (by assumption) | exact h _ (by assumption) (by assumption) (by assumption) | exact h _ _ _ _ (by assumption) (by assumption) (by assumption)
@[simp ↓] theorem fin_andV {a : DT} {b : DE} : Fin (dAndV a b env) PE ↔ Fin (a env) fun c e => Fin (if c = true then b e else .ok ⟨.shr, .bl false⟩ e) PE := by
  have h := @fin_andV_D
  simp only [fin_eq, finF_eq] at h
  first | exact h | exact h (by assumption) | exact h (by assumption) (by assumption) | exact h _ (by assumption) (by assumption) (by assumption) | exact h _ _ _ _ (by assumption) (by assumption) (by assumption)
@[simp ↓] theorem fin_orV {a : DT} {b : DE} : Fin (dOrV a b env) PE ↔ Fin (a env) fun c e => Fin (if c = true then .ok ⟨.shr, .bl true⟩ e else b e) PE := by
  have h := @fin_orV_D
  simp only [fin_eq, finF_eq] at h
  first | exact h | exact h (by assumption) | exact h (by assumption) (by assumption) | exact h _ (by assumption) (by assumption) (by assumption) | exact h _ _ _ _ (by assumption) (by assumption) (by assumption)
@[simp ↓] theorem fin_if {c : DT} {a b : DE} : Fin (dIf c a b env) PE ↔ Fin (c env) fun k e => Fin (if k = true then a e else b e) PE := by
  have h := @fin_if_D
  simp only [fin_eq, finF_eq] at h
  first | exact h | exact h (by assumption) | exact h (by assumption) (by assumption) | exact h _ (by assumption) (by assumption) (by assumption) | exact h _ _ _ _ (by assumption) (by assumption) (by assumption)
@[simp] theorem fin_chainN {p' : Pr} {oc : Opd} {y : D} {k : Bool} : Fin (chainN p' oc (some y) (some (.d (.bl k))) env) PE ↔ Fin (if k = true then dPrim p' [.v (dC y), oc] env else .ok ⟨.shr, .bl false⟩ env) PE := by
  have h := @fin_chainN_D
  simp only [fin_eq, finF_eq] at h
  first | exact h | exact h (by assumption) | exact h (by assumption) (by assumption) | exact h _ (by assumption) (by assumption) (by assumption) | exact h _ _ _ _ (by assumption) (by assumption) (by assumption)
@[simp ↓] theorem fin_chain {p p' : Pr} {oa ob oc : Opd} : Fin (dChain p p' oa ob oc env) PE ↔ Fin (evOs [oa, ob] env) fun avs e => Fin (chainN p' oc (secondV avs) (bindO (getAVs e avs) p) e) PE := by
  have h := @fin_chain_D
  simp only [fin_eq, finF_eq] at h
  first | exact h | exact h (by assumption) | exact h (by assumption) (by assumption) | exact h _ (by assumption) (by assumption) (by assumption) | exact h _ _ _ _ (by assumption) (by assumption) (by assumption)
@[simp ↓] theorem fin_call {f : DFn} {os : List Opd} : Fin (dCall f os env) PE ↔ Fin (evOs os env) fun avs e => Fin (resA (getAVs e avs) e) fun ds e => Fin (afterC e (f (shrs ds))) PE := by
  have h := @fin_call_D
  simp only [fin_eq, finF_eq] at h
  first | exact h | exact h (by assumption) | exact h (by assumption) (by assumption) | exact h _ (by assumption) (by assumption) (by assumption) | exact h _ _ _ _ (by assumption) (by assumption) (by assumption)
@[simp] theorem fin_afterOk {r : Ent} {o : D} : Fin (afterC env (.ok r o)) PE ↔ PE r env := by
  have h := @fin_afterOk_D
  simp only [fin_eq, finF_eq] at h
  first | exact h | exact h (by assumption) | exact h (by assumption) (by assumption) | exact h _ (by assumption) (by assumption) (by assumption) | exact h _ _ _ _ (by assumption) (by assumption) (by assumption)
@[simp] theorem fin_afterROk {r : Ent} {o : D} {i : Nat} : Fin (afterR env i (.ok r o)) PE ↔ PE r (env.set i (some ⟨.own, o⟩)) := by
  have h := @fin_afterROk_D
  simp only [fin_eq, finF_eq] at h
  first | exact h | exact h (by assumption) | exact h (by assumption) (by assumption) | exact h _ (by assumption) (by assumption) (by assumption) | exact h _ _ _ _ (by assumption) (by assumption) (by assumption)
@[simp] theorem fin_ownO {d : D} {P : D → DEnv → Prop} : Fin (ownO (some (some ⟨.own, d⟩)) env) P ↔ P d env := by
  have h := @fin_ownO_D
  simp only [fin_eq, finF_eq] at h
  first | exact h | exact h (by assumption) | exact h (by assumption) (by assumption) | exact h _ (by assumption) (by assumption) (by assumption) | exact h _ _ _ _ (by assumption) (by assumption) (by assumption)
@[simp] theorem fin_ownL {d : List D} : Fin (ownL (some (some ⟨.own, .lst d⟩)) env) PL ↔ PL d env := by
  have h := @fin_ownL_D
  simp only [fin_eq, finF_eq] at h
  first | exact h | exact h (by assumption) | exact h (by assumption) (by assumption) | exact h _ (by assumption) (by assumption) (by assumption) | exact h _ _ _ _ (by assumption) (by assumption) (by assumption)
@[simp ↓] theorem fin_callR {f : DFn} {i : Nat} {os : List Opd} : Fin (dCallR f i os env) PE ↔ Fin (ownO env[i]? env) fun _ e => Fin (evOs os e) fun avs e => Fin (resA (getAVs e avs) e) fun ds e => Fin (ownO e[i]? e) fun d e => Fin (afterR e i (f (⟨.own, d⟩ :: shrs ds))) PE := by
  have h := @fin_callR_D
  simp only [fin_eq, finF_eq] at h
  first | exact h | exact h (by assumption) | exact h (by assumption) (by assumption) | exact h _ (by assumption) (by assumption) (by assumption) | exact h _ _ _ _ (by assumption) (by assumption) (by assumption)
@[simp ↓] theorem fin_mut {op : List D → List D → Option (List D × D)} {i : Nat} {os : List Opd} : Fin (dMut op i os env) PE ↔ Fin (ownL env[i]? env) fun _ e => Fin (evOs os e) fun avs e => Fin (resA (getAVs e avs) e) fun ds e => Fin (ownL e[i]? e) fun xs e => Fin (resA (op xs ds) e) fun y e => PE ⟨.shr, y.2⟩ (e.set i (some ⟨.own, .lst y.1⟩)) := by
  have h := @fin_mut_D
  simp only [fin_eq, finF_eq] at h
  first | exact h | exact h (by assumption) | exact h (by assumption) (by assumption) | exact h _ (by assumption) (by assumption) (by assumption) | exact h _ _ _ _ (by assumption) (by assumption) (by assumption)
@[simp] theorem fin_intO {k : Int} {P : Int → DEnv → Prop} : Fin (intO (some [.int k]) env) P ↔ P k env := by
  have h := @fin_intO_D
  simp only [fin_eq, finF_eq] at h
  first | exact h | exact h (by assumption) | exact h (by assumption) (by assumption) | exact h _ (by assumption) (by assumption) (by assumption) | exact h _ _ _ _ (by assumption) (by assumption) (by assumption)
@[simp ↓] theorem fin_setIx {i : Nat} {os : List Opd} {m : DE} : Fin (dSetIx i os m env) PF ↔ Fin (m env) fun r e => Fin (ownL e[i]? e) fun _ e => Fin (evOs os e) fun avs e => Fin (intO (getAVs e avs) e) fun k e => Fin (ownL e[i]? e) fun xs e => Fin (resA (ixN xs.length k) e) fun j e => PF .nx (e.set i (some ⟨.own, .lst (xs.set j r.d)⟩)) := by
  have h := @fin_setIx_D
  simp only [fin_eq, finF_eq] at h
  first | exact h | exact h (by assumption) | exact h (by assumption) (by assumption) | exact h _ (by assumption) (by assumption) (by assumption) | exact h _ _ _ _ (by assumption) (by assumption) (by assumption)
@[simp ↓] theorem fin_intB {b : Int} {P : Option Int → DEnv → Prop} : Fin (intB ⟨.shr, .int b⟩ env) P ↔ P (some b) env := by
  have h := @fin_intB_D
  simp only [fin_eq, finF_eq] at h
  first | exact h | exact h (by assumption) | exact h (by assumption) (by assumption) | exact h _ (by assumption) (by assumption) (by assumption) | exact h _ _ _ _ (by assumption) (by assumption) (by assumption)
@[simp ↓] theorem fin_partN {P : Option Int → DEnv → Prop} : Fin (dPart none env) P ↔ P none env := by
  have h := @fin_partN_D
  simp only [fin_eq, finF_eq] at h
  first | exact h | exact h (by assumption) | exact h (by assumption) (by assumption) | exact h _ (by assumption) (by assumption) (by assumption) | exact h _ _ _ _ (by assumption) (by assumption) (by assumption)
@[simp ↓] theorem fin_partS {m : DE} {P : Option Int → DEnv → Prop} : Fin (dPart (some m) env) P ↔ Fin (m env) fun r e => Fin (intB r e) P := by
  have h := @fin_partS_D
  simp only [fin_eq, finF_eq] at h
  first | exact h | exact h (by assumption) | exact h (by assumption) (by assumption) | exact h _ (by assumption) (by assumption) (by assumption) | exact h _ _ _ _ (by assumption) (by assumption) (by assumption)
@[simp] theorem fin_oneO {d : D} {P : D → DEnv → Prop} : Fin (oneO (some [d]) env) P ↔ P d env := by
  have h := @fin_oneO_D
  simp only [fin_eq, finF_eq] at h
  first | exact h | exact h (by assumption) | exact h (by assumption) (by assumption) | exact h _ (by assumption) (by assumption) (by assumption) | exact h _ _ _ _ (by assumption) (by assumption) (by assumption)
@[simp ↓] theorem fin_slice {p : Ps} {o : Opd} {lo hi : Option DE} : Fin (dSlice p o lo hi env) PE ↔ Fin (evOs [o] env) fun avs e => Fin (dPart lo e) fun l e => Fin (dPart hi e) fun u e => Fin (oneO (getAVs e avs) e) fun d e => Fin (resP (p d l u) e) PE := by
  have h := @fin_slice_D
  simp only [fin_eq, finF_eq] at h
  first | exact h | exact h (by assumption) | exact h (by assumption) (by assumption) | exact h _ (by assumption) (by assumption) (by assumption) | exact h _ _ _ _ (by assumption) (by assumption) (by assumption)
@[simp ↓] theorem fin_forI {it : DI} {g : DG} {body : DS} : Fin (dForI it g body env) PF ↔ Fin (it env) fun xs e => Fin (dFor g body xs e) PF := by
  have h := @fin_forI_D
  simp only [fin_eq, finF_eq] at h
  first | exact h | exact h (by assumption) | exact h (by assumption) (by assumption) | exact h _ (by assumption) (by assumption) (by assumption) | exact h _ _ _ _ (by assumption) (by assumption) (by assumption)
@[simp ↓] theorem fin_iArgs {p : List D → Option (List D)} {os : List Opd} : Fin (iArgs p os env) PL ↔ Fin (evOs os env) fun avs e => Fin (resA (bindO (getAVs e avs) p) e) PL := by
  have h := @fin_iArgs_D
  simp only [fin_eq, finF_eq] at h
  first | exact h | exact h (by assumption) | exact h (by assumption) (by assumption) | exact h _ (by assumption) (by assumption) (by assumption) | exact h _ _ _ _ (by assumption) (by assumption) (by assumption)
@[simp ↓] theorem fin_iSeq {m : DE} : Fin (iSeq m env) PL ↔ Fin (m env) fun r e => Fin (resA (dSeqOf r.d) e) PL := by
  have h := @fin_iSeq_D
  simp only [fin_eq, finF_eq] at h
  first | exact h | exact h (by assumption) | exact h (by assumption) (by assumption) | exact h _ (by assumption) (by assumption) (by assumption) | exact h _ _ _ _ (by assumption) (by assumption) (by assumption)
end
theorem finF_congr {r r' : FR} {P : Ent → D → Prop} (h : r = r') : FinF r P = FinF r' P := by
  have h := @finF_congr_D
  simp only [fin_eq, finF_eq] at h
  first | exact h | exact h (by assumption) | exact h (by assumption) (by assumption) | exact h _ (by assumption) (by assumption) (by assumption) | exact h _ _ _ _ (by assumption) (by assumption) (by assumption)
@[simp] theorem finF_ok {a : Ent} {o : D} {P : Ent → D → Prop} : FinF (.ok a o) P ↔ P a o := by
  have h := @finF_ok_D
  simp only [fin_eq, finF_eq] at h
  first | exact h | exact h (by assumption) | exact h (by assumption) (by assumption) | exact h _ (by assumption) (by assumption) (by assumption) | exact h _ _ _ _ (by assumption) (by assumption) (by assumption)
theorem finF_iff {r : FR} {P : Ent → D → Prop} : FinF r P ↔ ∃ a o, r = .ok a o ∧ P a o := by
  have h := @finF_iff_D
  simp only [fin_eq, finF_eq] at h
  first | exact h | exact h (by assumption) | exact h (by assumption) (by assumption) | exact h _ (by assumption) (by assumption) (by assumption) | exact h _ _ _ _ (by assumption) (by assumption) (by assumption)
theorem finF_def {br : Bool} {n ns : Nat} {body : DS} {args : List Ent} {P : Ent → D → Prop} (hn : args.length = n) (h : Fin (body (args.map some ++ List.replicate (ns - n) none)) (EndS br P)) : FinF (dDef br n ns body args) P := by
  have h := @finF_def_D
  simp only [fin_eq, finF_eq] at h
  first | exact h | exact h (by assumption) | exact h (by assumption) (by assumption) | exact h _ (by assumption) (by assumption) (by assumption) | exact h _ _ _ _ (by assumption) (by assumption) (by assumption)
theorem def_eq {n ns : Nat} {body : DS} {args : List Ent} {r : Ent} (hn : args.length = n) (h : Fin (body (args.map some ++ List.replicate (ns - n) none)) fun fl _ => fl = .ret r ∨ (fl = .nx ∧ r = ⟨.shr, .non⟩)) : dDef false n ns body args = .ok r .non := by
  have h := @def_eq_D
  simp only [fin_eq, finF_eq] at h
  first | exact h | exact h (by assumption) | exact h (by assumption) (by assumption) | exact h _ (by assumption) (by assumption) (by assumption) | exact h _ _ _ _ (by assumption) (by assumption) (by assumption)
theorem fin_after {env : DEnv} {r : FR} {P : Ent → DEnv → Prop} : FinF r (fun a _ => P a env) → Fin (afterC env r) P := by
  have h := @fin_after_D
  simp only [fin_eq, finF_eq] at h
  first | exact h | exact h (by assumption) | exact h (by assumption) (by assumption) | exact h _ (by assumption) (by assumption) (by assumption) | exact h _ _ _ _ (by assumption) (by assumption) (by assumption)
theorem fin_afterR {env : DEnv} {i : Nat} {r : FR} {P : Ent → DEnv → Prop} : FinF r (fun a o => P a (env.set i (some ⟨.own, o⟩))) → Fin (afterR env i r) P := by
  have h := @fin_afterR_D
  simp only [fin_eq, finF_eq] at h
  first | exact h | exact h (by assumption) | exact h (by assumption) (by assumption) | exact h _ (by assumption) (by assumption) (by assumption) | exact h _ _ _ _ (by assumption) (by assumption) (by assumption)
theorem fin_for_from {g : DG} {body : DS} {P : Fl → DEnv → Prop} (I : Nat → DEnv → Prop) : ∀ (xs : List D) (k : Nat) (env : DEnv), I k env →
    (∀ j x env, xs[j]? = some x → I (k + j) env → ∃ env1, g x env = some env1 ∧ Fin (body env1) fun fl e => Goes fl ∧ I (k + j + 1) e) →
    (∀ env, I (k + xs.length) env → P .nx env) → Fin (dFor g body xs env) P := by
  have h := @fin_for_from_D
  simp only [fin_eq, finF_eq] at h
  first | exact h | exact h (by assumption) | exact h (by assumption) (by assumption) | exact h _ (by assumption) (by assumption) (by assumption) | exact h _ _ _ _ (by assumption) (by assumption) (by assumption)
theorem fin_for {g : DG} {body : DS} {P : Fl → DEnv → Prop} {xs : List D} {env : DEnv} (I : Nat → DEnv → Prop) (h0 : I 0 env)
    (step : ∀ j x env, xs[j]? = some x → I j env → ∃ env1, g x env = some env1 ∧ Fin (body env1) fun fl e => Goes fl ∧ I (j + 1) e)
    (z : ∀ env, I xs.length env → P .nx env) : Fin (dFor g body xs env) P := by
  have h := @fin_for_D
  simp only [fin_eq, finF_eq] at h
  first | exact h | exact h (by assumption) | exact h (by assumption) (by assumption) | exact h _ (by assumption) (by assumption) (by assumption) | exact h _ _ _ _ (by assumption) (by assumption) (by assumption)
theorem fin_while {c : DT} {body : DS} {P : Fl → DEnv → Prop} (I : Nat → DEnv → Prop)
    (step : ∀ k env, I k env → Fin (c env) fun b e => if b = true then Fin (body e) (fun fl e2 => Goes fl ∧ ∃ k', k' < k ∧ I k' e2) else P .nx e) : ∀ (n k : Nat) (env : DEnv), k < n → I k env → Fin (dWhile c body n env) P := by
  have h := @fin_while_D
  simp only [fin_eq, finF_eq] at h
  first | exact h | exact h (by assumption) | exact h (by assumption) (by assumption) | exact h _ (by assumption) (by assumption) (by assumption) | exact h _ _ _ _ (by assumption) (by assumption) (by assumption)
theorem fin_comp {vs : List Nat} {it : DI} {g : DG} {e : DE} {env env1 : DEnv} {xs : List D} {P : Ent → DEnv → Prop} (hi : Fin (it env) fun ys e => ys = xs ∧ e = env1) (I : DEnv → Prop) (F : D → D) (h0 : I (wipeD env1 vs)) (hl : xs.length ≤ sizeLine)
    (step : ∀ x ∈ xs, ∀ env, I env → ∃ env1, g x env = some env1 ∧ Fin (e env1) fun r env2 => r.d = F x ∧ I (wipeD env2 vs))
    (z : ∀ env', I env' → P ⟨.own, .lst (xs.map F)⟩ (backD env1 env' vs)) : Fin (dComp vs it g dYes e env) P := by
  have h := @fin_comp_D
  simp only [fin_eq, finF_eq] at h
  exact h hi I F h0 hl step z

/-! ### positions -/
theorem atI_nat {α : Type} (xs : List α) (n : Nat) : atI xs (n : Int) = xs[n]? := by
  unfold atI ixN
  rw [if_pos (by omega)]
  by_cases h : n < xs.length
  · rw [if_pos (by omega)]
    simp
  · rw [if_neg (by omega)]
    simp at h
    simp [h]
theorem atI_last {α : Type} (xs : List α) (a : α) : atI (xs ++ [a]) (-1) = some a := by
  unfold atI ixN
  rw [if_neg (by omega), if_pos (by rw [List.length_append, List.length_singleton]; omega)]
  rw [List.length_append, List.length_singleton, Option.bind_some, show ((-1 : Int) + ((xs.length + 1 : Nat) : Int)).toNat = xs.length by omega]
  simp
@[simp] theorem atI_0 {α : Type} (xs : List α) : atI xs 0 = xs[0]? := atI_nat xs 0
@[simp] theorem atI_1 {α : Type} (xs : List α) : atI xs 1 = xs[1]? := atI_nat xs 1
@[simp] theorem atI_2 {α : Type} (xs : List α) : atI xs 2 = xs[2]? := atI_nat xs 2
@[simp] theorem atI_3 {α : Type} (xs : List α) : atI xs 3 = xs[3]? := atI_nat xs 3
theorem ixN_nat {n k : Nat} (h : k < n) : ixN n (k : Int) = some k := by
  unfold ixN
  rw [if_pos (by omega), if_pos (by omega)]
  simp
theorem ixN_0 {n : Nat} (h : 0 < n) : ixN n 0 = some 0 := ixN_nat h
theorem ixN_1 {n : Nat} (h : 1 < n) : ixN n 1 = some 1 := ixN_nat h
theorem ixN_2 {n : Nat} (h : 2 < n) : ixN n 2 = some 2 := ixN_nat h

/-! ### numbers in a row -/
def dNats (ns : List Nat) : List D := ns.map fun n => .int (n : Nat)
theorem mem_rngD {lo : Int} : ∀ {n : Nat} {d : D}, d ∈ rngD lo n → ∃ k : Int, d = .int k ∧ lo ≤ k ∧ k < lo + n
  | n + 1, d, h => by
    rcases List.mem_cons.mp h with rfl | h
    · exact ⟨lo, rfl, by omega, by omega⟩
    · obtain ⟨k, rfl, h1, h2⟩ := mem_rngD h
      exact ⟨k, rfl, by omega, by omega⟩

/-! ### values told equal, shown -/
theorem plains_nats : ∀ ns : List Nat, plains (dNats ns) = true
  | [] => by simp only [dNats, List.map_nil, plains]
  | n :: ns => by
    have := plains_nats ns
    simp only [dNats, List.map_cons, plains, plain, Bool.true_and] at *
    exact this
theorem toPs_nats : ∀ ns : List Nat, toPs (dNats ns) = ns.map fun n => PyData.int (n : Nat)
  | [] => by simp only [dNats, List.map_nil, toPs]
  | n :: ns => by
    have := toPs_nats ns
    simp only [dNats, List.map_cons, toPs, toP] at *
    rw [this]
theorem shaped_nats (ns : List Nat) : SeqAt.shaped (.tuple (ns.map fun n => PyData.int (n : Nat))) = true := by
  have h1 : ∀ ms : List Nat, PyData.canLayAll0 (ms.map fun n => PyData.int (n : Nat)) = true := fun ms => by
    induction ms with
    | nil => simp only [List.map_nil, PyData.canLayAll0]
    | cons m ms ih => simp only [List.map_cons, PyData.canLayAll0, PyData.canLay0, ih, Bool.and_self]
  have h2 : ∀ ms : List Nat, PyData.depthAll (ms.map fun n => PyData.int (n : Nat)) = 0 := fun ms => by
    induction ms with
    | nil => simp only [List.map_nil, PyData.depthAll]
    | cons m ms ih => simp only [List.map_cons, PyData.depthAll, PyData.depth, ih, Nat.max_self]
  simp only [SeqAt.shaped, PyData.canLay0, PyData.depth, h1, h2, Bool.true_and]
  decide
theorem okD_nats (ns : List Nat) : okD (.tup (dNats ns)) = true := by
  simp only [okD, plain, toP, plains_nats, toPs_nats, shaped_nats, Bool.and_self]
@[simp] theorem okD_int (i : Int) : okD (.int i) = true := by
  simp only [okD, plain, toP, SeqAt.shaped, PyData.canLay0, PyData.depth, Bool.true_and]
  decide
@[simp] theorem okD_bl (b : Bool) : okD (.bl b) = true := by
  simp only [okD, plain, toP, SeqAt.shaped, PyData.canLay0, PyData.depth, Bool.true_and]
  decide
@[simp] theorem okD_non : okD .non = true := by
  simp only [okD, plain, toP, SeqAt.shaped, PyData.canLay0, PyData.depth, Bool.true_and]
  decide
theorem strOk_of (s : String) : PyData.strOk (Str.ofString s) = true := by
  rw [Str.ofString_eq_toList]
  unfold PyData.strOk
  rw [Array.all_eq_true_iff_forall_mem]
  intro c hc
  simp only [List.mem_toArray, List.mem_map] at hc
  obtain ⟨ch, _, rfl⟩ := hc
  have h := ch.valid
  simp only [decide_eq_true_eq]
  have : ch.toNat < 0x110000 := by
    rcases h with h | ⟨_, h⟩
    · exact Nat.lt_trans h (by decide)
    · exact h
  exact this
theorem strOk_append {x y : Str} (h1 : PyData.strOk x = true) (h2 : PyData.strOk y = true) : PyData.strOk (x ++ y) = true := by
  show Array.all (x.cps ++ y.cps) _ = true
  rw [Array.all_append]
  exact Bool.and_eq_true_iff.mpr ⟨h1, h2⟩
theorem strOk_join {s : Str} (hs : PyData.strOk s = true) : ∀ ts : List Str, (∀ t ∈ ts, PyData.strOk t = true) → PyData.strOk (Str.join s ts) = true
  | [], _ => strOk_of ""
  | [x], h => h x (List.mem_cons_self ..)
  | x :: y :: r, h => strOk_append (strOk_append (h x (List.mem_cons_self ..)) hs) (strOk_join hs (y :: r) fun t ht => h t (List.mem_cons_of_mem _ ht))
theorem strOk_textFrom : ∀ (ts : List Str) (k : Nat) (acc : Str), PyData.strOk acc = true → (∀ t ∈ ts, PyData.strOk t = true) → PyData.strOk (textFrom k acc ts) = true
  | [], _, acc, h, _ => h
  | t :: ts, k, acc, h, ht => strOk_textFrom ts (k + 1) _ (strOk_append (strOk_append h (strOk_of _)) (ht t (List.mem_cons_self ..))) fun y hy => ht y (List.mem_cons_of_mem _ hy)
theorem strOk_listText {ts : List Str} (h : ∀ t ∈ ts, PyData.strOk t = true) : PyData.strOk (listText ts) = true := strOk_append (strOk_textFrom ts 0 _ (strOk_of _) h) (strOk_of _)
theorem strOk_tupleText {ts : List Str} (h : ∀ t ∈ ts, PyData.strOk t = true) : PyData.strOk (tupleText ts) = true := strOk_append (strOk_append (strOk_of _) (strOk_join (strOk_of _) ts h)) (strOk_of _)
mutual
/-- no strings in it -/
def noStr : PyData → Bool
  | .str _ => false
  | .list xs => noStrs xs
  | .tuple xs => noStrs xs
  | .dict _ => false
  | _ => true
def noStrs : List PyData → Bool
  | [] => true
  | x :: xs => noStr x && noStrs xs
end
mutual
theorem strOk_shown : ∀ d : PyData, noStr d = true → PyData.strOk d.shown = true
  | .none, _ => strOk_of _
  | .bool b, _ => by cases b <;> exact strOk_of _
  | .int i, _ => strOk_of _
  | .str x, h => by simp [noStr] at h
  | .list xs, h => strOk_listText (strOk_shownAll xs (by simpa [noStr] using h))
  | .tuple xs, h => strOk_tupleText (strOk_shownAll xs (by simpa [noStr] using h))
  | .dict _, h => by simp [noStr] at h
theorem strOk_shownAll : ∀ xs : List PyData, noStrs xs = true → ∀ t ∈ PyData.shownAll xs, PyData.strOk t = true
  | [], _ => fun t h => by simp [PyData.shownAll] at h
  | x :: xs, h => fun t ht => by
    simp only [noStrs, Bool.and_eq_true] at h
    simp only [PyData.shownAll, List.mem_cons] at ht
    rcases ht with rfl | ht
    · exact strOk_shown x h.1
    · exact strOk_shownAll xs h.2 t ht
end
theorem okD_str {x : Str} (h : PyData.strOk x = true) : okD (.str x) = true := by
  simp only [okD, plain, toP, SeqAt.shaped, PyData.canLay0, PyData.depth, Bool.true_and, h]
  decide
theorem noStrs_nats : ∀ ns : List Nat, noStrs (ns.map fun n => PyData.int (n : Nat)) = true
  | [] => rfl
  | n :: ns => by simp only [List.map_cons, noStrs, noStr, noStrs_nats ns, Bool.and_self]
theorem okS_nats (ns : List Nat) : okD (.str (toP (.tup (dNats ns))).shown) = true := okD_str (strOk_shown _ (by simp only [toP, toPs_nats, noStr]; exact noStrs_nats ns))
theorem okS_int (i : Int) : okD (.str (toP (.int i)).shown) = true := okD_str (strOk_shown _ rfl)
theorem okS_bl (i : Bool) : okD (.str (toP (.bl i)).shown) = true := okD_str (strOk_shown _ rfl)
theorem okS_non : okD (.str (toP .non).shown) = true := okD_str (strOk_shown _ rfl)
mutual
theorem eqv_self : ∀ d : PyData, PyData.hasDict d = false → PyData.eqv d d = true
  | .none, _ => by simp only [PyData.eqv]
  | .bool _, _ => by simp only [PyData.eqv, beq_self_eq_true]
  | .int _, _ => by simp only [PyData.eqv, beq_self_eq_true]
  | .str x, _ => by simp [PyData.eqv]
  | .list xs, h => by simp only [PyData.eqv]; exact eqvAll_self xs (by simpa only [PyData.hasDict] using h)
  | .tuple xs, h => by simp only [PyData.eqv]; exact eqvAll_self xs (by simpa only [PyData.hasDict] using h)
  | .dict _, h => by simp only [PyData.hasDict] at h; cases h
theorem eqvAll_self : ∀ xs : List PyData, PyData.hasDictAll xs = false → PyData.eqvAll xs xs = true
  | [], _ => by simp only [PyData.eqvAll]
  | x :: xs, h => by
    simp only [PyData.hasDictAll, Bool.or_eq_false_iff] at h
    simp only [PyData.eqvAll, eqv_self x h.1, eqvAll_self xs h.2, Bool.and_self]
end
theorem deq_self {d : D} (h : okD d = true) : deq d d = true := by
  simp only [okD, Bool.and_eq_true] at h
  exact eqv_self _ (PyData.hasDict_of_canLay _ (SeqAt.canLay_of_shaped h.2))
/-- a number of at most twelve digits -/
def twelve (n : Nat) : Prop := n ≤ 999999999999
theorem log_small {n : Nat} (h : twelve n) : n.log2 < 1920 := by
  unfold twelve at h
  by_cases h0 : n = 0
  · subst h0; decide
  · exact (Nat.log2_lt h0).mpr (Nat.lt_of_le_of_lt h (by decide))
theorem showAll_nats (ns : List Nat) (h : ∀ n ∈ ns, twelve n) : PyData.showableAll (ns.map fun n => PyData.int (n : Nat)) = true := by
  induction ns with
  | nil => simp only [List.map_nil, PyData.showableAll]
  | cons n ns ih =>
    simp only [List.map_cons, PyData.showableAll, ih fun m hm => h m (List.mem_cons_of_mem _ hm), PyData.showable, Bool.and_true, decide_eq_true_eq, Int.natAbs_natCast]
    exact log_small (h n (List.mem_cons_self ..))
theorem okR_nats {ns : List Nat} (h : ∀ n ∈ ns, twelve n) (hl : ns.length ≤ 4096) : okR (.tup (dNats ns)) = true := by
  have k := okD_nats ns
  simp only [okD, Bool.and_eq_true] at k
  simp only [okR, k, Bool.true_and, Bool.and_eq_true, decide_eq_true_eq]
  refine ⟨by simp only [toP, toPs_nats, PyData.showable]; exact showAll_nats ns h, ?_⟩
  simp only [toP, toPs_nats, PyData.shown]
  refine Nat.le_trans (tupleText_len_le _) ?_
  have e : ∀ ms : List Nat, (∀ n ∈ ms, twelve n) → ((PyData.shownAll (ms.map fun n => PyData.int (n : Nat))).map (·.length)).sum ≤ 13 * ms.length ∧ (PyData.shownAll (ms.map fun n => PyData.int (n : Nat))).length = ms.length := fun ms hm => by
    induction ms with
    | nil => simp [PyData.shownAll]
    | cons m ms ih =>
      obtain ⟨i1, i2⟩ := ih fun x hx => hm x (List.mem_cons_of_mem _ hx)
      have q := hm m (List.mem_cons_self ..)
      unfold twelve at q
      have b := PyData.shown_int_le2 (i := (m : Int)) (by omega) (by omega)
      simp only [List.map_cons, PyData.shownAll, List.sum_cons, List.length_cons]
      omega
  obtain ⟨e1, e2⟩ := e ns h
  rw [e2, sizeLine_eq]
  omega
theorem okR_nat {n : Nat} (h : twelve n) : okR (.int n) = true := by
  have k := okD_int (n : Nat)
  simp only [okD, Bool.and_eq_true] at k
  simp only [okR, k, Bool.true_and, Bool.and_eq_true, decide_eq_true_eq]
  refine ⟨by simp only [toP, PyData.showable, Int.natAbs_natCast, decide_eq_true_eq]; exact log_small h, ?_⟩
  unfold twelve at h
  have b := PyData.shown_int_le2 (i := (n : Int)) (by omega) (by omega)
  simp only [toP]
  rw [sizeLine_eq]
  omega
theorem okR_bl (b : Bool) : okR (.bl b) = true := by
  have k := okD_bl b
  simp only [okD, Bool.and_eq_true] at k
  simp only [okR, k, Bool.true_and, Bool.and_eq_true, decide_eq_true_eq]
  cases b <;> exact ⟨by simp only [toP, PyData.showable], by simp only [toP]; rw [sizeLine_eq]; decide⟩
theorem okR_non : okR .non = true := by
  have k := okD_non
  simp only [okD, Bool.and_eq_true] at k
  simp only [okR, k, Bool.true_and, Bool.and_eq_true, decide_eq_true_eq]
  exact ⟨by simp only [toP, PyData.showable], by simp only [toP]; rw [sizeLine_eq]; decide⟩
theorem sm62 {i : Int} (h0 : -1000000 ≤ i) (h1 : i ≤ 1000000) : small62 i = true := by
  simp only [small62, Bool.and_eq_true, decide_eq_true_eq]
  omega
theorem rng2_eq {i j : Int} (h1 : small62 i = true) (h2 : small62 j = true) : rng2 [.int i, .int j] = some (rngD i (j - i).toNat) := by
  simp only [rng2]
  rw [if_pos h1, if_pos h2]
theorem rng1_eq {j : Int} (h2 : small62 j = true) : rng1 [.int j] = some (rngD 0 j.toNat) := by
  simp only [rng1]
  rw [if_pos h2]
end DL
/-! DM2: reckoning with the new pieces; loops that end early; comprehensions over mapped lists. -/
namespace DL
open PySem PySem.Spec PyProof.Rows L2
section
variable (a b : Int) (xs ys : List D) (d e : D)
@[simp] theorem p_abs : pAbs [.int a] = some (.d (.int (if a < 0 then -a else a))) := id rfl
@[simp] theorem p_band : pBand [.int a, .int b] = some (.d (.int (Builtin.bitAnd a b))) := id rfl
@[simp] theorem p_rg2 : pRg2 [.int a, .int b] = some (.d (.rng a b)) := id rfl
@[simp] theorem p_lstRg1 : pLstRg1 [.int a] = if rgOk 0 a = true then some (.nl (rngD 0 a.toNat)) else none := id rfl
@[simp] theorem p_cnt : pCnt xs [d] = if (okD (.tup xs) && okD d) = true then some (.int (xs.countP fun y => deq y d : Nat)) else none := id rfl
@[simp] theorem isNonD_pr : isNonD (.pr d e) = false := id rfl
@[simp] theorem gs_nilE (env : DEnv) : gsNil [] env = some env := id rfl
@[simp] theorem gs_consE (g : DG) (h : List D → DEnv → Option DEnv) (env : DEnv) : gsCons g h (d :: xs) env = (g d env).bind (h xs) := id rfl
@[simp] theorem g_pr (m : List D → DEnv → Option DEnv) (env : DEnv) : gTupD 2 m (.pr d e) env = m [d, e] env := id rfl
theorem g_tupE (n : Nat) (m : List D → DEnv → Option DEnv) (env : DEnv) (h : xs.length = n) : gTupD n m (.tup xs) env = m xs env := by
  simp only [gTupD, if_pos h]
@[simp] theorem g_tup2 (m : List D → DEnv → Option DEnv) (env : DEnv) : gTupD 2 m (.tup [d, e]) env = m [d, e] env := id rfl
@[simp] theorem g_tup3 (f : D) (m : List D → DEnv → Option DEnv) (env : DEnv) : gTupD 3 m (.tup [d, e, f]) env = m [d, e, f] env := id rfl
@[simp] theorem g_setE (i : Nat) (env : DEnv) : gSet i d env = some (env.set i (some ⟨.shr, d⟩)) := id rfl
end
def tupOfO (o : Option (Option Ent)) (env : DEnv) : R (List D) := match o with
  | some (some (Ent.mk Md.shr (.tup d))) => .ok d env
  | _ => .bad
def intOfO (o : Option (Option Ent)) (env : DEnv) : R Int := match o with
  | some (some (Ent.mk Md.shr (.int d))) => .ok d env
  | _ => .bad
def intOfE (r : Ent) (env : DEnv) : R Int := match r with
  | ⟨.shr, .int b⟩ => .ok b env
  | _ => .bad
def intOfD (o : Option D) (env : DEnv) : R Int := match o with
  | some (.int d) => .ok d env
  | _ => .bad
def lstOfD (o : D) (env : DEnv) : R (List D) := match o with
  | .lst d => .ok d env
  | _ => .bad
def rngOfD (o : D) (env : DEnv) : R (Int × Int) := match o with
  | .rng lo hi => .ok (lo, hi) env
  | _ => .bad
section
variable {env : DEnv} {PF : Fl → DEnv → Prop} {PE : Ent → DEnv → Prop} {PL : List D → DEnv → Prop} {PI : Int → DEnv → Prop}
theorem fin_tupOfO_D {d : List D} : FinD (tupOfO (some (some ⟨.shr, .tup d⟩)) env) PL ↔ PL d env := ⟨id, id⟩
theorem fin_intOfO_D {d : Int} : FinD (intOfO (some (some ⟨.shr, .int d⟩)) env) PI ↔ PI d env := ⟨id, id⟩
theorem fin_intOfE_D {d : Int} : FinD (intOfE ⟨.shr, .int d⟩ env) PI ↔ PI d env := ⟨id, id⟩
theorem fin_intOfD_D {d : Int} : FinD (intOfD (some (.int d)) env) PI ↔ PI d env := ⟨id, id⟩
theorem fin_lstOfD_D {d : List D} : FinD (lstOfD (.lst d) env) PL ↔ PL d env := ⟨id, id⟩
theorem fin_rngOfD_D {lo hi : Int} {P : Int × Int → DEnv → Prop} : FinD (rngOfD (.rng lo hi) env) P ↔ P (lo, hi) env := ⟨id, id⟩
theorem augP_eq {i : Nat} {f : Int → Int → Option Int} {m : DE} : dAugP i f m env = (intOfO env[i]? env).bind fun a e => (m e).bind fun r e => (intOfE r e).bind fun b e => (resA (f a b) e).bind fun c e => .ok .nx (e.set i (some ⟨.shr, .int c⟩)) := by
  unfold dAugP intOfO
  rcases env[i]? with _ | (_ | ⟨md, d⟩)
  · rfl
  · rfl
  · cases md with
    | shr =>
      cases d with
      | int a =>
        simp only [bind_ok]
        congr 1
        funext r e
        obtain ⟨md, d⟩ := r
        cases md with
        | shr =>
          cases d with
          | int b =>
            show (match f a b with
              | some c => R.ok Fl.nx (e.set i (some ⟨.shr, .int c⟩))
              | none => R.bad) = (resA (f a b) e).bind fun c e => R.ok Fl.nx (e.set i (some ⟨.shr, .int c⟩))
            generalize f a b = o
            cases o <;> rfl
          | _ => rfl
        | _ => rfl
      | _ => rfl
    | _ => rfl
theorem aug_eq {i : Nat} {f : Int → Int → Int} {m : DE} : dAug i f m env = (intOfO env[i]? env).bind fun a e => (m e).bind fun r e => (intOfE r e).bind fun b e => .ok .nx (e.set i (some ⟨.shr, .int (f a b)⟩)) := by
  unfold dAug intOfO
  rcases env[i]? with _ | (_ | ⟨md, d⟩)
  · rfl
  · rfl
  · cases md with
    | shr =>
      cases d with
      | int a =>
        simp only [bind_ok]
        congr 1
        funext r e
        obtain ⟨md, d⟩ := r
        cases md with
        | shr => cases d <;> rfl
        | _ => rfl
      | _ => rfl
    | _ => rfl
theorem augL_eq {i : Nat} {m : DE} : dAugL i m env = (ownL env[i]? env).bind fun _ e => (m e).bind fun r e => (lstOfD r.d e).bind fun ys e => (ownL e[i]? e).bind fun xs e => if xs.length + ys.length ≤ sizeLine then .ok .nx (e.set i (some ⟨.own, .lst (xs ++ ys)⟩)) else .bad := by
  unfold dAugL ownL
  rcases env[i]? with _ | (_ | ⟨md, d⟩)
  · rfl
  · rfl
  · cases md with
    | own =>
      cases d with
      | lst l0 =>
        simp only [bind_ok]
        congr 1
        funext r e
        obtain ⟨md2, d2⟩ := r
        cases d2 with
        | lst ys =>
          show _ = R.bind (match e[i]? with
            | some (some (Ent.mk Md.own (.lst d))) => .ok d e
            | _ => .bad) _
          rcases e[i]? with _ | (_ | ⟨md3, d3⟩)
          · rfl
          · rfl
          · cases md3 with
            | own => cases d3 <;> rfl
            | _ => rfl
        | _ => rfl
      | _ => rfl
    | _ => rfl
theorem augIx_eq {i : Nat} {k n : Int} : dAugIx i k n env = (ownL env[i]? env).bind fun xs e => (resA (ixN xs.length k) e).bind fun j e => (intOfD xs[j]? e).bind fun a e => .ok .nx (e.set i (some ⟨.own, .lst (xs.set j (.int (a + n)))⟩)) := by
  unfold dAugIx ownL
  rcases env[i]? with _ | (_ | ⟨md, d⟩)
  · rfl
  · rfl
  · cases md with
    | own =>
      cases d with
      | lst l0 =>
        simp only [bind_ok]
        unfold resA
        cases ixN l0.length k with
        | none => rfl
        | some j =>
          simp only [bind_ok]
          unfold intOfD
          rcases l0[j]? with _ | d
          · rfl
          · cases d <;> rfl
      | _ => rfl
    | _ => rfl
theorem count_eq {i : Nat} {os : List Opd} : dCount i os env = (tupOfO env[i]? env).bind fun xs e => (evOs os e).bind fun avs e => (resA (getAVs e avs) e).bind fun ds e => (resA (pCnt xs ds) e).bind fun d e => .ok ⟨.shr, d⟩ e := by
  unfold dCount tupOfO
  rcases env[i]? with _ | (_ | ⟨md, d⟩)
  · rfl
  · rfl
  · cases md with
    | shr =>
      cases d with
      | tup xs =>
        simp only [bind_ok]
        congr 1
        funext avs e
        unfold resA
        cases getAVs e avs with
        | none => rfl
        | some ds =>
          simp only [bind_ok]
          cases pCnt xs ds <;> rfl
      | _ => rfl
    | _ => rfl
theorem iRng_eq {m : DE} : iRng m env = (m env).bind fun r e => (rngOfD r.d e).bind fun p e => if small62 p.1 = true then (if small62 p.2 = true then .ok (rngD p.1 (p.2 - p.1).toNat) e else .bad) else .bad := by
  unfold iRng
  congr 1
  funext r e
  obtain ⟨md, d⟩ := r
  cases d <;> rfl
@[simp] theorem fin_tupOfO {d : List D} : Fin (tupOfO (some (some ⟨.shr, .tup d⟩)) env) PL ↔ PL d env := by
  have h := @fin_tupOfO_D
  simp only [fin_eq] at h
  exact h
@[simp] theorem fin_intOfO {d : Int} : Fin (intOfO (some (some ⟨.shr, .int d⟩)) env) PI ↔ PI d env := by
  have h := @fin_intOfO_D
  simp only [fin_eq] at h
  exact h
@[simp] theorem fin_intOfE {d : Int} : Fin (intOfE ⟨.shr, .int d⟩ env) PI ↔ PI d env := by
  have h := @fin_intOfE_D
  simp only [fin_eq] at h
  exact h
@[simp] theorem fin_intOfD {d : Int} : Fin (intOfD (some (.int d)) env) PI ↔ PI d env := by
  have h := @fin_intOfD_D
  simp only [fin_eq] at h
  exact h
@[simp] theorem fin_lstOfD {d : List D} : Fin (lstOfD (.lst d) env) PL ↔ PL d env := by
  have h := @fin_lstOfD_D
  simp only [fin_eq] at h
  exact h
@[simp] theorem fin_rngOfD {lo hi : Int} {P : Int × Int → DEnv → Prop} : Fin (rngOfD (.rng lo hi) env) P ↔ P (lo, hi) env := by
  have h := @fin_rngOfD_D
  simp only [fin_eq] at h
  exact h
@[simp ↓] theorem fin_augP {i : Nat} {f : Int → Int → Option Int} {m : DE} : Fin (dAugP i f m env) PF ↔ Fin (intOfO env[i]? env) fun a e => Fin (m e) fun r e => Fin (intOfE r e) fun b e => Fin (resA (f a b) e) fun c e => PF .nx (e.set i (some ⟨.shr, .int c⟩)) := by
  rw [augP_eq]; simp only [fin_bind, fin_ok]
@[simp ↓] theorem fin_aug {i : Nat} {f : Int → Int → Int} {m : DE} : Fin (dAug i f m env) PF ↔ Fin (intOfO env[i]? env) fun a e => Fin (m e) fun r e => Fin (intOfE r e) fun b e => PF .nx (e.set i (some ⟨.shr, .int (f a b)⟩)) := by
  rw [aug_eq]; simp only [fin_bind, fin_ok]
@[simp ↓] theorem fin_augL {i : Nat} {m : DE} : Fin (dAugL i m env) PF ↔ Fin (ownL env[i]? env) fun _ e => Fin (m e) fun r e => Fin (lstOfD r.d e) fun ys e => Fin (ownL e[i]? e) fun xs e => Fin (if xs.length + ys.length ≤ sizeLine then R.ok Fl.nx (e.set i (some ⟨.own, .lst (xs ++ ys)⟩)) else .bad) PF := by
  rw [augL_eq]; simp only [fin_bind]
@[simp ↓] theorem fin_augIx {i : Nat} {k n : Int} : Fin (dAugIx i k n env) PF ↔ Fin (ownL env[i]? env) fun xs e => Fin (resA (ixN xs.length k) e) fun j e => Fin (intOfD xs[j]? e) fun a e => PF .nx (e.set i (some ⟨.own, .lst (xs.set j (.int (a + n)))⟩)) := by
  rw [augIx_eq]; simp only [fin_bind, fin_ok]
@[simp ↓] theorem fin_count {i : Nat} {os : List Opd} : Fin (dCount i os env) PE ↔ Fin (tupOfO env[i]? env) fun xs e => Fin (evOs os e) fun avs e => Fin (resA (getAVs e avs) e) fun ds e => Fin (resA (pCnt xs ds) e) fun d e => PE ⟨.shr, d⟩ e := by
  rw [count_eq]; simp only [fin_bind, fin_ok]
@[simp ↓] theorem fin_iRng {m : DE} : Fin (iRng m env) PL ↔ Fin (m env) fun r e => Fin (rngOfD r.d e) fun p e => Fin (if small62 p.1 = true then (if small62 p.2 = true then R.ok (rngD p.1 (p.2 - p.1).toNat) e else .bad) else .bad) PL := by
  rw [iRng_eq]; simp only [fin_bind]
end
@[simp ↓] theorem fin_asg {g : DG} {m : DE} {env : DEnv} {PF : Fl → DEnv → Prop} : Fin (dAsg g m env) PF ↔ Fin (m env) fun r e => ∃ e2, g r.d e = some e2 ∧ PF .nx e2 := by
  unfold dAsg
  rw [fin_bind]
  have key : ∀ (r : Ent) (e : DEnv), Fin (match g r.d e with
    | some env2 => R.ok Fl.nx env2
    | none => .bad) PF ↔ ∃ e2, g r.d e = some e2 ∧ PF .nx e2 := fun r e => by
    cases g r.d e with
    | none => simp
    | some e2 => simp
  exact ⟨fun h => h.mono fun a e k => (key a e).mp k, fun h => h.mono fun a e k => (key a e).mpr k⟩
@[simp] theorem goes_ret {r : Ent} : Goes (.ret r) ↔ False := Iff.rfl
@[simp] theorem goes_brk : Goes .brk ↔ False := Iff.rfl
/-- a turn that ends the loop -/
def Outs (P : Fl → DEnv → Prop) : Fl → DEnv → Prop
  | .ret r, e => P (.ret r) e
  | .brk, e => P .nx e
  | _, _ => False
@[simp] theorem outs_ret {P : Fl → DEnv → Prop} {r : Ent} {e : DEnv} : Outs P (.ret r) e ↔ P (.ret r) e := Iff.rfl
@[simp] theorem outs_brk {P : Fl → DEnv → Prop} {e : DEnv} : Outs P .brk e ↔ P .nx e := Iff.rfl
@[simp] theorem outs_nx {P : Fl → DEnv → Prop} {e : DEnv} : Outs P .nx e ↔ False := Iff.rfl
@[simp] theorem outs_cnt {P : Fl → DEnv → Prop} {e : DEnv} : Outs P .cnt e ↔ False := Iff.rfl
/-- a loop that may end early; I by what is left of the list -/
theorem fin_forL {g : DG} {body : DS} {P : Fl → DEnv → Prop} {α : Type} (G : α → D) (I : List α → DEnv → Prop) : ∀ (xs : List α) (env : DEnv), I xs env →
    (∀ x rest env, I (x :: rest) env → ∃ env1, g (G x) env = some env1 ∧ Fin (body env1) fun fl e => (Goes fl ∧ I rest e) ∨ Outs P fl e) →
    (∀ env, I [] env → P .nx env) → Fin (dFor g body (xs.map G) env) P
  | [], env, h, _, z => fin_iff.mpr ⟨_, _, rfl, z env h⟩
  | x :: xs, env, h, step, z => by
    obtain ⟨env1, e1, h1⟩ := step x xs env h
    obtain ⟨fl, e2, q1, q2⟩ := fin_iff.mp h1
    have go : ∀ e, I xs e → Fin (dFor g body (xs.map G) e) P := fun e he => fin_forL G I xs e he step z
    rw [List.map_cons, dFor, e1]
    simp only [q1]
    rcases q2 with ⟨k1, k2⟩ | k
    · cases fl with
      | nx => exact go e2 k2
      | cnt => exact go e2 k2
      | brk => exact k1.elim
      | ret r => exact k1.elim
    · cases fl with
      | nx => exact k.elim
      | cnt => exact k.elim
      | brk => exact fin_iff.mpr ⟨_, _, rfl, k⟩
      | ret r => exact fin_iff.mpr ⟨_, _, rfl, k⟩
theorem dLoop_M {α : Type} {vs : List Nat} {g : DG} {c : DT} {e : DE} {E : DEnv} (G : α → D) (p : α → Bool) (F : α → D) : ∀ (ys : List α) (acc : List D), acc.length + ys.length ≤ sizeLine →
    (∀ y ∈ ys, ∃ env1, g (G y) E = some env1 ∧ Fin (c env1) fun b e2 => b = p y ∧ (if p y = true then Fin (e e2) fun r e3 => r.d = F y ∧ wipeD e3 vs = E else wipeD e2 vs = E)) →
    dLoop vs g c e (ys.map G) acc E = .ok (acc ++ (ys.filter p).map F) E
  | [], acc, _, _ => by simp [dLoop]
  | y :: ys, acc, hl, step => by
    obtain ⟨env1, e1, hc⟩ := step y (List.mem_cons_self ..)
    obtain ⟨b, e2, q1, q2, q3⟩ := fin_iff.mp hc
    rw [List.length_cons] at hl
    have st : ∀ z ∈ ys, _ := fun z hz => step z (List.mem_cons_of_mem _ hz)
    rw [List.map_cons, dLoop, e1]
    subst q2
    cases hp : p y with
    | true =>
      rw [hp, if_pos rfl] at q3
      rw [hp] at q1
      obtain ⟨r, e3, q4, q5, q6⟩ := fin_iff.mp q3
      simp only [q1, q4]
      rw [if_pos (by omega), q5, q6, dLoop_M G p F ys (acc ++ [F y]) (by rw [List.length_append, List.length_singleton]; omega) st, List.filter_cons, if_pos hp, List.map_cons, List.append_assoc]
      rfl
    | false =>
      rw [hp, if_neg (by simp)] at q3
      rw [hp] at q1
      simp only [q1]
      rw [q3, dLoop_M G p F ys acc (by omega) st, List.filter_cons, if_neg (by rw [hp]; simp)]
/-- a comprehension over a mapped list -/
theorem fin_compM {α : Type} {vs : List Nat} {it : DI} {g : DG} {c : DT} {e : DE} {env : DEnv} {P : Ent → DEnv → Prop} (env1 : DEnv) (G : α → D) (p : α → Bool) (F : α → D) (ys : List α) (hi : Fin (it env) fun xs e => xs = ys.map G ∧ e = env1) (hl : ys.length ≤ sizeLine)
    (step : ∀ y ∈ ys, ∃ env2, g (G y) (wipeD env1 vs) = some env2 ∧ Fin (c env2) fun b e2 => b = p y ∧ (if p y = true then Fin (e e2) fun r e3 => r.d = F y ∧ wipeD e3 vs = wipeD env1 vs else wipeD e2 vs = wipeD env1 vs))
    (z : P ⟨.own, .lst ((ys.filter p).map F)⟩ (backD env1 (wipeD env1 vs) vs)) : Fin (dComp vs it g c e env) P := by
  have e1 := dLoop_M (g := g) (c := c) (e := e) (vs := vs) (E := wipeD env1 vs) G p F ys [] (by simpa using hl) step
  obtain ⟨ys', e2, hi1, rfl, rfl⟩ := fin_iff.mp hi
  refine fin_iff.mpr ⟨_, _, ?_, z⟩
  unfold dComp
  rw [hi1, bind_ok, e1]
  rfl
/-- the same without a condition -/
theorem fin_compN {α : Type} {vs : List Nat} {it : DI} {g : DG} {e : DE} {env : DEnv} {P : Ent → DEnv → Prop} (env1 : DEnv) (G : α → D) (F : α → D) (ys : List α) (hi : Fin (it env) fun xs e => xs = ys.map G ∧ e = env1) (hl : ys.length ≤ sizeLine)
    (step : ∀ y ∈ ys, ∃ env2, g (G y) (wipeD env1 vs) = some env2 ∧ Fin (e env2) fun r e3 => r.d = F y ∧ wipeD e3 vs = wipeD env1 vs)
    (z : P ⟨.own, .lst (ys.map F)⟩ (backD env1 (wipeD env1 vs) vs)) : Fin (dComp vs it g dYes e env) P := by
  refine fin_compM env1 G (fun _ => true) F ys hi hl (fun y hy => ?_) ?_
  · obtain ⟨env2, h1, h2⟩ := step y hy
    refine ⟨env2, h1, ?_⟩
    simp only [fin_yes, if_true]
    exact ⟨trivial, h2⟩
  · rw [List.filter_eq_self.mpr fun _ _ => rfl]
    exact z
theorem rngD_map (lo : Int) : ∀ n : Nat, rngD lo n = (List.range n).map fun (i : Nat) => D.int (lo + (i : Nat))
  | 0 => rfl
  | n + 1 => by
    rw [rngD, List.range_succ_eq_map, List.map_cons, List.map_map, rngD_map (lo + 1) n]
    congr 1
    · simp
    · apply List.map_congr_left
      intro i _
      show D.int (lo + 1 + (i : Nat)) = D.int (lo + ((i + 1 : Nat) : Int))
      congr 1
      omega
theorem rngD0 (n : Nat) : rngD 0 n = (List.range n).map fun (i : Nat) => D.int (i : Nat) := by
  rw [rngD_map]
  apply List.map_congr_left
  intro i _
  simp
theorem enumD_map (k : Nat) (xs : List D) : enumD k xs = (xs.zipIdx k).map fun (p : D × Nat) => D.pr (.int (p.2 : Nat)) p.1 := by
  induction xs generalizing k with
  | nil => rfl
  | cons x xs ih => rw [enumD, List.zipIdx_cons, List.map_cons, ih]
end DL
/-! DM8: reckoning with objects that stand. -/
namespace DL
open PySem PySem.Spec PyProof.Rows L2
def objO (c : Str) : Ent → DEnv → R (List D)
  | ⟨.shr, .exc g (.non :: ys)⟩, e => if g = c then .ok ys e else .bad
  | _, _ => .bad
@[simp] theorem objO_ok {c : Str} {ys : List D} {e : DEnv} : objO c ⟨.shr, .exc c (.non :: ys)⟩ e = .ok ys e := if_pos rfl
theorem callO_eq {c : Str} {fn : DFn} {m : DE} {os : List Opd} {env : DEnv} : dCallO c fn m os env = (m env).bind fun r e => (objO c r e).bind fun ys e1 => (evOs os e1).bind fun avs e2 => (resA (getAVs e2 avs) e2).bind fun ds e3 => afterC e3 (fn (shrs (.exc c (.non :: ys) :: ds))) := by
  unfold dCallO
  congr 1
  funext r e
  have key : ∀ (ys : List D), ((evOs os e).bind fun avs env2 => match getAVs env2 avs with
      | some ds => afterC env2 (fn (shrs (.exc c (.non :: ys) :: ds)))
      | none => .bad) = (evOs os e).bind fun avs e2 => (resA (getAVs e2 avs) e2).bind fun ds e3 => afterC e3 (fn (shrs (.exc c (.non :: ys) :: ds))) := fun ys => by
    congr 1
    funext avs e2
    cases getAVs e2 avs <;> rfl
  obtain ⟨md, d⟩ := r
  cases md with
  | shr =>
    cases d with
    | exc g fs =>
      cases fs with
      | nil => rfl
      | cons y ys =>
        cases y with
        | non =>
          by_cases hg : g = c
          · subst hg
            simp only [objO, if_true]
            exact key ys
          · simp only [objO, if_neg hg]
            rfl
        | _ => rfl
    | _ => rfl
  | _ => rfl
@[simp ↓] theorem fin_callO {c : Str} {fn : DFn} {m : DE} {os : List Opd} {env : DEnv} {PE : Ent → DEnv → Prop} : Fin (dCallO c fn m os env) PE ↔ Fin (m env) fun r e => Fin (objO c r e) fun ys e1 => Fin (evOs os e1) fun avs e2 => Fin (resA (getAVs e2 avs) e2) fun ds e3 => Fin (afterC e3 (fn (shrs (.exc c (.non :: ys) :: ds)))) PE := by
  rw [callO_eq]
  simp only [fin_bind]
theorem init_eq {c f1 f2 : Str} {np ns i1 i2 : Nat} {m : DS} {args : List Ent} {d1 d2 : D} (hn : np ≤ args.length) (hs : allShr args = true) (hl : args.length ≤ sizeLine)
    (h : Fin (m (none :: ((args.take np ++ [(⟨.shr, .tup ((args.drop np).map Ent.d)⟩ : Ent)]).map some ++ List.replicate (ns - (np + 2)) none))) fun fl e => fl = .nx ∧ e[i1]? = some (some ⟨.shr, d1⟩) ∧ e[i2]? = some (some ⟨.shr, d2⟩)) :
    dInit c np ns m f1 i1 f2 i2 args = .ok ⟨.shr, .exc c [.non, .str f1, d1, .str f2, d2]⟩ .non := by
  obtain ⟨fl, e, h1, rfl, h2, h3⟩ := fin_iff.mp h
  unfold dInit
  rw [if_pos ⟨hn, hs, hl⟩, h1]
  simp only [h2, h3]
theorem fldP_1 {c f1 f2 : Str} {d1 d2 : D} : pFldP c f1 [.exc c [.non, .str f1, d1, .str f2, d2]] = some (.d d1) := by
  simp [pFldP, fldD]
theorem fldP_2 {c f1 f2 : Str} {d1 d2 : D} (h : (f2 = f1) = False := by decide +kernel) : pFldP c f2 [.exc c [.non, .str f1, d1, .str f2, d2]] = some (.d d2) := by
  simp [pFldP, fldD, h]
end DL
/-! DM9: reckoning with comprehensions of two clauses. -/
namespace DL
open PySem PySem.Spec PyProof.Rows L2
theorem dLoop2_N {α β : Type} {vs vs1 : List Nat} {g g1 : DG} {it1 : DI} {e : DE} {E : DEnv} (G : α → D) (B : α → List β) (G1 : β → D) (F : α → β → D) : ∀ (ys : List α) (acc : List D), acc.length + (ys.flatMap B).length ≤ sizeLine →
    (∀ y ∈ ys, ∃ env2, g (G y) E = some env2 ∧ Fin (it1 env2) fun xs e3 => xs = (B y).map G1 ∧ (∀ z ∈ B y, ∃ env4, g1 (G1 z) (wipeD e3 vs1) = some env4 ∧ Fin (e env4) fun r e5 => r.d = F y z ∧ wipeD e5 vs1 = wipeD e3 vs1) ∧ wipeD (wipeD e3 vs1) vs = E) →
    dLoop2 vs vs1 g dYes it1 g1 dYes e (ys.map G) acc E = .ok (acc ++ ys.flatMap fun y => (B y).map (F y)) E
  | [], acc, _, _ => by simp [dLoop2]
  | y :: ys, acc, hl, step => by
    obtain ⟨env2, e1, hc⟩ := step y (List.mem_cons_self ..)
    obtain ⟨xs, e3, q1, rfl, q2, q3⟩ := fin_iff.mp hc
    rw [List.flatMap_cons, List.length_append] at hl
    have k := dLoop_M (vs := vs1) (g := g1) (c := dYes) (e := e) (E := wipeD e3 vs1) G1 (fun _ => true) (F y) (B y) acc (by omega) fun z hz => by
      obtain ⟨env4, h1, h2⟩ := q2 z hz
      refine ⟨env4, h1, ?_⟩
      simp only [fin_yes, if_true]
      exact ⟨trivial, h2⟩
    rw [List.filter_eq_self.mpr fun _ _ => rfl] at k
    have ih := dLoop2_N (e := e) (g := g) (g1 := g1) (it1 := it1) (vs := vs) (vs1 := vs1) (E := E) G B G1 F ys (acc ++ (B y).map (F y)) (by rw [List.length_append, List.length_map]; omega) fun z hz => step z (List.mem_cons_of_mem _ hz)
    rw [List.map_cons, dLoop2, e1]
    show (match dYes env2 with | _ => _) = _
    simp only [dYes]
    rw [q1]
    simp only []
    rw [k]
    simp only []
    rw [q3, ih, List.flatMap_cons, List.append_assoc]
theorem fin_comp2 {α β : Type} {vs vs1 : List Nat} {it it1 : DI} {g g1 : DG} {e : DE} {env : DEnv} {P : Ent → DEnv → Prop} (env1 : DEnv) (G : α → D) (B : α → List β) (G1 : β → D) (F : α → β → D) (ys : List α) (hi : Fin (it env) fun xs e => xs = ys.map G ∧ e = env1) (hl : (ys.flatMap B).length ≤ sizeLine)
    (step : ∀ y ∈ ys, ∃ env2, g (G y) (wipeD env1 vs) = some env2 ∧ Fin (it1 env2) fun xs e3 => xs = (B y).map G1 ∧ (∀ z ∈ B y, ∃ env4, g1 (G1 z) (wipeD e3 vs1) = some env4 ∧ Fin (e env4) fun r e5 => r.d = F y z ∧ wipeD e5 vs1 = wipeD e3 vs1) ∧ wipeD (wipeD e3 vs1) vs = wipeD env1 vs)
    (z : P ⟨.own, .lst (ys.flatMap fun y => (B y).map (F y))⟩ (backD env1 (wipeD env1 vs) vs)) : Fin (dComp2 vs vs1 it g dYes it1 g1 dYes e env) P := by
  have e1 := dLoop2_N (g := g) (e := e) (g1 := g1) (it1 := it1) (vs := vs) (vs1 := vs1) (E := wipeD env1 vs) G B G1 F ys [] (by simpa using hl) step
  obtain ⟨ys', e2, hi1, rfl, rfl⟩ := fin_iff.mp hi
  refine fin_iff.mpr ⟨_, _, ?_, z⟩
  unfold dComp2
  rw [hi1, bind_ok, e1]
  rfl
end DL
namespace My
open PySem PySem.Spec PyProof.Rows L2 DL
@[simp] theorem deq_int (a b : Int) : deq (.int a) (.int b) = decide (a = b) := by
  simp only [deq, toP, PyData.eqv]
  rfl
@[simp] theorem pEq_int (a b : Int) : pEq [.int a, .int b] = some (.d (.bl (decide (a = b)))) := by simp [pEq]
@[simp] theorem pNe_int (a b : Int) : pNe [.int a, .int b] = some (.d (.bl (!decide (a = b)))) := by simp [pNe]
theorem log_le {x : Int} {k : Nat} (h0 : 0 ≤ x) (h : x < 2 ^ k) (hk : 0 < k) : x.natAbs.log2 < k := by
  by_cases hx : x.natAbs = 0
  · rw [hx]; simpa using hk
  · refine (Nat.log2_lt hx).mpr ?_
    have e : ((x.natAbs : Nat) : Int) = x := Int.natAbs_of_nonneg h0
    have : ((x.natAbs : Nat) : Int) < ((2 ^ k : Nat) : Int) := by rw [e]; simpa using h
    exact Int.ofNat_lt.mp this
theorem mul_wide {x y : Int} {i j : Nat} (hx : 0 ≤ x) (hx' : x < 2 ^ i) (hy : 0 ≤ y) (hy' : y < 2 ^ j) (hi : 0 < i) (hj : 0 < j) (h : i + j ≤ 1000000) : wideMul x y = true := by
  have h1 := log_le hx hx' hi
  have h2 := log_le hy hy' hj
  unfold wideMul
  exact decide_eq_true (by omega)
def treeD (ps : List Nat) : D := .tup (.non :: dNats ps)
structure TreeOk (ps : List Nat) : Prop where
  len : ps.length ≤ 9
  par : ∀ (i p : Nat), ps[i]? = some p → p ≤ i
theorem dNats_snoc (ps : List Nat) (p : Nat) : dNats (ps ++ [p]) = dNats ps ++ [.int (p : Nat)] := by
  simp [dNats]
theorem dNats_get (ps : List Nat) (i : Nat) : (dNats ps)[i]? = (ps[i]?).map fun n => D.int (n : Nat) := by simp [dNats]
theorem dNats_len (ps : List Nat) : (dNats ps).length = ps.length := by simp [dNats]
theorem TreeOk.snoc {ps : List Nat} {p : Nat} (h : TreeOk ps) (hl : ps.length < 9) (hp : p ≤ ps.length) : TreeOk (ps ++ [p]) := ⟨by rw [List.length_append, List.length_singleton]; omega, fun i q hq => by
  by_cases hi : i < ps.length
  · rw [List.getElem?_append_left hi] at hq
    exact h.par i q hq
  · rw [List.getElem?_append_right (by omega)] at hq
    by_cases h0 : i - ps.length = 0
    · rw [h0] at hq
      cases hq
      omega
    · rw [List.getElem?_eq_none (by simp; omega)] at hq
      cases hq⟩
@[simp] theorem pTyIs_tup (xs : List D) : pTyIs "tuple" [.tup xs] = some (.d (.bl true)) := by
  have h : metaN.contains "tuple" = true := by decide
  simp only [pTyIs, h, if_true, tyOf]
  rfl
@[simp] theorem pTyIs_lst (xs : List D) : pTyIs "tuple" [.lst xs] = some (.d (.bl false)) := by
  have h : metaN.contains "tuple" = true := by decide
  simp only [pTyIs, h, if_true, tyOf]
  rfl
@[simp] theorem pIsI_int (a : Int) : pIsI "int" [.int a] = some (.d (.bl true)) := by
  have h : kitB "int" "int" = some true := by decide
  simp [pIsI, tyOf, h]
@[simp] theorem pIsI_bool (a : Int) : pIsI "bool" [.int a] = some (.d (.bl false)) := by
  have h : kitB "int" "bool" = some false := by decide
  simp [pIsI, tyOf, h]
theorem is_tuple_tup (xs : List D) : f_is_tuple [⟨.shr, .tup xs⟩] = .ok ⟨.shr, .bl true⟩ .non := def_eq rfl (by simp [m_is_tuple])
theorem is_tuple_lst (xs : List D) : f_is_tuple [⟨.shr, .lst xs⟩] = .ok ⟨.shr, .bl false⟩ .non := def_eq rfl (by simp [m_is_tuple])
theorem within_eq (a lo hi : Int) : f_is_integer_within [⟨.shr, .int a⟩, ⟨.shr, .int lo⟩, ⟨.shr, .int hi⟩] = .ok ⟨.shr, .bl (decide (lo ≤ a) && decide (a ≤ hi))⟩ .non := def_eq rfl (by
  by_cases h : lo ≤ a <;> simp [m_is_integer_within, h])
theorem blsOf_map {α : Type} (xs : List α) (f : α → Bool) : blsOf (xs.map fun x => D.bl (f x)) = some (xs.map f) := by
  induction xs with
  | nil => rfl
  | cons x xs ih => simp [blsOf, ih]
theorem tree_at {ps : List Nat} (k : Nat) (p : Nat) (h : ps[k]? = some p) : atI (D.non :: dNats ps) ((k : Int) + 1) = some (.int (p : Nat)) := by
  have := atI_nat (D.non :: dNats ps) (k + 1)
  rw [show (((k + 1 : Nat)) : Int) = (k : Int) + 1 by omega] at this
  rw [this, List.getElem?_cons_succ, dNats_get, h]
  rfl
theorem is_tree_lst (xs : List D) : f_is_tree [⟨.shr, .lst xs⟩] = .ok ⟨.shr, .bl false⟩ .non := def_eq rfl (by simp [m_is_tree, is_tuple_lst])
theorem is_tree_eq {ps : List Nat} (ht : TreeOk ps) : f_is_tree [⟨.shr, treeD ps⟩] = .ok ⟨.shr, .bl true⟩ .non := def_eq rfl (by
  have hl := ht.len
  have h1 : (ps.length : Int) + 1 ≤ 10 := by omega
  have h2 : (1 : Int) ≤ ps.length + 1 := by omega
  have d1 := dNats_len ps
  have d2 := is_tuple_tup (D.non :: dNats ps)
  simp [m_is_tree, treeD, d1, d2, h1, h2]
  refine fin_comp (xs := rngD 1 ps.length) (env1 := [some ⟨.shr, treeD ps⟩, none]) ?_ (fun env => env = [some ⟨.shr, treeD ps⟩, none]) (fun _ => .bl true) rfl (by rw [rngD_len, sizeLine_eq]; omega) (fun x hx env hI => ?_) fun env hI => ?_
  · have e : ((ps.length : Int) + 1 - 1).toNat = ps.length := by omega
    have r := rng2_eq (i := 1) (j := (ps.length : Int) + 1) (by decide) (sm62 (by omega) (by omega))
    rw [e] at r
    simp [d1, r, treeD]
  · subst hI
    obtain ⟨k, rfl, hk1, hk2⟩ := mem_rngD hx
    obtain ⟨i, rfl⟩ : ∃ i : Nat, k = (i : Int) + 1 := ⟨(k - 1).toNat, by omega⟩
    refine ⟨_, rfl, ?_⟩
    have hi : i < ps.length := by omega
    obtain ⟨p, hp⟩ : ∃ p, ps[i]? = some p := ⟨ps[i], by simp [hi]⟩
    have hpi := ht.par i p hp
    simp [treeD, tree_at i p hp, within_eq]
    omega
  · subst hI
    have := blsOf_map (rngD 1 ps.length) fun _ => true
    simp [pAll, this])
theorem has_locale_eq {ps : List Nat} (l : Int) : f_has_locale [⟨.shr, treeD ps⟩, ⟨.shr, .int l⟩] = .ok ⟨.shr, .bl (decide (0 ≤ l) && decide (l ≤ ps.length))⟩ .non := by
  have h := within_eq l 0 ps.length
  have d1 := dNats_len ps
  exact def_eq rfl (by simp [m_has_locale, treeD, d1, h])
def pOf (ps : List Nat) (k : Nat) : Nat := ps.getD k 0
def parD (ps : List Nat) : Nat → D
  | 0 => .non
  | k + 1 => .int ((pOf ps k : Nat) : Int)
theorem at_par {ps : List Nat} {l : Nat} (h : l ≤ ps.length) : atI (D.non :: dNats ps) (l : Int) = some (parD ps l) := by
  rw [DL.atI_nat]
  cases l with
  | zero => rfl
  | succ k =>
    rw [List.getElem?_cons_succ, dNats_get]
    have hk : k < ps.length := by omega
    simp [parD, pOf, List.getD, hk]
def upF (ps : List Nat) : Nat → Nat → List Nat
  | 0, l => [l]
  | f + 1, l => match l with
    | 0 => [0]
    | k + 1 => match pOf ps k with
      | 0 => [k + 1]
      | p + 1 => (k + 1) :: upF ps f (p + 1)
def up (ps : List Nat) (l : Nat) : List Nat := upF ps l l
theorem upF_end {ps : List Nat} {f l : Nat} (h : parD ps l = .non ∨ parD ps l = .int 0) (hf : l ≤ f) : upF ps f l = [l] := by
  cases f with
  | zero => rw [upF]
  | succ f =>
    cases l with
    | zero => rfl
    | succ k =>
      rcases h with h | h
      · cases h
      · have e : pOf ps k = 0 := by
          simp only [parD, D.int.injEq] at h
          omega
        rw [upF, e]
theorem upF_step {ps : List Nat} {f k p : Nat} (h : pOf ps k = p + 1) : upF ps (f + 1) (k + 1) = (k + 1) :: upF ps f (p + 1) := by
  rw [upF, h]
theorem TreeOk.getD {ps : List Nat} (ht : TreeOk ps) (k : Nat) : pOf ps k ≤ k := by
  by_cases h : k < ps.length
  · have := ht.par k ps[k] (by simp [h])
    simpa [pOf, List.getD, h] using this
  · simp [pOf, List.getD, h]
theorem path_of_eq {ps : List Nat} (ht : TreeOk ps) {l : Nat} (hl : l ≤ ps.length) : f_path_of [⟨.shr, treeD ps⟩, ⟨.shr, .int (l : Nat)⟩] = .ok ⟨.shr, .tup (dNats (up ps l))⟩ .non := def_eq rfl (by
  have hlen := ht.len
  have h1 := at_par hl
  simp [m_path_of, treeD, h1, sizeLine_eq]
  refine fin_while (fun k env => ∃ acc m, env = [some ⟨.shr, treeD ps⟩, some ⟨.shr, .int (l : Nat)⟩, some ⟨.own, .lst (dNats (acc ++ [m]))⟩, some ⟨.shr, parD ps m⟩] ∧ m ≤ k ∧ m ≤ ps.length ∧ acc.length + m ≤ 9 ∧ acc ++ upF ps k m = up ps l) ?_ 64 l _ (by omega) ⟨[], l, rfl, Nat.le_refl _, hl, by simp; omega, rfl⟩
  intro k env ⟨acc, m, he, hm, hm2, hacc, hup⟩
  subst he
  cases m with
  | zero =>
    have e := upF_end (ps := ps) (f := k) (l := 0) (.inl rfl) (by omega)
    rw [e] at hup
    simp [parD, hup]
  | succ i =>
    have hp := ht.getD i
    cases hq : pOf ps i with
    | zero =>
      have e := upF_end (ps := ps) (f := k) (l := i + 1) (.inr (by rw [parD, hq]; rfl)) (by omega)
      rw [e] at hup
      simp [parD, hq, hup]
    | succ p =>
      obtain ⟨k', rfl⟩ : ∃ k', k = k' + 1 := ⟨k - 1, by omega⟩
      have a1 : atI (D.non :: dNats ps) ((p : Int) + 1) = some (parD ps (p + 1)) := at_par (ps := ps) (l := p + 1) (by omega)
      have hz : acc.length + 1 < sizeLine := by rw [sizeLine_eq]; omega
      have hz2 := dNats_len (acc ++ [i + 1])
      rw [upF_step hq] at hup
      have q1 : ¬ ((p : Int) + 1 = 0) := by omega
      rw [parD, hq] 
      simp [q1, treeD, hz, hz2, a1]
      exact ⟨k', by omega, acc ++ [i + 1], p + 1, ⟨by rw [dNats_snoc (acc ++ [i + 1])]; rfl, rfl⟩, by omega, by omega, by rw [List.length_append, List.length_singleton]; omega, by rw [List.append_assoc]; exact hup⟩)
theorem upF_last (ps : List Nat) : ∀ (f l : Nat), ∃ init t, upF ps f l = init ++ [t]
  | 0, l => ⟨[], l, rfl⟩
  | f + 1, l => by
    cases l with
    | zero => exact ⟨[], 0, rfl⟩
    | succ k =>
      cases hq : pOf ps k with
      | zero => exact ⟨[], k + 1, by rw [upF, hq]; rfl⟩
      | succ p =>
        obtain ⟨i, t, h⟩ := upF_last ps f (p + 1)
        exact ⟨(k + 1) :: i, t, by rw [upF_step hq, h]; rfl⟩
theorem upF_le {ps : List Nat} (ht : TreeOk ps) : ∀ (f l : Nat), l ≤ 9 → (∀ n ∈ upF ps f l, n ≤ 9)
  | 0, l, hl => fun n hn => by
    rw [upF, List.mem_singleton] at hn
    omega
  | f + 1, l, hl => fun n hn => by
    cases l with
    | zero =>
      rw [upF, List.mem_singleton] at hn
      omega
    | succ k =>
      cases hq : pOf ps k with
      | zero =>
        rw [upF, hq] at hn
        simp at hn
        omega
      | succ p =>
        have hp := ht.getD k
        rw [upF_step hq] at hn
        rcases List.mem_cons.mp hn with rfl | hn
        · omega
        · exact upF_le ht f (p + 1) (by omega) n hn
theorem upF_len {ps : List Nat} : ∀ (f l : Nat), (upF ps f l).length ≤ f + 1
  | 0, l => by simp [upF]
  | f + 1, l => by
    cases l with
    | zero => simp [upF]
    | succ k =>
      cases hq : pOf ps k with
      | zero => rw [upF, hq]; simp
      | succ p =>
        have := upF_len (ps := ps) f (p + 1)
        rw [upF_step hq, List.length_cons]
        omega
theorem upF_mem {ps : List Nat} (ht : TreeOk ps) : ∀ (f l : Nat), (∀ n ∈ upF ps f l, n ≤ l)
  | 0, l => fun n hn => by
    rw [upF, List.mem_singleton] at hn
    omega
  | f + 1, l => fun n hn => by
    cases l with
    | zero =>
      rw [upF, List.mem_singleton] at hn
      omega
    | succ k =>
      cases hq : pOf ps k with
      | zero =>
        rw [upF, hq] at hn
        simp at hn
        omega
      | succ p =>
        have hp := ht.getD k
        rw [upF_step hq] at hn
        rcases List.mem_cons.mp hn with rfl | hn
        · omega
        · have := upF_mem ht f (p + 1) n hn
          omega
theorem upF_pos {ps : List Nat} (f l : Nat) : 0 < (upF ps f l).length := by
  obtain ⟨i, t, h⟩ := upF_last ps f l
  rw [h, List.length_append, List.length_singleton]
  omega
theorem eqv_nats : ∀ a b : List Nat, PyData.eqvAll (a.map fun n => PyData.int (n : Nat)) (b.map fun n => PyData.int (n : Nat)) = decide (a = b)
  | [], [] => by simp [PyData.eqvAll]
  | [], _ :: _ => by simp [PyData.eqvAll]
  | _ :: _, [] => by simp [PyData.eqvAll]
  | x :: xs, y :: ys => by
    have e : PyData.eqv (.int (x : Nat)) (.int (y : Nat)) = decide (x = y) := by
      simp only [PyData.eqv]
      by_cases h : x = y
      · subst h; simp
      · rw [decide_eq_false h]
        simp
        omega
    simp only [List.map_cons, PyData.eqvAll, e, eqv_nats xs ys]
    by_cases h1 : x = y <;> by_cases h2 : xs = ys <;> simp [h1, h2]
theorem deq_nats (a b : List Nat) : deq (.tup (dNats a)) (.tup (dNats b)) = decide (a = b) := by
  simp only [deq, toP, toPs_nats, PyData.eqv]
  exact eqv_nats a b
theorem ne_nats (a b : List Nat) : pNe [.tup (dNats a), .tup (dNats b)] = some (.d (.bl (!decide (a = b)))) := by
  simp only [pNe, okD_nats, Bool.and_self, if_true, deq_nats]
structure AsksOk (ps as : List Nat) : Prop where
  len : as.length ≤ 40
  ok : ∀ a ∈ as, a ≤ ps.length
theorem dNats_at {ns : List Nat} {r : Int} (h0 : 0 ≤ r) (h1 : r < ns.length) : ∃ m, m ∈ ns ∧ atI (dNats ns) r = some (.int (m : Nat)) := by
  obtain ⟨k, rfl⟩ : ∃ k : Nat, r = (k : Int) := ⟨r.toNat, by omega⟩
  have hk : k < ns.length := by omega
  refine ⟨ns[k], List.getElem_mem hk, ?_⟩
  rw [DL.atI_nat, dNats_get]
  simp [hk]
theorem flat_nats (s : Int) (f : List Nat) : flat_all (.int s) (dNats f) = true := by
  simp [flat_all, flatD, dNats]
theorem inD_nats (s : Nat) (f : List Nat) : inD (.int (s : Nat)) (dNats f) = decide (s ∈ f) := by
  induction f with
  | nil => simp [inD, dNats]
  | cons x xs ih =>
    have e : inD (.int (s : Nat)) (dNats (x :: xs)) = (decide (x = s) || inD (.int (s : Nat)) (dNats xs)) := by
      simp only [inD, dNats, List.map_cons, List.any_cons, deq_int]
      by_cases h : x = s
      · subst h; simp
      · rw [decide_eq_false h, decide_eq_false (by omega)]
    rw [e, ih]
    by_cases h : x = s
    · subst h; simp
    · rw [decide_eq_false h, Bool.false_or]
      by_cases h2 : s ∈ xs
      · rw [decide_eq_true h2, decide_eq_true (List.mem_cons_of_mem _ h2)]
      · rw [decide_eq_false h2, decide_eq_false (by simp [h2]; exact fun e => h e.symm)]
theorem inN_nats (neg : Bool) (s : Nat) (f : List Nat) : pInN neg [.int (s : Nat), .lst (dNats f)] = some (.d (.bl (if neg then !decide (s ∈ f) else decide (s ∈ f)))) := by
  simp only [pInN, flat_nats, if_true, inD_nats]
def addNew (f s : List Nat) : List Nat := s.foldl (fun f x => if x ∈ f then f else f ++ [x]) f
def rnd (ps ls : List Nat) : List Nat := ls.foldl (fun f l => addNew f (up ps l)) []
theorem addNew_snoc (f s : List Nat) (x : Nat) : addNew f (s ++ [x]) = if x ∈ addNew f s then addNew f s else addNew f s ++ [x] := by
  rw [addNew, List.foldl_append]
  rfl
theorem rnd_snoc (ps ls : List Nat) (l : Nat) : rnd ps (ls ++ [l]) = addNew (rnd ps ls) (up ps l) := by
  simp [rnd, List.foldl_append]
theorem addNew_len (s : List Nat) : ∀ f : List Nat, (addNew f s).length ≤ f.length + s.length := by
  induction s with
  | nil => intro f; simp [addNew]
  | cons x s ih =>
    intro f
    have := ih (if x ∈ f then f else f ++ [x])
    have e : addNew f (x :: s) = addNew (if x ∈ f then f else f ++ [x]) s := rfl
    rw [e, List.length_cons]
    split at this
    · rename_i h; rw [if_pos h]; omega
    · rename_i h
      rw [if_neg h]
      rw [List.length_append, List.length_singleton] at this
      omega
theorem take_get {α : Type} {xs : List α} {j : Nat} {x : α} (h : xs[j]? = some x) : xs.take (j + 1) = xs.take j ++ [x] := by
  rw [List.take_succ, h]
  rfl
theorem dNats_some {ns : List Nat} {j : Nat} {x : D} (h : (dNats ns)[j]? = some x) : ∃ m, x = .int (m : Nat) ∧ ns[j]? = some m := by
  rw [dNats_get] at h
  simp only [Option.map_eq_some_iff] at h
  obtain ⟨m, h1, h2⟩ := h
  exact ⟨m, h2.symm, h1⟩
theorem visits {c : DT} {P : Fl → DEnv → Prop} {found steps : List Nat} {E : List Nat → Option Ent → DEnv} {e0 : Option Ent}
    (hset : ∀ f e s, gSet 4 (.int (s : Nat)) (E f e) = some (E f (some ⟨.shr, .int (s : Nat)⟩)))
    (body : DS) (hb : ∀ f (s : Nat), f.length ≤ found.length + steps.length → Fin (body (E f (some ⟨.shr, .int (s : Nat)⟩))) fun fl e => Goes fl ∧ e = E (if s ∈ f then f else f ++ [s]) (some ⟨.shr, .int (s : Nat)⟩))
    (z : ∀ e, P .nx (E (addNew found steps) e)) : Fin (dFor (gSet 4) body (dNats steps) (E found e0)) P := by
  refine fin_for (fun j env => ∃ e, env = E (addNew found (steps.take j)) e) ⟨e0, rfl⟩ (fun j x env hj hI => ?_) fun env hI => ?_
  · obtain ⟨e, rfl⟩ := hI
    obtain ⟨s, rfl, hs⟩ := dNats_some hj
    refine ⟨_, hset _ _ _, (hb (addNew found (steps.take j)) s ?_).mono fun fl e ⟨h1, h2⟩ => ⟨h1, some ⟨.shr, .int (s : Nat)⟩, ?_⟩⟩
    · have := addNew_len (steps.take j) found
      rw [List.length_take] at this
      omega
    · rw [h2, take_get hs, addNew_snoc]
  · obtain ⟨e, rfl⟩ := hI
    rw [dNats_len, List.take_length]
    exact z e
theorem has_wishes_eq {ps as : List Nat} (hok : ∀ a ∈ as, a ≤ ps.length) (hl : as.length ≤ 61) : f_has_wishes [⟨.shr, treeD ps⟩, ⟨.shr, .tup (dNats as)⟩] = .ok ⟨.shr, .bl true⟩ .non := def_eq rfl (by
  have h0 := is_tuple_tup (dNats as)
  simp [m_has_wishes, h0]
  refine fin_comp (xs := dNats as) (env1 := [some ⟨.shr, treeD ps⟩, some ⟨.shr, .tup (dNats as)⟩, none]) (by simp) (fun env => env = [some ⟨.shr, treeD ps⟩, some ⟨.shr, .tup (dNats as)⟩, none]) (fun _ => .bl true) rfl (by rw [dNats_len, sizeLine_eq]; omega) (fun x hx env hI => ?_) fun env hI => ?_
  · subst hI
    simp only [dNats, List.mem_map] at hx
    obtain ⟨a, ha, rfl⟩ := hx
    have q := has_locale_eq (ps := ps) (a : Int)
    rw [decide_eq_true (by omega : (0 : Int) ≤ a), decide_eq_true (by have := hok a ha; omega : (a : Int) ≤ ps.length)] at q
    exact ⟨_, rfl, by simp [q]⟩
  · subst hI
    have := blsOf_map (dNats as) fun _ => true
    simp [pAll, this])
theorem check_wishes_eq {ps as : List Nat} (hok : ∀ a ∈ as, a ≤ ps.length) (hl : as.length ≤ 61) : f_check_wishes [⟨.shr, treeD ps⟩, ⟨.shr, .tup (dNats as)⟩] = .ok ⟨.shr, .non⟩ .non := by
  have h := has_wishes_eq hok hl
  exact def_eq rfl (by simp [m_check_wishes, h])
theorem mem_addNew (s : List Nat) : ∀ (f : List Nat) (x : Nat), x ∈ addNew f s ↔ x ∈ f ∨ x ∈ s := by
  induction s with
  | nil => intro f x; simp [addNew]
  | cons y s ih =>
    intro f x
    have e : addNew f (y :: s) = addNew (if y ∈ f then f else f ++ [y]) s := rfl
    rw [e, ih]
    by_cases h : y ∈ f
    · rw [if_pos h, List.mem_cons]
      exact ⟨fun k => k.elim .inl fun k => .inr (.inr k), fun k => k.elim .inl fun k => k.elim (fun k => .inl (k ▸ h)) .inr⟩
    · rw [if_neg h, List.mem_append, List.mem_singleton, List.mem_cons, or_assoc]
theorem addNew_sub (s : List Nat) : ∀ f : List Nat, (∀ x ∈ s, x ∈ f) → addNew f s = f := by
  induction s with
  | nil => intro f _; rfl
  | cons y s ih =>
    intro f h
    have e : addNew f (y :: s) = addNew (if y ∈ f then f else f ++ [y]) s := rfl
    rw [e, if_pos (h y (List.mem_cons_self ..)), ih f fun x hx => h x (List.mem_cons_of_mem _ hx)]
theorem addNew_new (s : List Nat) : ∀ f : List Nat, (∀ x ∈ s, x ∉ f) → s.Nodup → addNew f s = f ++ s := by
  induction s with
  | nil => intro f _ _; simp [addNew]
  | cons y s ih =>
    intro f h hn
    have e : addNew f (y :: s) = addNew (if y ∈ f then f else f ++ [y]) s := rfl
    rw [List.nodup_cons] at hn
    rw [e, if_neg (h y (List.mem_cons_self ..)), ih _ (fun x hx hm => ?_) hn.2, List.append_assoc]
    · rfl
    · rcases List.mem_append.mp hm with k | k
      · exact h x (List.mem_cons_of_mem _ hx) k
      · rw [List.mem_singleton.mp k] at hx
        exact hn.1 hx
theorem mem_rnd (ps : List Nat) (x : Nat) : ∀ ls : List Nat, ∀ f : List Nat, x ∈ ls.foldl (fun f l => addNew f (up ps l)) f ↔ x ∈ f ∨ ∃ l ∈ ls, x ∈ up ps l
  | [], f => by simp
  | l :: ls, f => by
    rw [List.foldl_cons, mem_rnd ps x ls, mem_addNew, or_assoc]
    simp
theorem in_rnd {ps : List Nat} {x : Nat} {ls : List Nat} : x ∈ rnd ps ls ↔ ∃ l ∈ ls, x ∈ up ps l := by
  rw [rnd, mem_rnd]
  simp
theorem upF_fuel {ps : List Nat} (ht : TreeOk ps) : ∀ (f g l : Nat), l ≤ f → l ≤ g → upF ps f l = upF ps g l
  | 0, g, l, h1, h2 => by
    have : l = 0 := by omega
    subst this
    cases g with
    | zero => rfl
    | succ g => rfl
  | f + 1, 0, l, h1, h2 => by
    have : l = 0 := by omega
    subst this
    rfl
  | f + 1, g + 1, l, h1, h2 => by
    cases l with
    | zero => rfl
    | succ k =>
      cases hq : pOf ps k with
      | zero => rw [upF, upF, hq]
      | succ p =>
        have := ht.getD k
        rw [upF_step hq, upF_step hq, upF_fuel ht f g (p + 1) (by omega) (by omega)]
theorem up_step {ps : List Nat} (ht : TreeOk ps) {k p : Nat} (h : pOf ps k = p + 1) : up ps (k + 1) = (k + 1) :: up ps (p + 1) := by
  have := ht.getD k
  rw [up, upF_step h, up, upF_fuel ht k (p + 1) (p + 1) (by omega) (Nat.le_refl _)]
theorem up_zero {ps : List Nat} {k : Nat} (h : pOf ps k = 0) : up ps (k + 1) = [k + 1] := by rw [up, upF, h]
theorem up_self (ps : List Nat) (l : Nat) : l ∈ up ps l := by
  cases l with
  | zero => simp [up, upF]
  | succ k =>
    cases hq : pOf ps k with
    | zero => rw [up_zero hq]; simp
    | succ p => rw [up, upF_step hq]; simp
theorem up_sub {ps : List Nat} (ht : TreeOk ps) {a x : Nat} (hx : x ∈ up ps a) : ∀ b, a ∈ up ps b → x ∈ up ps b := by
  intro b
  induction b using Nat.strongRecOn with
  | _ b ih =>
    intro h
    cases b with
    | zero =>
      have e : up ps 0 = [0] := rfl
      rw [e, List.mem_singleton] at h
      rw [← h]; exact hx
    | succ k =>
      cases hq : pOf ps k with
      | zero =>
        rw [up_zero hq, List.mem_singleton] at h
        rw [← h]; exact hx
      | succ p =>
        have hp := ht.getD k
        rw [up_step ht hq] at h ⊢
        rcases List.mem_cons.mp h with h | h
        · rw [h, up_step ht hq] at hx
          exact hx
        · exact List.mem_cons_of_mem _ (ih (p + 1) (by omega) h)
theorem up_pos {ps : List Nat} (ht : TreeOk ps) : ∀ l, 0 < l → (∀ x ∈ up ps l, 0 < x) ∧ (up ps l).Nodup := by
  intro l
  induction l using Nat.strongRecOn with
  | _ l ih =>
    intro h
    cases l with
    | zero => omega
    | succ k =>
      cases hq : pOf ps k with
      | zero =>
        rw [up_zero hq]
        exact ⟨fun x hx => by rw [List.mem_singleton.mp hx]; omega, by simp⟩
      | succ p =>
        have hp := ht.getD k
        obtain ⟨i1, i2⟩ := ih (p + 1) (by omega) (by omega)
        rw [up_step ht hq]
        refine ⟨fun x hx => ?_, List.nodup_cons.mpr ⟨fun hm => ?_, i2⟩⟩
        · rcases List.mem_cons.mp hx with h | h
          · omega
          · exact i1 x h
        · have := upF_mem ht (p + 1) (p + 1) _ hm
          omega
theorem rnd_one {ps : List Nat} (ht : TreeOk ps) (l : Nat) : rnd ps ([l] ++ [0]) = up ps l ++ (if 0 < l then [0] else []) := by
  rw [rnd_snoc]
  have e0 : up ps 0 = [0] := rfl
  by_cases h : 0 < l
  · obtain ⟨h1, h2⟩ := up_pos ht l h
    have e : rnd ps [l] = up ps l := by
      show addNew [] (up ps l) = _
      rw [addNew_new _ _ (fun x _ hx => by simp at hx) h2, List.nil_append]
    rw [e, e0, if_pos h, addNew_new _ _ (fun x hx hm => ?_) (by simp)]
    rw [List.mem_singleton.mp hx] at hm
    have := h1 0 hm
    omega
  · have : l = 0 := by omega
    subst this
    rfl
@[simp] theorem p_sliceF (xs : List D) (l u : Option Int) : pSlice (.fz xs) l u = some (.nl (DL.cutD xs l u)) := id rfl
theorem cut_ints (ns : List Int) (l u : Option Int) : ∃ ms, DL.cutD (dInts ns) l u = dInts ms ∧ ms.length ≤ ns.length := by
  refine ⟨(ns.drop (HT.sIx (dInts ns).length 0 l)).take (HT.sIx (dInts ns).length (dInts ns).length u - HT.sIx (dInts ns).length 0 l), ?_, ?_⟩
  · unfold DL.cutD
    simp [dInts, List.map_take, List.map_drop]
  · simp
    omega
theorem item_int {x : D} {i : Int} {ms : List Int} {j : Nat} (hj : (D.int i :: dInts ms)[j]? = some x) : ∃ n : Int, x = .int n := by
  cases j with
  | zero => cases hj; exact ⟨_, rfl⟩
  | succ j =>
    rw [List.getElem?_cons_succ] at hj
    simp only [dInts, List.getElem?_map, Option.map_eq_some_iff] at hj
    obtain ⟨n, _, rfl⟩ := hj
    exact ⟨n, rfl⟩
def lastUp (ps : List Nat) (l : Nat) : Nat := (up ps l).getLast?.getD 0
theorem lastUp_at {ps : List Nat} (l : Nat) : atI (dNats (up ps l)) (-1) = some (.int (lastUp ps l : Nat)) ∧ lastUp ps l ∈ up ps l := by
  obtain ⟨i, t, h⟩ := upF_last ps l l
  have h : up ps l = i ++ [t] := h
  have e : lastUp ps l = t := by rw [lastUp, h]; simp
  rw [e, h, dNats_snoc]
  exact ⟨DL.atI_last _ _, by simp⟩

@[simp] theorem p_sliceT (xs : List D) (l u : Option Int) : pSlice (.tup xs) l u = some (.d (.tup (DL.cutD xs l u))) := id rfl
def cutN (ns : List Nat) (l u : Option Int) : List Nat := (ns.drop (HT.sIx ns.length 0 l)).take (HT.sIx ns.length ns.length u - HT.sIx ns.length 0 l)
theorem cut_nats (ns : List Nat) (l u : Option Int) : DL.cutD (dNats ns) l u = dNats (cutN ns l u) := by
  unfold DL.cutD cutN
  rw [dNats_len]
  simp [dNats]
theorem cutN_mem {ns : List Nat} {l u : Option Int} : ∀ x ∈ cutN ns l u, x ∈ ns := fun x h => List.mem_of_mem_drop (List.mem_of_mem_take h)
theorem cutN_len (ns : List Nat) (l u : Option Int) : (cutN ns l u).length ≤ ns.length := by
  unfold cutN
  rw [List.length_take, List.length_drop]
  omega
theorem dNats_app (a b : List Nat) : dNats a ++ dNats b = dNats (a ++ b) := by simp [dNats]
theorem dNats_rev (a : List Nat) : (dNats a).reverse = dNats a.reverse := by simp [dNats]
theorem addN (a b : List Nat) (h : a.length + b.length ≤ 1000) : pAdd [.tup (dNats a), .tup (dNats b)] = some (.d (.tup (dNats (a ++ b)))) := by
  rw [p_addT, dNats_len, dNats_len, if_pos (by rw [sizeLine_eq]; omega), dNats_app]
theorem sIx_m1 (n d : Nat) : HT.sIx n d (some (-1)) = n - 1 := by
  show (if (-1 : Int) < 0 then ((-1 : Int) + (n : Int)).toNat else min (-1 : Int).toNat n) = n - 1
  rw [if_pos (by omega)]
  omega
@[simp] theorem p_sliceL (xs : List D) (l u : Option Int) : pSlice (.lst xs) l u = some (.nl (DL.cutD xs l u)) := id rfl

structure Cat where
  ps : List Nat
  key : Bool
  w : Nat
  rows : List (List (Option Nat))
def optD : Option Nat → D
  | none => .non
  | some t => .int (t : Nat)
def rowD (r : List (Option Nat)) : D := .tup (r.map optD)
def rowsD (c : Cat) : D := .tup (c.rows.map rowD)
def wayD (k : Bool) : D := .str (if k = true then "key" else "bundle")
def catD (c : Cat) : D := .tup [treeD c.ps, wayD c.key, rowsD c]
structure CatOk (c : Cat) : Prop where
  tree : TreeOk c.ps
  w1 : 1 ≤ c.w
  w4 : c.w ≤ 4
  len : c.rows.length = c.ps.length + 1
  wid : ∀ r ∈ c.rows, r.length = c.w
  txt : ∀ r ∈ c.rows, ∀ t, some t ∈ r → t ≤ 9
def row (c : Cat) (l : Nat) : List (Option Nat) := c.rows.getD l []
def cell (c : Cat) (l k : Nat) : Option Nat := (row c l).getD k none
@[simp] theorem isNon_opt (o : Option Nat) : isNonD (optD o) = o.isNone := by cases o <;> rfl
theorem row_get {c : Cat} (h : CatOk c) {l : Nat} (hl : l ≤ c.ps.length) : c.rows[l]? = some (row c l) := by
  have : l < c.rows.length := by rw [h.len]; omega
  simp [row, List.getD, this]
theorem row_mem {c : Cat} (h : CatOk c) {l : Nat} (hl : l ≤ c.ps.length) : row c l ∈ c.rows := List.mem_of_getElem? (row_get h hl)
theorem row_len {c : Cat} (h : CatOk c) {l : Nat} (hl : l ≤ c.ps.length) : (row c l).length = c.w := h.wid _ (row_mem h hl)
theorem at_row {c : Cat} (h : CatOk c) {l : Nat} (hl : l ≤ c.ps.length) : atI (c.rows.map rowD) (l : Nat) = some (rowD (row c l)) := by
  rw [DL.atI_nat, List.getElem?_map, row_get h hl]
  rfl
theorem cell_get {c : Cat} (h : CatOk c) {l k : Nat} (hl : l ≤ c.ps.length) (hk : k < c.w) : (row c l)[k]? = some (cell c l k) := by
  have : k < (row c l).length := by rw [row_len h hl]; exact hk
  simp [cell, List.getD, this]
theorem at_cell {c : Cat} (h : CatOk c) {l k : Nat} (hl : l ≤ c.ps.length) (hk : k < c.w) : atI ((row c l).map optD) (k : Nat) = some (optD (cell c l k)) := by
  rw [DL.atI_nat, List.getElem?_map, cell_get h hl hk]
  rfl
theorem cell_le {c : Cat} (h : CatOk c) {l k t : Nat} (hl : l ≤ c.ps.length) (hk : k < c.w) (e : cell c l k = some t) : t ≤ 9 :=
  h.txt _ (row_mem h hl) t (by rw [← e]; exact List.mem_of_getElem? (cell_get h hl hk))
/-- rows, cells by their places -/
theorem ix_rows {c : Cat} (h : CatOk c) {l : Nat} (hl : l ≤ c.ps.length) : pIx [rowsD c, .int (l : Nat)] = some (.d (rowD (row c l))) := by
  rw [rowsD, p_ixT, at_row h hl]; rfl
theorem ix_row {c : Cat} (h : CatOk c) {l k : Nat} (hl : l ≤ c.ps.length) (hk : k < c.w) : pIx [rowD (row c l), .int (k : Nat)] = some (.d (optD (cell c l k))) := by
  rw [rowD, p_ixT, at_cell h hl hk]; rfl
@[simp] theorem pLen_tree (ps : List Nat) : pLen [treeD ps] = some (.d (.int ((ps.length : Int) + 1))) := by
  have d := dNats_len ps
  simp [treeD, d]
@[simp] theorem pLen_row (r : List (Option Nat)) : pLen [rowD r] = some (.d (.int (r.length : Nat))) := by simp [rowD]
@[simp] theorem pLen_rows (c : Cat) : pLen [rowsD c] = some (.d (.int (c.rows.length : Nat))) := by simp [rowsD]
@[simp] theorem cat_0 (c : Cat) : pIx [catD c, .int 0] = some (.d (treeD c.ps)) := by simp [catD]
@[simp] theorem cat_1 (c : Cat) : pIx [catD c, .int 1] = some (.d (wayD c.key)) := by simp [catD]
@[simp] theorem cat_2 (c : Cat) : pIx [catD c, .int 2] = some (.d (rowsD c)) := by simp [catD]
@[simp] theorem g_cat (c : Cat) (m : List D → DEnv → Option DEnv) (env : DEnv) : gTupD 3 m (catD c) env = m [treeD c.ps, wayD c.key, rowsD c] env := id rfl
@[simp] theorem seq_row (r : List (Option Nat)) : dSeqOf (rowD r) = some (r.map optD) := rfl
@[simp] theorem seq_rows (c : Cat) : dSeqOf (rowsD c) = some (c.rows.map rowD) := rfl
@[simp] theorem pIsI_str (x : Str) : pIsI "str" [.str x] = some (.d (.bl true)) := by
  have h : kitB "str" "str" = some true := by decide
  simp [pIsI, tyOf, h]
theorem deq_way (a b : Bool) : deq (wayD a) (wayD b) = decide (a = b) := by
  cases a <;> cases b <;> simp [deq, toP, PyData.eqv, wayD] <;> decide
@[simp] theorem eq_key (k : Bool) : pEq [wayD k, .str "key"] = some (.d (.bl k)) := by
  have h1 : okD (wayD k) = true := okD_str (by cases k <;> exact strOk_of _)
  have h2 : okD (.str "key") = true := okD_str (strOk_of _)
  have h3 : deq (wayD k) (.str "key") = k := by
    have := deq_way k true
    simp only [wayD, if_true] at this ⊢
    rw [this]
    cases k <;> rfl
  simp [pEq, h1, h2, h3]
@[simp] theorem eq_bundle (k : Bool) : pEq [wayD k, .str "bundle"] = some (.d (.bl (!k))) := by
  have h1 : okD (wayD k) = true := okD_str (by cases k <;> exact strOk_of _)
  have h2 : okD (.str "bundle") = true := okD_str (strOk_of _)
  have h3 : deq (wayD k) (.str "bundle") = !k := by
    have := deq_way k false
    simp only [wayD] at this ⊢
    cases k <;> exact this
  simp [pEq, h1, h2, h3]
theorem blsOf_true {α : Type} (xs : List α) : blsOf (xs.map fun _ => D.bl true) = some (xs.map fun _ => true) := blsOf_map xs fun _ => true
theorem all_true {α : Type} (xs : List α) : (xs.map fun _ => true).all id = true := by induction xs <;> simp_all
theorem pAll_true {α : Type} (xs : List α) : pAll [.lst (xs.map fun _ => D.bl true)] = some (.d (.bl true)) := by
  simp [pAll, blsOf_true]
/-- the first of the locales with a text -/
def fpl (c : Cat) (ls : List Nat) (k : Nat) : Option Nat := ls.find? fun l => (cell c l k).isSome
/-- there is an entry on the path -/
def rowHas (r : List (Option Nat)) : Bool := r.any Option.isSome
def held (c : Cat) (l : Nat) : Bool := (up c.ps l).any fun s => rowHas (row c s)
theorem up_le {ps : List Nat} (ht : TreeOk ps) {l : Nat} (hl : l ≤ ps.length) : ∀ s ∈ up ps l, s ≤ ps.length := fun s hs => by
  have := upF_mem ht l l s hs
  omega
theorem dLoop_I {α : Type} {vs : List Nat} {g : DG} {c : DT} {e : DE} (G : α → D) (I : Nat → List D → DEnv → Prop) : ∀ (ys : List α) (k : Nat) (acc : List D) (env : DEnv), I k acc env → acc.length ≤ k → k + ys.length ≤ sizeLine →
    (∀ j y acc env, ys[j]? = some y → I (k + j) acc env → ∃ env2, g (G y) env = some env2 ∧ Fin (c env2) fun b e2 => if b = true then Fin (e e2) fun r e3 => I (k + j + 1) (acc ++ [r.d]) (wipeD e3 vs) else I (k + j + 1) acc (wipeD e2 vs)) →
    ∃ acc' env', dLoop vs g c e (ys.map G) acc env = .ok acc' env' ∧ I (k + ys.length) acc' env'
  | [], k, acc, env, h, _, _, _ => ⟨acc, env, by simp [dLoop], h⟩
  | y :: ys, k, acc, env, h, ha, hl, step => by
    obtain ⟨env2, e1, hc⟩ := step 0 y acc env rfl h
    obtain ⟨b, e2, q1, q2⟩ := fin_iff.mp hc
    rw [List.length_cons] at hl
    have st : ∀ j z acc env, ys[j]? = some z → I (k + 1 + j) acc env → ∃ env2, g (G z) env = some env2 ∧ Fin (c env2) fun b e2 => if b = true then Fin (e e2) fun r e3 => I (k + 1 + j + 1) (acc ++ [r.d]) (wipeD e3 vs) else I (k + 1 + j + 1) acc (wipeD e2 vs) := fun j z acc env hz hI => by
      have := step (j + 1) z acc env (by simpa using hz) (by rw [show k + (j + 1) = k + 1 + j by omega]; exact hI)
      rw [show k + (j + 1) + 1 = k + 1 + j + 1 by omega] at this
      exact this
    rw [List.map_cons, dLoop, e1]
    cases b with
    | true =>
      rw [if_pos rfl] at q2
      obtain ⟨r, e3, q3, q4⟩ := fin_iff.mp q2
      obtain ⟨acc', env', q5, q6⟩ := dLoop_I G I ys (k + 1) (acc ++ [r.d]) (wipeD e3 vs) q4 (by rw [List.length_append, List.length_singleton]; omega) (by omega) st
      refine ⟨acc', env', ?_, by rw [List.length_cons, show k + (ys.length + 1) = k + 1 + ys.length by omega]; exact q6⟩
      simp only [q1, q3]
      rw [if_pos (by omega), q5]
    | false =>
      rw [if_neg (by simp)] at q2
      obtain ⟨acc', env', q5, q6⟩ := dLoop_I G I ys (k + 1) acc (wipeD e2 vs) q2 (by omega) (by omega) st
      refine ⟨acc', env', ?_, by rw [List.length_cons, show k + (ys.length + 1) = k + 1 + ys.length by omega]; exact q6⟩
      simp only [q1]
      rw [q5]
theorem fin_compI {α : Type} {vs : List Nat} {it : DI} {g : DG} {c : DT} {e : DE} {env : DEnv} {P : Ent → DEnv → Prop} (env1 : DEnv) (G : α → D) (ys : List α) (I : Nat → List D → DEnv → Prop) (hi : Fin (it env) fun xs e => xs = ys.map G ∧ e = env1) (hl : ys.length ≤ sizeLine) (h0 : I 0 [] (wipeD env1 vs))
    (step : ∀ j y acc env, ys[j]? = some y → I j acc env → ∃ env2, g (G y) env = some env2 ∧ Fin (c env2) fun b e2 => if b = true then Fin (e e2) fun r e3 => I (j + 1) (acc ++ [r.d]) (wipeD e3 vs) else I (j + 1) acc (wipeD e2 vs))
    (z : ∀ acc env, I ys.length acc env → P ⟨.own, .lst acc⟩ (backD env1 env vs)) : Fin (dComp vs it g c e env) P := by
  obtain ⟨acc, env', e1, h1⟩ := dLoop_I (g := g) (c := c) (e := e) (vs := vs) G I ys 0 [] (wipeD env1 vs) h0 (Nat.le_refl _) (by omega) fun j y acc env hy hI => by
    rw [Nat.zero_add] at *
    exact step j y acc env hy hI
  rw [Nat.zero_add] at h1
  obtain ⟨ys', e2, hi1, rfl, rfl⟩ := fin_iff.mp hi
  refine fin_iff.mpr ⟨_, _, ?_, z acc env' h1⟩
  unfold dComp
  rw [hi1, bind_ok, e1]
theorem range_get {n j y : Nat} (h : (List.range n)[j]? = some y) : y = j ∧ j < n := by
  obtain ⟨h1, h2⟩ := List.getElem?_eq_some_iff.mp h
  rw [List.getElem_range] at h2
  rw [List.length_range] at h1
  exact ⟨h2.symm, h1⟩
theorem cut_take (xs : List D) (j : Nat) : DL.cutD xs none (some (j : Int)) = xs.take j := by
  unfold DL.cutD
  rw [HT.sIx_none, HT.sIx_nat, List.drop_zero, Nat.sub_zero, List.take_eq_take_iff]
  omega
theorem cut_drop (xs : List D) (j : Nat) : DL.cutD xs (some ((j : Int) + 1)) none = xs.drop (j + 1) := by
  unfold DL.cutD
  rw [HT.sIx_none, show ((j : Int) + 1) = ((j + 1 : Nat) : Int) by omega, HT.sIx_nat]
  by_cases h : j + 1 ≤ xs.length
  · rw [Nat.min_eq_left h]
    exact List.take_of_length_le (by rw [List.length_drop]; exact Nat.le_refl _)
  · rw [Nat.min_eq_right (by omega), Nat.sub_self, List.take_zero, List.drop_of_length_le (by omega)]
theorem addT_ok {xs ys : List D} (h : xs.length + ys.length ≤ 1000) : pAdd [.tup xs, .tup ys] = some (.d (.tup (xs ++ ys))) := by
  have : xs.length + ys.length ≤ sizeLine := by rw [sizeLine_eq]; omega
  simp [this]
theorem set_cut {α : Type} (l : List α) (i : Nat) (a : α) (h : i < l.length) : l.set i a = l.take i ++ [a] ++ l.drop (i + 1) := by
  rw [List.set_eq_take_append_cons_drop, if_pos h]
  simp

theorem fin_seqM {a b : DS} {env : DEnv} {P : Fl → DEnv → Prop} (M : DEnv → Prop) (h1 : Fin (a env) fun fl e => fl = .nx ∧ M e) (h2 : ∀ e, M e → Fin (b e) P) : Fin (dSeq a b env) P := by
  rw [fin_seq]
  refine h1.mono fun fl e ⟨hf, hm⟩ => ?_
  subst hf
  rw [contS_nx]
  exact h2 e hm

def pot (a b c : Int) : D := .lst [.int a, .int b, .int c]
structure PotOk (b : Int) : Prop where
  lo : 0 ≤ b
  hi : b < 999999999999999989
theorem pot_spec (n : Int) : ∃ a b : Int, f__law_pot [⟨.shr, .int n⟩] = .ok ⟨.own, pot a b 0⟩ .non ∧ PotOk b := by
  have hz : 3 ≤ sizeLine := by rw [sizeLine_eq]; omega
  have key : PotOk (n % 999999999999999989) := ⟨Int.emod_nonneg n (by decide), Int.emod_lt_of_pos n (by decide)⟩
  by_cases h0 : 1000000000000000000 ≤ n
  · exact ⟨n - 1000000000000000000, _, def_eq rfl (by simp [m__law_pot, h0, hz, pot]), key⟩
  · exact ⟨0, _, def_eq rfl (by simp [m__law_pot, h0, hz, pot]), key⟩
theorem pickP_spec {a b c s n : Int} (hb : PotOk b) (hc : 0 ≤ c ∧ c ≤ n) (hn : n ≤ 1000000) (hs : 0 < s ∧ s ≤ 4096) :
    ∃ r a' c', f__law_pick [⟨.own, pot a b c⟩, ⟨.shr, .int s⟩] = .ok ⟨.shr, .int r⟩ (pot a' b c') ∧ (0 ≤ r ∧ r < s) ∧ 0 ≤ c' ∧ c' ≤ n + 1 := by
  have hs2 : s.natAbs.log2 < 9000 := Nat.lt_trans (log_le (k := 13) (by omega) (by omega) (by decide)) (by decide)
  obtain ⟨hb1, hb2⟩ := hb
  suffices q : FinF (f__law_pick [⟨.own, pot a b c⟩, ⟨.shr, .int s⟩]) fun x o => ∃ r a' c', (x = ⟨.shr, .int r⟩ ∧ o = pot a' b c') ∧ (0 ≤ r ∧ r < s) ∧ 0 ≤ c' ∧ c' ≤ n + 1 by
    obtain ⟨x, o, e, r, a', c', ⟨rfl, rfl⟩, h⟩ := finF_iff.mp q
    exact ⟨r, a', c', e, h⟩
  refine finF_def rfl ?_
  by_cases ha : 0 < a
  · have h1 : 0 ≤ a % s := Int.emod_nonneg a (by omega)
    have h2 : a % s < s := Int.emod_lt_of_pos a hs.1
    simp [m__law_pick, pot, ha, hs.1, hs2, ixN_0, ixN_2]
    exact ⟨_, _, _, ⟨rfl, rfl, rfl⟩, ⟨h1, h2⟩, by omega, by omega⟩
  · obtain ⟨t, ht⟩ : ∃ t, t = c + 1 := ⟨_, rfl⟩
    have t0 : 0 ≤ t ∧ t ≤ 1000001 := by omega
    have w1 : wideMul 43 t = true := mul_wide (i := 6) (j := 24) (by omega) (by omega) (by omega) (by omega) (by omega) (by omega) (by omega)
    have w2 : wideMul (43 * t) t = true := mul_wide (i := 30) (j := 24) (by omega) (by omega) (by omega) (by omega) (by omega) (by omega) (by omega)
    have c2 : 43 * t * t < 2 ^ 47 ∧ 0 ≤ 43 * t * t := by
      have h1 : 43 * t * t ≤ 43000043 * 1000001 := Int.mul_le_mul (by omega) (by omega) (by omega) (by omega)
      exact ⟨by omega, Int.mul_nonneg (by omega) (by omega)⟩
    have w3 : wideMul 130363 t = true := mul_wide (i := 20) (j := 24) (by omega) (by omega) (by omega) (by omega) (by omega) (by omega) (by omega)
    have w4 : wideMul (b + 61) (43 * t * t + 130363 * t + 11) = true := mul_wide (i := 62) (j := 50) (by omega) (by omega) (by omega) (by omega) (by omega) (by omega) (by omega)
    have w5 : wideMul 23 t = true := mul_wide (i := 6) (j := 24) (by omega) (by omega) (by omega) (by omega) (by omega) (by omega) (by omega)
    have x0 : 0 ≤ (b + 61) * (43 * t * t + 130363 * t + 11) + 23 * t ∧ (b + 61) * (43 * t * t + 130363 * t + 11) + 23 * t < 2 ^ 120 := by
      have h1 : (b + 61) * (43 * t * t + 130363 * t + 11) ≤ 2 ^ 62 * 2 ^ 50 := Int.mul_le_mul (by omega) (by omega) (by omega) (by omega)
      have h2 : 0 ≤ (b + 61) * (43 * t * t + 130363 * t + 11) := Int.mul_nonneg (by omega) (by omega)
      generalize (b + 61) * (43 * t * t + 130363 * t + 11) = z at h1 h2 ⊢
      omega
    generalize hx : (b + 61) * (43 * t * t + 130363 * t + 11) + 23 * t = x at x0
    have w6 : wideMul x x = true := mul_wide (i := 121) (j := 121) (by omega) (by omega) (by omega) (by omega) (by omega) (by omega) (by omega)
    have w7 : wideMul 524287 x = true := mul_wide (i := 20) (j := 121) (by omega) (by omega) (by omega) (by omega) (by omega) (by omega) (by omega)
    generalize hy : (x * x + 524287 * x) % 1000000000000000003 / 1021 = y
    have y0 : 0 ≤ y ∧ y < 1000000000000000003 := by
      rw [← hy]
      have h1 := Int.emod_nonneg (x * x + 524287 * x) (by decide : (1000000000000000003 : Int) ≠ 0)
      have h2 := Int.emod_lt_of_pos (x * x + 524287 * x) (by decide : (0 : Int) < 1000000000000000003)
      omega
    have w8 : wideMul y y = true := mul_wide (i := 61) (j := 61) (by omega) (by omega) (by omega) (by omega) (by omega) (by omega) (by omega)
    have w9 : wideMul 8191 y = true := mul_wide (i := 20) (j := 61) (by omega) (by omega) (by omega) (by omega) (by omega) (by omega) (by omega)
    have l1 : (1021 : Nat).log2 < 9000 := by decide
    have l2 : (32 : Nat).log2 < 9000 := by decide
    generalize hz : (y * y + 8191 * y + t) % 2147483629 / 32 % s = z
    have z0 : 0 ≤ z ∧ z < s := by
      rw [← hz]
      exact ⟨Int.emod_nonneg _ (by omega), Int.emod_lt_of_pos _ hs.1⟩
    simp [m__law_pick, pot, ha, hs.1, ixN_2, ← ht, w1, w2, w3, w4, w5, hx, w6, w7, l1, hy, w8, w9, l2, hz]
    exact ⟨_, _, _, ⟨rfl, rfl, rfl⟩, z0, by omega, by omega⟩

theorem eq_litX {a b : Str} (ha : PyData.strOk a = true) (hb : PyData.strOk b = true) {r : Bool} (e : (a == b) = r) : pEq [.str a, .str b] = some (.d (.bl r)) := by
  have e : deq (.str a) (.str b) = r := by
    simp only [deq, toP, PyData.eqv]
    exact e
  simp [pEq, okD_str ha, okD_str hb, e]
theorem ne_litX {a b : Str} (ha : PyData.strOk a = true) (hb : PyData.strOk b = true) {r : Bool} (e : (a == b) = r) : pNe [.str a, .str b] = some (.d (.bl (!r))) := by
  have e : deq (.str a) (.str b) = r := by
    simp only [deq, toP, PyData.eqv]
    exact e
  simp [pNe, okD_str ha, okD_str hb, e]
theorem eqw_oo : pEq [.str "only", .str "only"] = some (.d (.bl true)) := eq_litX (by decide +kernel) (by decide +kernel) (by decide +kernel)
theorem eqw_ol : pEq [.str "only", .str "lift"] = some (.d (.bl false)) := eq_litX (by decide +kernel) (by decide +kernel) (by decide +kernel)
theorem eqw_os : pEq [.str "only", .str "swap"] = some (.d (.bl false)) := eq_litX (by decide +kernel) (by decide +kernel) (by decide +kernel)
theorem eqw_oh : pEq [.str "only", .str "head"] = some (.d (.bl false)) := eq_litX (by decide +kernel) (by decide +kernel) (by decide +kernel)
theorem eqw_op : pEq [.str "only", .str "pad"] = some (.d (.bl false)) := eq_litX (by decide +kernel) (by decide +kernel) (by decide +kernel)
theorem eqw_lo : pEq [.str "lift", .str "only"] = some (.d (.bl false)) := eq_litX (by decide +kernel) (by decide +kernel) (by decide +kernel)
theorem eqw_ll : pEq [.str "lift", .str "lift"] = some (.d (.bl true)) := eq_litX (by decide +kernel) (by decide +kernel) (by decide +kernel)
theorem eqw_ls : pEq [.str "lift", .str "swap"] = some (.d (.bl false)) := eq_litX (by decide +kernel) (by decide +kernel) (by decide +kernel)
theorem eqw_lh : pEq [.str "lift", .str "head"] = some (.d (.bl false)) := eq_litX (by decide +kernel) (by decide +kernel) (by decide +kernel)
theorem eqw_lp : pEq [.str "lift", .str "pad"] = some (.d (.bl false)) := eq_litX (by decide +kernel) (by decide +kernel) (by decide +kernel)
theorem eqw_so : pEq [.str "swap", .str "only"] = some (.d (.bl false)) := eq_litX (by decide +kernel) (by decide +kernel) (by decide +kernel)
theorem eqw_sl : pEq [.str "swap", .str "lift"] = some (.d (.bl false)) := eq_litX (by decide +kernel) (by decide +kernel) (by decide +kernel)
theorem eqw_ss : pEq [.str "swap", .str "swap"] = some (.d (.bl true)) := eq_litX (by decide +kernel) (by decide +kernel) (by decide +kernel)
theorem eqw_sh : pEq [.str "swap", .str "head"] = some (.d (.bl false)) := eq_litX (by decide +kernel) (by decide +kernel) (by decide +kernel)
theorem eqw_sp : pEq [.str "swap", .str "pad"] = some (.d (.bl false)) := eq_litX (by decide +kernel) (by decide +kernel) (by decide +kernel)
theorem eqw_ho : pEq [.str "head", .str "only"] = some (.d (.bl false)) := eq_litX (by decide +kernel) (by decide +kernel) (by decide +kernel)
theorem eqw_hl : pEq [.str "head", .str "lift"] = some (.d (.bl false)) := eq_litX (by decide +kernel) (by decide +kernel) (by decide +kernel)
theorem eqw_hs : pEq [.str "head", .str "swap"] = some (.d (.bl false)) := eq_litX (by decide +kernel) (by decide +kernel) (by decide +kernel)
theorem eqw_hh : pEq [.str "head", .str "head"] = some (.d (.bl true)) := eq_litX (by decide +kernel) (by decide +kernel) (by decide +kernel)
theorem eqw_hp : pEq [.str "head", .str "pad"] = some (.d (.bl false)) := eq_litX (by decide +kernel) (by decide +kernel) (by decide +kernel)
theorem eqw_po : pEq [.str "pad", .str "only"] = some (.d (.bl false)) := eq_litX (by decide +kernel) (by decide +kernel) (by decide +kernel)
theorem eqw_pl : pEq [.str "pad", .str "lift"] = some (.d (.bl false)) := eq_litX (by decide +kernel) (by decide +kernel) (by decide +kernel)
theorem eqw_ps : pEq [.str "pad", .str "swap"] = some (.d (.bl false)) := eq_litX (by decide +kernel) (by decide +kernel) (by decide +kernel)
theorem eqw_ph : pEq [.str "pad", .str "head"] = some (.d (.bl false)) := eq_litX (by decide +kernel) (by decide +kernel) (by decide +kernel)
theorem eqw_pp : pEq [.str "pad", .str "pad"] = some (.d (.bl true)) := eq_litX (by decide +kernel) (by decide +kernel) (by decide +kernel)
theorem fir_spec {a b c n : Int} {k : Int} (hb : PotOk b) (hc : 0 ≤ c ∧ c ≤ n) (hn : n ≤ 900000) (hk : 1 ≤ k ∧ k ≤ 10) :
    ∃ ps a' c', f__law_drawn_fir [⟨.own, pot a b c⟩, ⟨.shr, .int k⟩] = .ok ⟨.shr, treeD ps⟩ (pot a' b c') ∧ TreeOk ps ∧ (ps.length : Int) < k ∧ 0 ≤ c' ∧ c' ≤ n + 12 := by
  obtain ⟨r, a1, c1, e1, hr, hc1⟩ := pickP_spec (a := a) (s := k) hb hc (by omega) ⟨by omega, by omega⟩
  obtain ⟨q, a2, c2, e2, hq, hc2⟩ := pickP_spec (a := a1) (s := 6) hb hc1 (by omega) ⟨by omega, by omega⟩
  suffices z : FinF (f__law_drawn_fir [⟨.own, pot a b c⟩, ⟨.shr, .int k⟩]) fun x o => ∃ ps a' c', (x = ⟨.shr, treeD ps⟩ ∧ o = pot a' b c') ∧ TreeOk ps ∧ (ps.length : Int) < k ∧ 0 ≤ c' ∧ c' ≤ n + 12 by
    obtain ⟨x, o, e, r, a', c', ⟨rfl, rfl⟩, h⟩ := finF_iff.mp z
    exact ⟨r, a', c', e, h⟩
  refine finF_def rfl ?_
  let I : Nat → DEnv → Prop := fun j env => ∃ a3 c3 ps e5 e6, env = [some ⟨.own, pot a3 b c3⟩, some ⟨.shr, .int k⟩, some ⟨.shr, .int (1 + r)⟩, some ⟨.shr, .int q⟩, some ⟨.own, .lst (.non :: dNats ps)⟩, e5, e6] ∧
    ps.length = j ∧ TreeOk ps ∧ 0 ≤ c3 ∧ c3 ≤ n + 2 + j
  have sm1 : small62 1 = true := by decide
  have sm2 : small62 (1 + r) = true := by simp only [small62, Bool.and_eq_true, decide_eq_true_eq]; omega
  simp [m__law_drawn_fir, e1, e2, rng2, sm1, sm2, sizeLine_eq]
  refine fin_for I ⟨a2, c2, [], none, none, rfl, rfl, ⟨by simp, fun i p h => by simp at h⟩, hc2.1, by omega⟩ (fun j x env hj hI => ?_) fun env hI => ?_
  · obtain ⟨a3, c3, ps, e5, e6, rfl, hl, ht, hc3⟩ := hI
    rw [rngD_get] at hj
    split at hj
    · rename_i hj2
      cases hj
      refine ⟨_, rfl, ?_⟩
      have fin : ∀ (a4 c4 : Int) (p : Int) (e5 e6 : Option Ent), 0 ≤ p → p ≤ j → 0 ≤ c4 → c4 ≤ n + 2 + (j + 1) → I (j + 1) [some ⟨.own, pot a4 b c4⟩, some ⟨.shr, .int k⟩, some ⟨.shr, .int (1 + r)⟩, some ⟨.shr, .int q⟩, some ⟨.own, .lst (.non :: (dNats ps ++ [.int p]))⟩, e5, e6] := fun a4 c4 p e5 e6 h0 h1 h2 h3 => by
        refine ⟨a4, c4, ps ++ [p.toNat], e5, e6, ?_, by rw [List.length_append, List.length_singleton, hl], ht.snoc (by omega) (by omega), h2, by omega⟩
        rw [dNats_snoc, show ((p.toNat : Nat) : Int) = p by omega]
      have hsz : ps.length + 1 < sizeLine := by rw [sizeLine_eq]; have := ht.len; omega
      have hq6 : q = 0 ∨ q = 1 ∨ q = 2 ∨ q = 3 ∨ q = 4 ∨ q = 5 := by omega
      obtain ⟨p, a4, c4, e4, hp, hc4⟩ := pickP_spec (a := a3) (s := 1 + (j : Int)) hb hc3 (by omega) ⟨by omega, by omega⟩
      rcases hq6 with rfl | rfl | rfl | rfl | rfl | rfl <;> simp [e4, dNats_len, hsz]
      · exact fin _ _ _ _ _ (by omega) (by omega) hc4.1 (by omega)
      · exact fin _ _ _ _ _ (by omega) (by omega) hc4.1 (by omega)
      · exact fin _ _ _ _ _ (by split <;> omega) (by split <;> omega) hc4.1 (by omega)
      · exact fin _ _ _ _ _ hp.1 (by omega) hc4.1 (by omega)
      · exact fin _ _ _ _ _ hp.1 (by omega) hc4.1 (by omega)
      · exact fin _ _ _ _ _ hp.1 (by omega) hc4.1 (by omega)
    · cases hj
  · obtain ⟨a3, c3, ps, e5, e6, rfl, hl, ht, hc3⟩ := hI
    rw [rngD_len] at hl hc3
    simp
    exact ⟨_, _, _, ⟨rfl, rfl⟩, ht, by omega, hc3.1, by omega⟩
theorem asks_spec {a b c n : Int} {m : Nat} {L : Int} (hb : PotOk b) (hc : 0 ≤ c ∧ c ≤ n) (hn : n ≤ 900000) (hm : m ≤ 9) (hL : 0 ≤ L ∧ L ≤ 40) :
    ∃ ws a' c', f__law_drawn_asks [⟨.own, pot a b c⟩, ⟨.shr, .int ((m : Int) + 1)⟩, ⟨.shr, .int L⟩] = .ok ⟨.shr, .tup (dNats ws)⟩ (pot a' b c') ∧ (∀ w ∈ ws, w ≤ m) ∧ ws.length ≤ 40 ∧ 0 ≤ c' ∧ c' ≤ n + 45 := by
  suffices z : FinF (f__law_drawn_asks [⟨.own, pot a b c⟩, ⟨.shr, .int ((m : Int) + 1)⟩, ⟨.shr, .int L⟩]) fun x o => ∃ ws a' c', (x = ⟨.shr, .tup (dNats ws)⟩ ∧ o = pot a' b c') ∧ (∀ w ∈ ws, w ≤ m) ∧ ws.length ≤ 40 ∧ 0 ≤ c' ∧ c' ≤ n + 45 by
    obtain ⟨x, o, e, r, a', c', ⟨rfl, rfl⟩, h⟩ := finF_iff.mp z
    exact ⟨r, a', c', e, h⟩
  refine finF_def rfl ?_
  obtain ⟨r, a1, c1, e1, hr, hc1⟩ := pickP_spec (a := a) (s := 2) hb hc (by omega) ⟨by omega, by omega⟩
  have hz2 : 2 ≤ sizeLine := by rw [sizeLine_eq]; omega
  obtain ⟨u, hu, hu0⟩ : ∃ u : Int, atI [D.int (if L < 3 then L else 3), .int L] r = some (.int u) ∧ 0 ≤ u ∧ u ≤ 40 := by
    have : r = 0 ∨ r = 1 := by omega
    rcases this with rfl | rfl
    · exact ⟨_, rfl, by split <;> omega, by split <;> omega⟩
    · exact ⟨_, rfl, by omega, by omega⟩
  obtain ⟨q', a2, c2, e2, hq, hc2⟩ := pickP_spec (a := a1) (c := c1) (n := n + 1) (s := 1 + u) hb hc1 (by omega) ⟨by omega, by omega⟩
  obtain ⟨q, rfl⟩ : ∃ q : Nat, q' = (q : Int) := ⟨q'.toNat, by omega⟩
  have r2 := rng1_eq (sm62 (by omega) (by omega) : small62 (q : Int) = true)
  simp [m__law_drawn_asks, e1, hz2, hu, e2]
  refine fin_compI (α := Nat) [some ⟨.own, pot a2 b c2⟩, some ⟨.shr, .int ((m : Int) + 1)⟩, some ⟨.shr, .int L⟩, some ⟨.shr, .int (q : Nat)⟩, none] (fun i => D.int (i : Nat)) (List.range q) (fun j acc env => ∃ a' c' ws, env = [some ⟨.own, pot a' b c'⟩, some ⟨.shr, .int ((m : Int) + 1)⟩, some ⟨.shr, .int L⟩, some ⟨.shr, .int (q : Nat)⟩, none] ∧ acc = dNats ws ∧ (∀ w ∈ ws, w ≤ m) ∧ ws.length = j ∧ 0 ≤ c' ∧ c' ≤ n + 2 + j) (by simp [r2, rngD0]) (by rw [List.length_range, sizeLine_eq]; omega) ⟨a2, c2, [], rfl, rfl, (by simp), rfl, by omega, by omega⟩ (fun j y acc env hy hI => ?_) fun acc env hI => ?_
  · obtain ⟨a, c, ws, rfl, rfl, h2, h3, h4⟩ := hI
    obtain ⟨rfl, hy⟩ := range_get hy
    obtain ⟨r, a1, c1, e1, hr, hc1⟩ := pickP_spec (a := a) (c := c) (n := n + 2 + y) (s := (m : Int) + 1) hb h4 (by omega) ⟨by omega, by omega⟩
    obtain ⟨r', rfl⟩ : ∃ r' : Nat, r = (r' : Int) := ⟨r.toNat, by omega⟩
    refine ⟨_, rfl, ?_⟩
    simp [e1]
    refine ⟨a1, c1, rfl, ws ++ [r'], by simp [dNats], fun k hk => ?_, by simp [h3], by omega, by omega⟩
    rcases List.mem_append.mp hk with h | h
    · exact h2 k h
    · rw [List.mem_singleton.mp h]; omega
  · obtain ⟨a, c, ws, rfl, rfl, h2, h3, h4⟩ := hI
    rw [List.length_range] at *
    simp
    exact ⟨_, _, _, ⟨rfl, rfl⟩, h2, by omega, by omega, by omega⟩
def prD (p : Nat × Nat) : D := .tup [.int (p.1 : Nat), .int (p.2 : Nat)]
/-- doors -/
inductive GateOk (m : Nat) : D → Prop
  | wide (w : Str) (ws : List Nat) : w = "head" ∨ w = "pad" → (∀ x ∈ ws, x ≤ m) → ws.length ≤ 40 → GateOk m (.tup [.str w, .tup (dNats ws)])
  | asc (w : Str) (ks : List Nat) : w = "only" ∨ w = "lift" → ks.Pairwise (· < ·) → (∀ x ∈ ks, x ≤ m) → ks.length ≤ 10 → GateOk m (.tup [.str w, .tup (dNats ks)])
  | swap (prs : List (Nat × Nat)) : (prs.map (·.1)).Pairwise (· < ·) → (∀ p ∈ prs, p.1 ≤ m ∧ p.2 ≤ m) → prs.length ≤ 10 → GateOk m (.tup [.str "swap", .tup (prs.map prD)])
theorem marks_fin {a b c n : Int} {m : Nat} {o : Int} {e3 e5 : Option Ent} {L : Int} {P : Ent → DEnv → Prop} (hb : PotOk b) (hc : 0 ≤ c ∧ c ≤ n) (hn : n ≤ 900000) (hm : m ≤ 9) (ho : 1 ≤ o ∧ o ≤ 3)
    (z : ∀ ks a' c', ks.Pairwise (· < ·) → (∀ x ∈ ks, x ≤ m) → ks.length ≤ 10 → 0 ≤ c' → c' ≤ n + 10 → P ⟨.own, .lst (dNats ks)⟩ [some ⟨.own, pot a' b c'⟩, some ⟨.shr, .int ((m : Int) + 1)⟩, some ⟨.shr, .int L⟩, e3, some ⟨.shr, .int o⟩, e5, none]) :
    DL.Fin (dComp [6] (iArgs rng1 [.s 1]) (gSet 6) (dTst (dPrim pEq [.v (dCallR f__law_pick 0 [.v (dVar 4)]), .v (dC (.int 0))])) (dVar 6) [some ⟨.own, pot a b c⟩, some ⟨.shr, .int ((m : Int) + 1)⟩, some ⟨.shr, .int L⟩, e3, some ⟨.shr, .int o⟩, e5, none]) P := by
  have r2 := rng1_eq (sm62 (by omega) (by omega) : small62 ((m : Int) + 1) = true)
  rw [show ((m : Int) + 1).toNat = m + 1 by omega] at r2
  refine fin_compI (α := Nat) [some ⟨.own, pot a b c⟩, some ⟨.shr, .int ((m : Int) + 1)⟩, some ⟨.shr, .int L⟩, e3, some ⟨.shr, .int o⟩, e5, none] (fun i => D.int (i : Nat)) (List.range (m + 1)) (fun j acc env => ∃ a' c' ks, env = [some ⟨.own, pot a' b c'⟩, some ⟨.shr, .int ((m : Int) + 1)⟩, some ⟨.shr, .int L⟩, e3, some ⟨.shr, .int o⟩, e5, none] ∧ acc = dNats ks ∧ ks.Pairwise (· < ·) ∧ (∀ k ∈ ks, k < j) ∧ ks.length ≤ j ∧ 0 ≤ c' ∧ c' ≤ n + j) (by simp [r2, rngD0]) (by rw [List.length_range, sizeLine_eq]; omega) ⟨a, c, [], rfl, rfl, .nil, (by simp), Nat.le_refl _, by omega, by omega⟩ (fun j y acc env hy hI => ?_) fun acc env hI => ?_
  · obtain ⟨a, c, ks, rfl, rfl, h1, h2, h3, h4⟩ := hI
    obtain ⟨rfl, hy⟩ := range_get hy
    obtain ⟨r, a1, c1, e1, hr, hc1⟩ := pickP_spec (a := a) (c := c) (n := n + y) (s := o) hb h4 (by omega) ⟨by omega, by omega⟩
    refine ⟨_, rfl, ?_⟩
    by_cases h0 : r = 0
    · simp [e1, h0]
      refine ⟨a1, c1, rfl, ks ++ [y], by simp [dNats], List.pairwise_append.mpr ⟨h1, by simp, fun x hx z hz => by rw [List.mem_singleton.mp hz]; exact h2 x hx⟩, fun k hk => ?_, by simp; omega, by omega, by omega⟩
      rcases List.mem_append.mp hk with h | h
      · have := h2 k h; omega
      · rw [List.mem_singleton.mp h]; omega
    · simp [e1, h0]
      exact ⟨a1, c1, rfl, ks, rfl, h1, fun k hk => by have := h2 k hk; omega, by omega, by omega, by omega⟩
  · obtain ⟨a, c, ks, rfl, rfl, h1, h2, h3, h4⟩ := hI
    rw [List.length_range] at *
    exact z ks a c h1 (fun k hk => by have := h2 k hk; omega) (by omega) h4.1 (by omega)
theorem gate_spec {a b c n : Int} {m : Nat} {L : Int} (hb : PotOk b) (hc : 0 ≤ c ∧ c ≤ n) (hn : n ≤ 800000) (hm : m ≤ 9) (hL : 0 ≤ L ∧ L ≤ 40) :
    ∃ g a' c', f__law_drawn_gate [⟨.own, pot a b c⟩, ⟨.shr, .int ((m : Int) + 1)⟩, ⟨.shr, .int L⟩] = .ok ⟨.shr, g⟩ (pot a' b c') ∧ GateOk m g ∧ 0 ≤ c' ∧ c' ≤ n + 50 := by
  suffices z : FinF (f__law_drawn_gate [⟨.own, pot a b c⟩, ⟨.shr, .int ((m : Int) + 1)⟩, ⟨.shr, .int L⟩]) fun x o => ∃ g a' c', (x = ⟨.shr, g⟩ ∧ o = pot a' b c') ∧ GateOk m g ∧ 0 ≤ c' ∧ c' ≤ n + 50 by
    obtain ⟨x, o, e, r, a', c', ⟨rfl, rfl⟩, h⟩ := finF_iff.mp z
    exact ⟨r, a', c', e, h⟩
  refine finF_def rfl ?_
  have hz2 : 2 ≤ sizeLine := by rw [sizeLine_eq]; omega
  have hz3 : 3 ≤ sizeLine := by rw [sizeLine_eq]; omega
  have hz5 : 5 ≤ sizeLine := by rw [sizeLine_eq]; omega
  obtain ⟨r, a1, c1, e1, hr, hc1⟩ := pickP_spec (a := a) (s := 5) hb hc (by omega) ⟨by omega, by omega⟩
  obtain ⟨r2, a2, c2, e2, hr2, hc2⟩ := pickP_spec (a := a1) (c := c1) (n := n + 1) (s := 3) hb hc1 (by omega) ⟨by omega, by omega⟩
  obtain ⟨ws, a3, c3, e3, hws, hwl, hc3⟩ := asks_spec (a := a1) (c := c1) (n := n + 1) (m := m) (L := L) hb hc1 (by omega) hm hL
  obtain ⟨o, ho, ho1⟩ : ∃ o : Int, atI [D.int 2, .int 3, .int 1] r2 = some (.int o) ∧ 1 ≤ o ∧ o ≤ 3 := by
    have : r2 = 0 ∨ r2 = 1 ∨ r2 = 2 := by omega
    rcases this with rfl | rfl | rfl
    · exact ⟨_, rfl, by omega, by omega⟩
    · exact ⟨_, rfl, by omega, by omega⟩
    · exact ⟨_, rfl, by omega, by omega⟩
  have hr5 : r = 0 ∨ r = 1 ∨ r = 2 ∨ r = 3 ∨ r = 4 := by omega
  rcases hr5 with rfl | rfl | rfl | rfl | rfl
  · have a1' : atI [D.str "only", .str "lift", .str "swap", .str "head", .str "pad"] 0 = some (.str "only") := rfl
    simp [m__law_drawn_gate, e1, hz5, a1', eqw_oh, eqw_op, eqw_os, e2, hz3, ho]
    refine marks_fin (n := n + 2) hb ⟨hc2.1, by omega⟩ (by omega) hm ho1 fun ks a' c' k1 k2 k3 k4 k5 => ?_
    simp [eqw_os, hz2]
    exact ⟨_, _, _, ⟨rfl, rfl⟩, .asc _ ks (.inl rfl) k1 k2 k3, by omega, by omega⟩
  · have a1' : atI [D.str "only", .str "lift", .str "swap", .str "head", .str "pad"] 1 = some (.str "lift") := rfl
    simp [m__law_drawn_gate, e1, hz5, a1', eqw_lh, eqw_lp, eqw_ls, e2, hz3, ho]
    refine marks_fin (n := n + 2) hb ⟨hc2.1, by omega⟩ (by omega) hm ho1 fun ks a' c' k1 k2 k3 k4 k5 => ?_
    simp [eqw_ls, hz2]
    exact ⟨_, _, _, ⟨rfl, rfl⟩, .asc _ ks (.inr rfl) k1 k2 k3, by omega, by omega⟩
  · have a1' : atI [D.str "only", .str "lift", .str "swap", .str "head", .str "pad"] 2 = some (.str "swap") := rfl
    simp [m__law_drawn_gate, e1, hz5, a1', eqw_sh, eqw_sp, eqw_ss, e2, hz3, ho]
    refine marks_fin (n := n + 2) hb ⟨hc2.1, by omega⟩ (by omega) hm ho1 fun ks a' c' k1 k2 k3 k4 k5 => ?_
    simp [eqw_ss]
    refine fin_compI (α := Nat) [some ⟨.own, pot a' b c'⟩, some ⟨.shr, .int ((m : Int) + 1)⟩, some ⟨.shr, .int L⟩, some ⟨.shr, .str "swap"⟩, some ⟨.shr, .int o⟩, some ⟨.shr, .lst (dNats ks)⟩, none] (fun i => D.int (i : Nat)) ks (fun j acc env => ∃ (a' c' : Int) (prs : List (Nat × Nat)), env = [some ⟨.own, pot a' b c'⟩, some ⟨.shr, .int ((m : Int) + 1)⟩, some ⟨.shr, .int L⟩, some ⟨.shr, .str "swap"⟩, some ⟨.shr, .int o⟩, some ⟨.shr, .lst (dNats ks)⟩, none] ∧ acc = prs.map prD ∧ prs.map (·.1) = ks.take j ∧ (∀ p ∈ prs, p.2 ≤ m) ∧ 0 ≤ c' ∧ c' ≤ n + 12 + j) (by simp [dNats]) (by rw [sizeLine_eq]; omega) ⟨a', c', [], rfl, rfl, (by simp), (by simp), by omega, by omega⟩ (fun j y acc env hy hI => ?_) fun acc env hI => ?_
    · obtain ⟨a, c, prs, rfl, rfl, h1, h2, h4⟩ := hI
      have hj : j < ks.length := (List.getElem?_eq_some_iff.mp hy).1
      obtain ⟨r, a1, c1, e1, hr, hc1⟩ := pickP_spec (a := a) (c := c) (n := n + 12 + j) (s := (m : Int) + 1) hb h4 (by omega) ⟨by omega, by omega⟩
      obtain ⟨r', rfl⟩ : ∃ r' : Nat, r = (r' : Int) := ⟨r.toNat, by omega⟩
      refine ⟨_, rfl, ?_⟩
      simp [e1, hz2]
      refine ⟨a1, c1, rfl, prs ++ [(y, r')], by simp [prD], ?_, fun p q hp => ?_, by omega, by omega⟩
      · rw [take_get hy, ← h1]; simp
      · rcases List.mem_append.mp hp with h | h
        · exact h2 (p, q) h
        · have := List.mem_singleton.mp h; cases this; omega
    · obtain ⟨a, c, prs, rfl, rfl, h1, h2, h4⟩ := hI
      rw [List.take_length] at h1
      simp [hz2]
      have hl : prs.length = ks.length := by rw [← h1, List.length_map]
      refine ⟨_, _, _, ⟨rfl, rfl⟩, .swap prs (by rw [h1]; exact k1) (fun p hp => ⟨k2 _ (by rw [← h1]; exact List.mem_map_of_mem hp), h2 p hp⟩) (by omega), by omega, by omega⟩
  · have a1' : atI [D.str "only", .str "lift", .str "swap", .str "head", .str "pad"] 3 = some (.str "head") := rfl
    simp [m__law_drawn_gate, e1, hz5, a1', eqw_hh, e3, hz2]
    exact ⟨_, _, _, ⟨rfl, rfl⟩, .wide _ ws (.inl rfl) hws hwl, by omega, by omega⟩
  · have a1' : atI [D.str "only", .str "lift", .str "swap", .str "head", .str "pad"] 4 = some (.str "pad") := rfl
    simp [m__law_drawn_gate, e1, hz5, a1', eqw_ph, eqw_pp, e3, hz2]
    exact ⟨_, _, _, ⟨rfl, rfl⟩, .wide _ ws (.inr rfl) hws hwl, by omega, by omega⟩

def asc : List Int → Bool
  | a :: b :: r => decide (a < b) && asc (b :: r)
  | _ => true
def lt2 : Int × Int → Bool := fun p => decide (p.1 < p.2)
theorem asc_zip : ∀ ns : List Int, asc ns = (ns.zip ns.tail).all lt2
  | [] => rfl
  | [_] => rfl
  | a :: b :: r => by
    have ih := asc_zip (b :: r)
    simp only [List.tail_cons] at ih
    simp only [asc, List.tail_cons, List.zip_cons_cons, List.all_cons, ih]
    rfl
theorem zip_ints : ∀ (a b : List Int), zipD (a.map D.int) (b.map D.int) = (a.zip b).map fun p => D.pr (.int p.1) (.int p.2)
  | [], _ => by simp [zipD]
  | _ :: _, [] => by simp [zipD]
  | x :: xs, y :: ys => by
    have := zip_ints xs ys
    simp only [List.map_cons, zipD, List.zip_cons_cons, this]
theorem ascending_any {ns : List Int} (hl : ns.length ≤ 4000) : f_is_ascending [⟨.shr, .tup (ns.map D.int)⟩] = .ok ⟨.shr, .bl (asc ns)⟩ .non := by
  have s1 : pSlice (.tup (ns.map D.int)) (some 1) none = some (.d (.tup (ns.map D.int).tail)) := by
    rw [← List.drop_one]
    exact congrArg (fun z => some (PR.d (D.tup z))) (cut_drop _ 0)
  have z2 : zip2 [.tup (ns.map D.int), .tup (ns.map D.int).tail] = some ((ns.zip ns.tail).map fun p => D.pr (.int p.1) (.int p.2)) := by
    rw [← List.map_tail]
    simp only [zip2, seq_tup, zip_ints]
  refine def_eq rfl ?_
  simp [m_is_ascending, -p_sliceT]
  refine fin_compN (α := Int × Int) [some ⟨.shr, .tup (ns.map D.int)⟩, none, none] (fun p => D.pr (.int p.1) (.int p.2)) (fun p => D.bl (lt2 p)) (ns.zip ns.tail) (by simp [s1, z2, -p_sliceT]) (by rw [List.length_zip, sizeLine_eq]; omega) (fun p hp => ⟨_, rfl, by simp [lt2]⟩) ?_
  have q := blsOf_map (ns.zip ns.tail) lt2
  have q4 : pAll [.lst ((ns.zip ns.tail).map fun p => D.bl (lt2 p))] = some (.d (.bl (asc ns))) := by
    simp only [pAll, q, asc_zip]
    simp [List.all_map, Function.comp_def]
  generalize ((ns.zip ns.tail).map fun p => D.bl (lt2 p)) = L at q4
  simp [q4]
theorem asc_tup {ns : List Int} (hl : ns.length ≤ 4000) : f_is_ascending [⟨.shr, .tup (ns.map D.int)⟩] = .ok ⟨.shr, .bl (asc ns)⟩ .non := ascending_any hl
theorem asc_lst {ns : List Int} (hl : ns.length ≤ 4000) : f_is_ascending [⟨.shr, .lst (ns.map D.int)⟩] = .ok ⟨.shr, .bl (asc ns)⟩ .non := by
  have s1 : pSlice (.lst (ns.map D.int)) (some 1) none = some (.nl (ns.map D.int).tail) := by
    rw [← List.drop_one]
    exact congrArg (fun z => some (PR.nl z)) (cut_drop _ 0)
  have z2 : zip2 [.lst (ns.map D.int), .lst (ns.map D.int).tail] = some ((ns.zip ns.tail).map fun p => D.pr (.int p.1) (.int p.2)) := by
    rw [← List.map_tail]
    simp only [zip2, seq_lst, zip_ints]
  refine def_eq rfl ?_
  simp [m_is_ascending, -p_sliceL]
  refine fin_compN (α := Int × Int) [some ⟨.shr, .lst (ns.map D.int)⟩, none, none] (fun p => D.pr (.int p.1) (.int p.2)) (fun p => D.bl (lt2 p)) (ns.zip ns.tail) (by simp [s1, z2, -p_sliceL]) (by rw [List.length_zip, sizeLine_eq]; omega) (fun p hp => ⟨_, rfl, by simp [lt2]⟩) ?_
  have q := blsOf_map (ns.zip ns.tail) lt2
  have q4 : pAll [.lst ((ns.zip ns.tail).map fun p => D.bl (lt2 p))] = some (.d (.bl (asc ns))) := by
    simp only [pAll, q, asc_zip]
    simp [List.all_map, Function.comp_def]
  generalize ((ns.zip ns.tail).map fun p => D.bl (lt2 p)) = L at q4
  simp [q4]
theorem inD_two (w a b : Str) : inD (.str w) [.str a, .str b] = (w == a || w == b) := by
  have c : ∀ x y : Str, (x == y) = (y == x) := fun x y => by rw [Bool.eq_iff_iff, beq_iff_eq, beq_iff_eq]; exact eq_comm
  simp [inD, deq, toP, PyData.eqv, c a w, c b w]
theorem in_two (w a b : Str) : pInN false [.str w, .tup [.str a, .str b]] = some (.d (.bl (w == a || w == b))) := by
  rw [← inD_two]
  rfl
theorem has_wishesB {ps as : List Nat} (hok : ∀ a ∈ as, a ≤ ps.length) (hl : as.length ≤ 4000) : f_has_wishes [⟨.shr, treeD ps⟩, ⟨.shr, .tup (dNats as)⟩] = .ok ⟨.shr, .bl true⟩ .non := def_eq rfl (by
  have h0 := is_tuple_tup (dNats as)
  simp [m_has_wishes, h0]
  refine fin_compN (α := Nat) [some ⟨.shr, treeD ps⟩, some ⟨.shr, .tup (dNats as)⟩, none] (fun a => D.int (a : Nat)) (fun _ => D.bl true) as (by simp [dNats]) (by rw [sizeLine_eq]; omega) (fun a ha => ?_) ?_
  · have q := has_locale_eq (ps := ps) (a : Int)
    rw [decide_eq_true (by omega : (0 : Int) ≤ a), decide_eq_true (by have := hok a ha; omega : (a : Int) ≤ ps.length)] at q
    exact ⟨_, rfl, by simp [q]⟩
  · have q := pAll_true as
    simp [q])
theorem check_wishesB {ps as : List Nat} (hok : ∀ a ∈ as, a ≤ ps.length) (hl : as.length ≤ 4000) : f_check_wishes [⟨.shr, treeD ps⟩, ⟨.shr, .tup (dNats as)⟩] = .ok ⟨.shr, .non⟩ .non := by
  have h := has_wishesB hok hl
  exact def_eq rfl (by simp [m_check_wishes, h])
theorem asc_pair : ∀ {ks : List Nat}, ks.Pairwise (· < ·) → asc (ks.map fun n => ((n : Nat) : Int)) = true
  | [], _ => rfl
  | [_], _ => rfl
  | a :: b :: r, h => by
    obtain ⟨h1, h2⟩ := List.pairwise_cons.mp h
    have ih := asc_pair h2
    simp only [List.map_cons] at ih ⊢
    rw [asc, ih, decide_eq_true (by have := h1 b (List.mem_cons_self ..); omega)]
    rfl
theorem dNats_ints (ks : List Nat) : dNats ks = (ks.map fun n => ((n : Nat) : Int)).map D.int := by simp [dNats]
theorem asc_natsT {ks : List Nat} (h : ks.Pairwise (· < ·)) (hl : ks.length ≤ 4000) : f_is_ascending [⟨.shr, .tup (dNats ks)⟩] = .ok ⟨.shr, .bl true⟩ .non := by
  rw [dNats_ints, asc_tup (by rw [List.length_map]; exact hl), asc_pair h]
theorem asc_natsL {ks : List Nat} (h : ks.Pairwise (· < ·)) (hl : ks.length ≤ 4000) : f_is_ascending [⟨.shr, .lst (dNats ks)⟩] = .ok ⟨.shr, .bl true⟩ .non := by
  rw [dNats_ints, asc_lst (by rw [List.length_map]; exact hl), asc_pair h]
theorem prD_nats (p : Nat × Nat) : prD p = .tup (dNats [p.1, p.2]) := rfl
theorem has_pair_eq {ps : List Nat} {p : Nat × Nat} (h : p.1 ≤ ps.length ∧ p.2 ≤ ps.length) : f_has_pair [⟨.shr, treeD ps⟩, ⟨.shr, prD p⟩] = .ok ⟨.shr, .bl true⟩ .non := by
  have q := has_wishesB (ps := ps) (as := [p.1, p.2]) (by simp [h.1, h.2]) (by simp)
  have q : f_has_wishes [⟨.shr, treeD ps⟩, ⟨.shr, .tup [.int (p.1 : Nat), .int (p.2 : Nat)]⟩] = .ok ⟨.shr, .bl true⟩ .non := q
  exact def_eq rfl (by simp [m_has_pair, q, prD])
theorem has_pairs_eq {ps : List Nat} {prs : List (Nat × Nat)} (h1 : (prs.map (·.1)).Pairwise (· < ·)) (h2 : ∀ p ∈ prs, p.1 ≤ ps.length ∧ p.2 ≤ ps.length) (hl : prs.length ≤ 4000) :
    f_has_pairs [⟨.shr, treeD ps⟩, ⟨.shr, .tup (prs.map prD)⟩] = .ok ⟨.shr, .bl true⟩ .non := def_eq rfl (by
  have h0 := is_tuple_tup (prs.map prD)
  simp [m_has_pairs, h0]
  refine fin_compN (α := Nat × Nat) [some ⟨.shr, treeD ps⟩, some ⟨.shr, .tup (prs.map prD)⟩, none] prD (fun _ => D.bl true) prs (by simp) (by rw [sizeLine_eq]; omega) (fun p hp => ?_) ?_
  · have q := has_pair_eq (h2 p hp)
    exact ⟨_, rfl, by simp [q]⟩
  · have q := pAll_true prs
    simp [q]
    refine fin_compN (α := Nat × Nat) [some ⟨.shr, treeD ps⟩, some ⟨.shr, .tup (prs.map prD)⟩, none] prD (fun p => D.int (p.1 : Nat)) prs (by simp) (by rw [sizeLine_eq]; omega) (fun p hp => ⟨_, rfl, by simp [prD]⟩) ?_
    have q2 := asc_natsL h1 (by rw [List.length_map]; exact hl)
    have e : dNats (prs.map (·.1)) = prs.map fun p => D.int (p.1 : Nat) := by simp [dNats]
    rw [e] at q2
    generalize (prs.map fun p => D.int (p.1 : Nat)) = L at q2
    simp [q2])
/-- doors by kind -/
inductive Gt
  | only (ks : List Nat)
  | lift (ks : List Nat)
  | swap (prs : List (Nat × Nat))
  | head (ws : List Nat)
  | pad (ws : List Nat)
def gtW : Gt → Str
  | .only _ => "only"
  | .lift _ => "lift"
  | .swap _ => "swap"
  | .head _ => "head"
  | .pad _ => "pad"
def gtT : Gt → D
  | .only ks => .tup (dNats ks)
  | .lift ks => .tup (dNats ks)
  | .swap prs => .tup (prs.map prD)
  | .head ws => .tup (dNats ws)
  | .pad ws => .tup (dNats ws)
abbrev gtD (g : Gt) : D := .tup [.str (gtW g), gtT g]
def GtOk (m : Nat) : Gt → Prop
  | .only ks => ks.Pairwise (· < ·) ∧ (∀ x ∈ ks, x ≤ m) ∧ ks.length ≤ 10
  | .lift ks => ks.Pairwise (· < ·) ∧ (∀ x ∈ ks, x ≤ m) ∧ ks.length ≤ 10
  | .swap prs => (prs.map (·.1)).Pairwise (· < ·) ∧ (∀ p ∈ prs, p.1 ≤ m ∧ p.2 ≤ m) ∧ prs.length ≤ 10
  | .head ws => (∀ x ∈ ws, x ≤ m) ∧ ws.length ≤ 40
  | .pad ws => (∀ x ∈ ws, x ≤ m) ∧ ws.length ≤ 40
theorem gate_gt {m : Nat} {d : D} (h : GateOk m d) : ∃ g, d = gtD g ∧ GtOk m g := by
  cases h with
  | wide w ws hw h1 h2 =>
    rcases hw with rfl | rfl
    · exact ⟨.head ws, rfl, h1, h2⟩
    · exact ⟨.pad ws, rfl, h1, h2⟩
  | asc w ks hw h1 h2 h3 =>
    rcases hw with rfl | rfl
    · exact ⟨.only ks, rfl, h1, h2, h3⟩
    · exact ⟨.lift ks, rfl, h1, h2, h3⟩
  | swap prs h1 h2 h3 => exact ⟨.swap prs, rfl, h1, h2, h3⟩
theorem has_door_eq {ps : List Nat} {g : Gt} (h : GtOk ps.length g) : f_has_door [⟨.shr, treeD ps⟩, ⟨.shr, gtD g⟩] = .ok ⟨.shr, .bl true⟩ .non := def_eq rfl (by
  have hz2 : 2 ≤ sizeLine := by rw [sizeLine_eq]; omega
  cases g with
  | only ks =>
    have h0 := is_tuple_tup [.str "only", .tup (dNats ks)]
    have i0 : pIx [.tup [.str "only", .tup (dNats ks)], .int 0] = some (.d (.str "only")) := rfl
    have qs := pIsI_str "only"
    show DL.Fin (m_has_door [some ⟨.shr, treeD ps⟩, some ⟨.shr, .tup [.str "only", .tup (dNats ks)]⟩, none, none]) _
    obtain ⟨h1, h2, h3⟩ := h
    have n1 : pInN false [.str "only", .tup [.str "only", .str "lift"]] = some (.d (.bl true)) := in_two "only" "only" "lift"
    have k1 := has_wishesB h2 (by omega)
    have k2 := asc_natsT h1 (by omega)
    simp [m_has_door, h0, i0, qs, n1, hz2, k1, k2, -p_ixT]
  | lift ks =>
    have h0 := is_tuple_tup [.str "lift", .tup (dNats ks)]
    have i0 : pIx [.tup [.str "lift", .tup (dNats ks)], .int 0] = some (.d (.str "lift")) := rfl
    have qs := pIsI_str "lift"
    show DL.Fin (m_has_door [some ⟨.shr, treeD ps⟩, some ⟨.shr, .tup [.str "lift", .tup (dNats ks)]⟩, none, none]) _
    obtain ⟨h1, h2, h3⟩ := h
    have n1 : pInN false [.str "lift", .tup [.str "only", .str "lift"]] = some (.d (.bl true)) := in_two "lift" "only" "lift"
    have k1 := has_wishesB h2 (by omega)
    have k2 := asc_natsT h1 (by omega)
    simp [m_has_door, h0, i0, qs, n1, hz2, k1, k2, -p_ixT]
  | swap prs =>
    have h0 := is_tuple_tup [.str "swap", .tup (prs.map prD)]
    have i0 : pIx [.tup [.str "swap", .tup (prs.map prD)], .int 0] = some (.d (.str "swap")) := rfl
    have qs := pIsI_str "swap"
    show DL.Fin (m_has_door [some ⟨.shr, treeD ps⟩, some ⟨.shr, .tup [.str "swap", .tup (prs.map prD)]⟩, none, none]) _
    obtain ⟨h1, h2, h3⟩ := h
    have n1 : pInN false [.str "swap", .tup [.str "only", .str "lift"]] = some (.d (.bl false)) := in_two "swap" "only" "lift"
    have k1 := has_pairs_eq h1 h2 (by omega)
    simp [m_has_door, h0, i0, qs, n1, hz2, eqw_ss, k1, -p_ixT, -List.map_map]
  | head ws =>
    have h0 := is_tuple_tup [.str "head", .tup (dNats ws)]
    have i0 : pIx [.tup [.str "head", .tup (dNats ws)], .int 0] = some (.d (.str "head")) := rfl
    have qs := pIsI_str "head"
    show DL.Fin (m_has_door [some ⟨.shr, treeD ps⟩, some ⟨.shr, .tup [.str "head", .tup (dNats ws)]⟩, none, none]) _
    obtain ⟨h1, h2⟩ := h
    have n1 : pInN false [.str "head", .tup [.str "only", .str "lift"]] = some (.d (.bl false)) := in_two "head" "only" "lift"
    have n2 : pInN false [.str "head", .tup [.str "head", .str "pad"]] = some (.d (.bl true)) := in_two "head" "head" "pad"
    have k1 := has_wishesB h1 (by omega)
    simp [m_has_door, h0, i0, qs, n1, n2, hz2, eqw_hs, k1, -p_ixT]
  | pad ws =>
    have h0 := is_tuple_tup [.str "pad", .tup (dNats ws)]
    have i0 : pIx [.tup [.str "pad", .tup (dNats ws)], .int 0] = some (.d (.str "pad")) := rfl
    have qs := pIsI_str "pad"
    show DL.Fin (m_has_door [some ⟨.shr, treeD ps⟩, some ⟨.shr, .tup [.str "pad", .tup (dNats ws)]⟩, none, none]) _
    obtain ⟨h1, h2⟩ := h
    have n1 : pInN false [.str "pad", .tup [.str "only", .str "lift"]] = some (.d (.bl false)) := in_two "pad" "only" "lift"
    have n2 : pInN false [.str "pad", .tup [.str "head", .str "pad"]] = some (.d (.bl true)) := in_two "pad" "head" "pad"
    have k1 := has_wishesB h1 (by omega)
    simp [m_has_door, h0, i0, qs, n1, n2, hz2, eqw_ps, k1, -p_ixT])
theorem check_door_eq {ps : List Nat} {g : Gt} (h : GtOk ps.length g) : f_check_door [⟨.shr, treeD ps⟩, ⟨.shr, gtD g⟩] = .ok ⟨.shr, .non⟩ .non := by
  have k := has_door_eq h
  exact def_eq rfl (by simp only [m_check_door]; simp [k])
theorem check_tree_eq {ps : List Nat} (ht : TreeOk ps) : f_check_tree [⟨.shr, treeD ps⟩] = .ok ⟨.shr, .non⟩ .non := by
  have h := is_tree_eq ht
  exact def_eq rfl (by simp [m_check_tree, h])

theorem inT_nats (neg : Bool) (s : Nat) (f : List Nat) : pInN neg [.int (s : Nat), .tup (dNats f)] = some (.d (.bl (if neg then !decide (s ∈ f) else decide (s ∈ f)))) := by
  simp only [pInN, dSeqOf, flat_nats, if_true, inD_nats]
def lft (ps ks : List Nat) (l : Nat) : List Nat := ((up ps l).filter fun s => decide (s ∈ ks)).take 1
theorem lifted_eq {ps ks : List Nat} (ht : TreeOk ps) {l : Nat} (hl : l ≤ ps.length) : f_lifted [⟨.shr, treeD ps⟩, ⟨.shr, .tup (dNats ks)⟩, ⟨.shr, .int (l : Nat)⟩] = .ok ⟨.own, .lst (dNats (lft ps ks l))⟩ .non := def_eq rfl (by
  have h1 := path_of_eq ht hl
  have hz := upF_len (ps := ps) l l
  have hlen := ht.len
  simp [m_lifted]
  refine fin_compM (α := Nat) [some ⟨.shr, treeD ps⟩, some ⟨.shr, .tup (dNats ks)⟩, some ⟨.shr, .int (l : Nat)⟩, none] (fun a => D.int (a : Nat)) (fun s => decide (s ∈ ks)) (fun a => D.int (a : Nat)) (up ps l) (by simp [h1, dNats]) (by rw [sizeLine_eq, up]; omega) (fun s hs => ⟨_, rfl, ?_⟩) ?_
  · have q := inT_nats false s ks
    by_cases h : s ∈ ks
    · simp [q, h]
    · simp [q, h]
  · have e : (((up ps l).filter fun s => decide (s ∈ ks)).map fun a => D.int (a : Nat)) = dNats ((up ps l).filter fun s => decide (s ∈ ks)) := rfl
    rw [e]
    have s1 : pSlice (.lst (dNats ((up ps l).filter fun s => decide (s ∈ ks)))) none (some 1) = some (.nl (dNats (lft ps ks l))) := by
      rw [lft, show dNats (((up ps l).filter fun s => decide (s ∈ ks)).take 1) = (dNats ((up ps l).filter fun s => decide (s ∈ ks))).take 1 from List.map_take ..]
      exact congrArg (fun z => some (PR.nl z)) (cut_take _ 1)
    generalize dNats ((up ps l).filter fun s => decide (s ∈ ks)) = L at s1
    simp [s1, -p_sliceL])
def swp (prs : List (Nat × Nat)) (l : Nat) : Nat := match prs.find? fun p => decide (p.1 = l) with
  | some p => p.2
  | none => l
theorem swapped_eq {prs : List (Nat × Nat)} {l : Nat} : f_swapped [⟨.shr, .tup (prs.map prD)⟩, ⟨.shr, .int (l : Nat)⟩] = .ok ⟨.shr, .int (swp prs l : Nat)⟩ .non := def_eq rfl (by
  have hz2 : 2 ≤ sizeLine := by rw [sizeLine_eq]; omega
  simp [m_swapped]
  refine fin_forL prD (fun rest env => ∃ e2 e3, env = [some ⟨.shr, .tup (prs.map prD)⟩, some ⟨.shr, .int (l : Nat)⟩, e2, e3] ∧ swp rest l = swp prs l) prs _ ⟨_, _, rfl, rfl⟩ (fun p rest env hI => ?_) fun env hI => ?_
  · obtain ⟨e2, e3, rfl, h⟩ := hI
    refine ⟨_, rfl, ?_⟩
    by_cases hp : p.1 = l
    · have e : swp prs l = p.2 := by rw [← h, swp, List.find?_cons_of_pos (by simp [hp])]
      subst hp
      simp [e]
    · have e : swp rest l = swp prs l := by rw [← h, swp, swp, List.find?_cons_of_neg (by simp [hp])]
      have hp2 : ¬ ((p.1 : Int) = (l : Nat)) := by omega
      simp [hp2]
      exact e
  · obtain ⟨e2, e3, rfl, h⟩ := hI
    have h : l = swp prs l := h
    simp [← h])
def thru (ps : List Nat) : Gt → List Nat → List Nat
  | .only ks, ws => ws.filter fun w => decide (w ∈ ks)
  | .lift ks, ws => ws.flatMap (lft ps ks)
  | .swap prs, ws => ws.map (swp prs)
  | .head hs, ws => hs ++ ws
  | .pad hs, ws => ws ++ hs
theorem lft_len (ps ks : List Nat) (l : Nat) : (lft ps ks l).length ≤ 1 := by rw [lft, List.length_take]; omega
theorem flat_len {α β : Type} {f : α → List β} (h : ∀ a, (f a).length ≤ 1) : ∀ xs : List α, (xs.flatMap f).length ≤ xs.length
  | [] => by simp
  | x :: xs => by
    have h1 := flat_len h xs
    have h2 := h x
    rw [List.flatMap_cons, List.length_append, List.length_cons]
    omega
theorem thru_len {ps : List Nat} {m : Nat} {g : Gt} (h : GtOk m g) (ws : List Nat) : (thru ps g ws).length ≤ ws.length + 40 := by
  cases g with
  | only ks =>
    have := List.length_filter_le (fun w => decide (w ∈ ks)) ws
    simp only [thru]; omega
  | lift ks =>
    have := flat_len (lft_len ps ks) ws
    simp only [thru]; omega
  | swap prs => simp only [thru, List.length_map]; omega
  | head hs =>
    have := h.2
    simp only [thru, List.length_append]; omega
  | pad hs =>
    have := h.2
    simp only [thru, List.length_append]; omega
theorem swp_le {m : Nat} {prs : List (Nat × Nat)} (h : ∀ p ∈ prs, p.1 ≤ m ∧ p.2 ≤ m) {l : Nat} (hl : l ≤ m) : swp prs l ≤ m := by
  unfold swp
  cases q : prs.find? fun p => decide (p.1 = l) with
  | none => exact hl
  | some p => exact (h p (List.mem_of_find?_eq_some q)).2
theorem lft_sub {ps ks : List Nat} {l x : Nat} (h : x ∈ lft ps ks l) : x ∈ ks := by
  have h2 := List.mem_of_mem_take h
  exact of_decide_eq_true (List.mem_filter.mp h2).2
theorem thru_le {ps : List Nat} {m : Nat} {g : Gt} (h : GtOk m g) {ws : List Nat} (hw : ∀ w ∈ ws, w ≤ m) : ∀ w ∈ thru ps g ws, w ≤ m := by
  cases g with
  | only ks => exact fun w k => hw w (List.mem_filter.mp k).1
  | lift ks =>
    intro w k
    obtain ⟨a, _, k⟩ := List.mem_flatMap.mp k
    exact h.2.1 w (lft_sub k)
  | swap prs =>
    intro w k
    obtain ⟨a, ha, rfl⟩ := List.mem_map.mp k
    exact swp_le h.2.1 (hw a ha)
  | head hs => exact fun w k => (List.mem_append.mp k).elim (h.1 w) (hw w)
  | pad hs => exact fun w k => (List.mem_append.mp k).elim (hw w) (h.1 w)
theorem behind_door_eq {ps : List Nat} (ht : TreeOk ps) {g : Gt} (h : GtOk ps.length g) {ws : List Nat} (hw : ∀ w ∈ ws, w ≤ ps.length) (hl : ws.length ≤ 900) :
    f_behind_door [⟨.shr, treeD ps⟩, ⟨.shr, gtD g⟩, ⟨.shr, .tup (dNats ws)⟩] = .ok ⟨.shr, .tup (dNats (thru ps g ws))⟩ .non := def_eq rfl (by
  have hz2 : 2 ≤ sizeLine := by rw [sizeLine_eq]; omega
  cases g with
  | only ks =>
    show DL.Fin (m_behind_door [some ⟨.shr, treeD ps⟩, some ⟨.shr, .tup [.str "only", .tup (dNats ks)]⟩, some ⟨.shr, .tup (dNats ws)⟩, none, none, none, none]) _
    simp [m_behind_door, hz2, eqw_oo]
    refine fin_compM (α := Nat) [some ⟨.shr, treeD ps⟩, some ⟨.shr, .tup [.str "only", .tup (dNats ks)]⟩, some ⟨.shr, .tup (dNats ws)⟩, some ⟨.shr, .str "only"⟩, some ⟨.shr, .tup (dNats ks)⟩, none, none] (fun a => D.int (a : Nat)) (fun s => decide (s ∈ ks)) (fun a => D.int (a : Nat)) ws (by simp [dNats]) (by rw [sizeLine_eq]; omega) (fun s hs => ⟨_, rfl, ?_⟩) ?_
    · have q := inT_nats false s ks
      by_cases h : s ∈ ks
      · simp [q, h]
      · simp [q, h]
    · simp [thru, dNats]
  | lift ks =>
    show DL.Fin (m_behind_door [some ⟨.shr, treeD ps⟩, some ⟨.shr, .tup [.str "lift", .tup (dNats ks)]⟩, some ⟨.shr, .tup (dNats ws)⟩, none, none, none, none]) _
    simp [m_behind_door, hz2, eqw_lo, eqw_ll]
    have fl := flat_len (lft_len ps ks) ws
    refine fin_comp2 (α := Nat) (β := Nat) [some ⟨.shr, treeD ps⟩, some ⟨.shr, .tup [.str "lift", .tup (dNats ks)]⟩, some ⟨.shr, .tup (dNats ws)⟩, some ⟨.shr, .str "lift"⟩, some ⟨.shr, .tup (dNats ks)⟩, none, none] (fun a => D.int (a : Nat)) (lft ps ks) (fun a => D.int (a : Nat)) (fun _ a => D.int (a : Nat)) ws (by simp [dNats]) (by rw [sizeLine_eq]; omega) (fun s hs => ⟨_, rfl, ?_⟩) ?_
    · have q := lifted_eq (ks := ks) ht (hw s hs)
      simp [q]
      exact rfl
    · have e : (ws.flatMap fun y => (lft ps ks y).map fun a => D.int (a : Nat)) = dNats (ws.flatMap (lft ps ks)) := by
        rw [dNats, List.map_flatMap]
      rw [e]
      simp [thru]
  | swap prs =>
    show DL.Fin (m_behind_door [some ⟨.shr, treeD ps⟩, some ⟨.shr, .tup [.str "swap", .tup (prs.map prD)]⟩, some ⟨.shr, .tup (dNats ws)⟩, none, none, none, none]) _
    simp [m_behind_door, hz2, eqw_so, eqw_sl, eqw_ss]
    refine fin_compN (α := Nat) [some ⟨.shr, treeD ps⟩, some ⟨.shr, .tup [.str "swap", .tup (prs.map prD)]⟩, some ⟨.shr, .tup (dNats ws)⟩, some ⟨.shr, .str "swap"⟩, some ⟨.shr, .tup (prs.map prD)⟩, none, none] (fun a => D.int (a : Nat)) (fun a => D.int (swp prs a : Nat)) ws (by simp [dNats]) (by rw [sizeLine_eq]; omega) (fun s hs => ⟨_, rfl, ?_⟩) ?_
    · have q := swapped_eq (prs := prs) (l := s)
      simp [q]
    · simp [thru, dNats]
  | head hs =>
    show DL.Fin (m_behind_door [some ⟨.shr, treeD ps⟩, some ⟨.shr, .tup [.str "head", .tup (dNats hs)]⟩, some ⟨.shr, .tup (dNats ws)⟩, none, none, none, none]) _
    have := h.2
    have a1 := addN hs ws (by omega)
    simp [m_behind_door, hz2, eqw_ho, eqw_hl, eqw_hs, eqw_hh, a1, thru]
  | pad hs =>
    show DL.Fin (m_behind_door [some ⟨.shr, treeD ps⟩, some ⟨.shr, .tup [.str "pad", .tup (dNats hs)]⟩, some ⟨.shr, .tup (dNats ws)⟩, none, none, none, none]) _
    have := h.2
    have a1 := addN ws hs (by omega)
    simp [m_behind_door, hz2, eqw_po, eqw_pl, eqw_ps, eqw_ph, a1, thru])
def thruAll (ps : List Nat) (gs : List Gt) (ws : List Nat) : List Nat := gs.foldl (fun ws g => thru ps g ws) ws
theorem behind_doors_eq {ps : List Nat} (ht : TreeOk ps) {gs : List Gt} (h : ∀ g ∈ gs, GtOk ps.length g) {ws : List Nat} (hw : ∀ w ∈ ws, w ≤ ps.length) (hl : ws.length + 40 * gs.length ≤ 900) :
    f_behind_doors [⟨.shr, treeD ps⟩, ⟨.shr, .tup (gs.map gtD)⟩, ⟨.shr, .tup (dNats ws)⟩] = .ok ⟨.shr, .tup (dNats (thruAll ps gs ws))⟩ .non := def_eq rfl (by
  simp [m_behind_doors]
  refine fin_forL gtD (fun rest env => ∃ us e4, env = [some ⟨.shr, treeD ps⟩, some ⟨.shr, .tup (gs.map gtD)⟩, some ⟨.shr, .tup (dNats ws)⟩, some ⟨.shr, .tup (dNats us)⟩, e4] ∧ thruAll ps rest us = thruAll ps gs ws ∧ (∀ w ∈ us, w ≤ ps.length) ∧ us.length + 40 * rest.length ≤ 900 ∧ ∀ g ∈ rest, GtOk ps.length g) gs _ ⟨ws, _, rfl, rfl, hw, hl, h⟩ (fun g rest env hI => ?_) fun env hI => ?_
  · obtain ⟨us, e4, rfl, h1, h2, h3, h4⟩ := hI
    rw [List.length_cons] at h3
    have g0 := h4 g (List.mem_cons_self ..)
    have q := behind_door_eq ht g0 h2 (by omega)
    have ql := thru_len (ps := ps) g0 us
    refine ⟨_, rfl, ?_⟩
    have q2 := thru_le (ps := ps) g0 h2
    have e : thruAll ps rest (thru ps g us) = thruAll ps gs ws := h1
    generalize thru ps g us = vs at q ql q2 e
    generalize gtD g = d at q
    simp [q]
    exact ⟨vs, rfl, e, q2, by omega, fun x hx => h4 x (List.mem_cons_of_mem _ hx)⟩
  · obtain ⟨us, e4, rfl, h1, _⟩ := hI
    have h1 : us = thruAll ps gs ws := h1
    simp [h1])
theorem thruAll_le {ps : List Nat} {m : Nat} : ∀ {gs : List Gt} {ws : List Nat}, (∀ g ∈ gs, GtOk m g) → (∀ w ∈ ws, w ≤ m) → ∀ w ∈ thruAll ps gs ws, w ≤ m
  | [], _, _, hw => hw
  | g :: gs, ws, h, hw => thruAll_le (gs := gs) (fun x hx => h x (List.mem_cons_of_mem _ hx)) (thru_le (ps := ps) (h g (List.mem_cons_self ..)) hw)
theorem thruAll_len {ps : List Nat} {m : Nat} : ∀ {gs : List Gt} {ws : List Nat}, (∀ g ∈ gs, GtOk m g) → (thruAll ps gs ws).length ≤ ws.length + 40 * gs.length
  | [], _, _ => by simp [thruAll]
  | g :: gs, ws, h => by
    have h1 := thruAll_len (ps := ps) (gs := gs) (ws := thru ps g ws) fun x hx => h x (List.mem_cons_of_mem _ hx)
    have h2 := thru_len (ps := ps) (h g (List.mem_cons_self ..)) ws
    rw [List.length_cons]
    show (thruAll ps gs (thru ps g ws)).length ≤ _
    omega
theorem thruAll_app (ps : List Nat) (a b : List Gt) (ws : List Nat) : thruAll ps (a ++ b) ws = thruAll ps b (thruAll ps a ws) := List.foldl_append

/-! data without texts, of small numbers: told equal, shown -/
mutual
def sm : D → Bool
  | .non => true
  | .bl _ => true
  | .int i => decide (0 ≤ i) && decide (i ≤ 999999999999)
  | .lst ds => sms ds
  | .tup ds => sms ds
  | _ => false
def sms : List D → Bool
  | [] => true
  | d :: ds => sm d && sms ds
end
mutual
def dp : D → Nat
  | .lst ds => dps ds + 1
  | .tup ds => dps ds + 1
  | _ => 0
def dps : List D → Nat
  | [] => 0
  | d :: ds => max (dp d) (dps ds)
end
mutual
def wt : D → Nat
  | .lst ds => 3 + wts ds
  | .tup ds => 3 + wts ds
  | _ => 14
def wts : List D → Nat
  | [] => 0
  | d :: ds => wt d + 2 + wts ds
end
structure SmF (x : D) : Prop where
  p : DL.plain x = true
  l : (toP x).canLay0 = true
  s : (toP x).showable = true
  n : noStr (toP x) = true
  d : (toP x).depth = dp x
  w : (toP x).shown.length ≤ wt x
structure SmsF (x : List D) : Prop where
  p : plains x = true
  l : PyData.canLayAll0 (toPs x) = true
  s : PyData.showableAll (toPs x) = true
  n : noStrs (toPs x) = true
  d : PyData.depthAll (toPs x) = dps x
  w : ((PyData.shownAll (toPs x)).map (·.length)).sum + 2 * (PyData.shownAll (toPs x)).length ≤ wts x
mutual
theorem sm_facts : ∀ d : D, sm d = true → SmF d
  | .non, _ => ⟨by simp only [DL.plain], by simp only [toP, PyData.canLay0], by simp only [toP, PyData.showable], by simp only [toP, noStr], by simp only [toP, PyData.depth, dp], by simp only [toP, PyData.shown, wt]; decide⟩
  | .bl b, _ => ⟨by simp only [DL.plain], by simp only [toP, PyData.canLay0], by simp only [toP, PyData.showable], by simp only [toP, noStr], by simp only [toP, PyData.depth, dp], by simp only [toP, PyData.shown, wt]; cases b <;> decide⟩
  | .int i, h => by
    simp only [sm, Bool.and_eq_true, decide_eq_true_eq] at h
    obtain ⟨n, rfl⟩ : ∃ n : Nat, i = (n : Int) := ⟨i.toNat, by omega⟩
    have b := PyData.shown_int_le2 (i := (n : Int)) (by omega) (by omega)
    refine ⟨by simp only [DL.plain], by simp only [toP, PyData.canLay0], ?_, by simp only [toP, noStr], by simp only [toP, PyData.depth, dp], by simp only [toP, wt]; omega⟩
    simp only [toP, PyData.showable, Int.natAbs_natCast, decide_eq_true_eq]
    exact log_small (by unfold twelve; omega)
  | .lst ds, h => by
    have q := sms_facts ds (by simpa only [sm] using h)
    refine ⟨by simp only [DL.plain]; exact q.p, by simp only [toP, PyData.canLay0]; exact q.l, by simp only [toP, PyData.showable]; exact q.s, by simp only [toP, noStr]; exact q.n, by simp only [toP, PyData.depth, dp, q.d], ?_⟩
    simp only [toP, PyData.shown, wt]
    have := listText_len_le (PyData.shownAll (toPs ds))
    have := q.w
    omega
  | .tup ds, h => by
    have q := sms_facts ds (by simpa only [sm] using h)
    refine ⟨by simp only [DL.plain]; exact q.p, by simp only [toP, PyData.canLay0]; exact q.l, by simp only [toP, PyData.showable]; exact q.s, by simp only [toP, noStr]; exact q.n, by simp only [toP, PyData.depth, dp, q.d], ?_⟩
    simp only [toP, PyData.shown, wt]
    have := tupleText_len_le (PyData.shownAll (toPs ds))
    have := q.w
    omega
  | .str _, h => by simp only [sm] at h; cases h
  | .fz _, h => by simp only [sm] at h; cases h
  | .exc _ _, h => by simp only [sm] at h; cases h
  | .pr _ _, h => by simp only [sm] at h; cases h
  | .rng _ _, h => by simp only [sm] at h; cases h
theorem sms_facts : ∀ ds : List D, sms ds = true → SmsF ds
  | [], _ => ⟨by simp only [plains], by simp only [toPs, PyData.canLayAll0], by simp only [toPs, PyData.showableAll], by simp only [toPs, noStrs], by simp only [toPs, PyData.depthAll, dps], by simp only [toPs, PyData.shownAll, wts]; decide⟩
  | d :: ds, h => by
    simp only [sms, Bool.and_eq_true] at h
    have q1 := sm_facts d h.1
    have q2 := sms_facts ds h.2
    refine ⟨by simp only [plains, q1.p, q2.p, Bool.and_self], by simp only [toPs, PyData.canLayAll0, q1.l, q2.l, Bool.and_self], by simp only [toPs, PyData.showableAll, q1.s, q2.s, Bool.and_self], by simp only [toPs, noStrs, q1.n, q2.n, Bool.and_self], by simp only [toPs, PyData.depthAll, dps, q1.d, q2.d], ?_⟩
    have w1 := q1.w
    have w2 := q2.w
    simp only [toPs, PyData.shownAll, wts, List.map_cons, List.sum_cons, List.length_cons]
    omega
end
theorem okD_sm {d : D} (h : sm d = true) (hd : dp d ≤ 64) : okD d = true := by
  have q := sm_facts d h
  simp only [okD, q.p, SeqAt.shaped, q.l, q.d, Bool.true_and, decide_eq_true_eq]
  exact hd
theorem okR_sm {d : D} (h : sm d = true) (hd : dp d ≤ 64) (hw : wt d ≤ 1000000) : okR d = true := by
  have q := sm_facts d h
  have k := okD_sm h hd
  simp only [okD, Bool.and_eq_true] at k
  have : (toP d).shown.length ≤ sizeLine := by have := q.w; rw [sizeLine_eq]; omega
  simp only [okR, k.1, k.2, q.s, this, Bool.true_and, decide_true]
theorem okS_sm {d : D} (h : sm d = true) : okD (.str (toP d).shown) = true := okD_str (strOk_shown _ (sm_facts d h).n)
theorem pRepr_sm {d : D} (h : sm d = true) (hd : dp d ≤ 64) (hw : wt d ≤ 1000000) : pRepr [d] = some (.d (.str (toP d).shown)) := by simp only [pRepr, okR_sm h hd hw, if_true]
theorem ne_selfD {d : D} (h : okD d = true) : pNe [d, d] = some (.d (.bl false)) := by
  have h4 := deq_self h
  simp [pNe, h, h4]
theorem eq_selfD {d : D} (h : okD d = true) : pEq [d, d] = some (.d (.bl true)) := by
  have h4 := deq_self h
  simp [pEq, h, h4]
theorem sms_map {α : Type} {f : α → D} : ∀ {xs : List α}, (∀ x ∈ xs, sm (f x) = true) → sms (xs.map f) = true
  | [], _ => by simp only [List.map_nil, sms]
  | x :: xs, h => by
    simp only [List.map_cons, sms, h x (List.mem_cons_self ..), Bool.true_and]
    exact sms_map fun y hy => h y (List.mem_cons_of_mem _ hy)
theorem dps_map {α : Type} {f : α → D} {k : Nat} : ∀ {xs : List α}, (∀ x ∈ xs, dp (f x) ≤ k) → dps (xs.map f) ≤ k
  | [], _ => by simp only [List.map_nil, dps]; exact Nat.zero_le _
  | x :: xs, h => by
    simp only [List.map_cons, dps]
    exact Nat.max_le.mpr ⟨h x (List.mem_cons_self ..), dps_map fun y hy => h y (List.mem_cons_of_mem _ hy)⟩
theorem wts_map {α : Type} {f : α → D} {k : Nat} : ∀ {xs : List α}, (∀ x ∈ xs, wt (f x) ≤ k) → wts (xs.map f) ≤ (k + 2) * xs.length
  | [], _ => by simp only [List.map_nil, wts]; exact Nat.zero_le _
  | x :: xs, h => by
    have h1 := h x (List.mem_cons_self ..)
    have h2 := wts_map (f := f) (k := k) (xs := xs) fun y hy => h y (List.mem_cons_of_mem _ hy)
    simp only [List.map_cons, wts, List.length_cons, Nat.mul_add, Nat.mul_one]
    omega

theorem canLay_ints : ∀ ms : List Nat, PyData.canLayAll0 (ms.map fun n => PyData.int (n : Nat)) = true
  | [] => by simp only [List.map_nil, PyData.canLayAll0]
  | m :: ms => by simp only [List.map_cons, PyData.canLayAll0, PyData.canLay0, canLay_ints ms, Bool.and_self]
theorem depth_ints : ∀ ms : List Nat, PyData.depthAll (ms.map fun n => PyData.int (n : Nat)) = 0
  | [] => by simp only [List.map_nil, PyData.depthAll]
  | m :: ms => by simp only [List.map_cons, PyData.depthAll, PyData.depth, depth_ints ms, Nat.max_self]
theorem okDL_nats (ns : List Nat) : okD (.lst (dNats ns)) = true := by
  simp only [okD, DL.plain, toP, plains_nats, toPs_nats, SeqAt.shaped, PyData.canLay0, PyData.depth, canLay_ints, depth_ints, Bool.true_and]
  decide
theorem deqL_nats (a b : List Nat) : deq (.lst (dNats a)) (.lst (dNats b)) = decide (a = b) := by
  simp only [deq, toP, toPs_nats, PyData.eqv]
  exact eqv_nats a b
theorem eqL_nats (a b : List Nat) : pEq [.lst (dNats a), .lst (dNats b)] = some (.d (.bl (decide (a = b)))) := by
  simp only [pEq, okDL_nats, Bool.and_self, if_true, deqL_nats]

theorem neL_nil (l : List Nat) : pNe [.lst (dNats l), .lst []] = some (.d (.bl (!l.isEmpty))) := by
  have e : D.lst [] = .lst (dNats []) := rfl
  rw [e]
  simp only [pNe, okDL_nats, Bool.and_self, if_true, deqL_nats]
  cases l <;> rfl
theorem pIsI_tupT (xs : List D) : pIsI "tuple" [.tup xs] = some (.d (.bl true)) := by
  have h : kitB "tuple" "tuple" = some true := by decide
  simp [pIsI, tyOf, h]
theorem up_from_eq {ps : List Nat} (ht : TreeOk ps) {l : Nat} (hl : l ≤ ps.length) : f__law_up_from [⟨.shr, treeD ps⟩, ⟨.shr, .int (l : Nat)⟩] = .ok ⟨.own, .lst (dNats (up ps l))⟩ .non := def_eq rfl (by
  have hlen := ht.len
  have hz1 : 1 ≤ sizeLine := by rw [sizeLine_eq]; omega
  have r := rng1_eq (sm62 (by omega) (by omega) : small62 ((ps.length : Int) + 1) = true)
  rw [show ((ps.length : Int) + 1).toNat = ps.length + 1 by omega, rngD0] at r
  simp [m__law_up_from, r, hz1]
  refine fin_forL (fun i => D.int (i : Nat)) (fun rest env => ∃ acc m e3 e4, env = [some ⟨.shr, treeD ps⟩, some ⟨.shr, .int (l : Nat)⟩, some ⟨.own, .lst (dNats (acc ++ [m]))⟩, e3, e4] ∧ m ≤ ps.length ∧ m < rest.length ∧ acc.length + m ≤ 9 ∧ acc ++ up ps m = up ps l) (List.range (ps.length + 1)) _ ⟨[], l, _, _, rfl, hl, by rw [List.length_range]; omega, by simp; omega, rfl⟩ (fun i rest env hI => ?_) fun env hI => ?_
  · obtain ⟨acc, m, e3, e4, rfl, h1, h2, h3, h4⟩ := hI
    refine ⟨_, rfl, ?_⟩
    have i1 : pIx [.lst (dNats (acc ++ [m])), .int (-1)] = some (.d (.int (m : Nat))) := by
      rw [dNats_snoc]
      show (atI _ _).map PR.d = _
      rw [DL.atI_last]; rfl
    have i2 : pIx [treeD ps, .int (m : Nat)] = some (.d (parD ps m)) := by
      show (atI _ _).map PR.d = _
      rw [at_par h1]; rfl
    cases m with
    | zero =>
      have e := upF_end (ps := ps) (f := 0) (l := 0) (.inl rfl) (by omega)
      have e : up ps 0 = [0] := e
      rw [e] at h4
      rw [parD] at i2
      rw [h4] at i1 ⊢
      have i1 : pIx [.lst (dNats (up ps l)), .int (-1)] = some (.d (.int 0)) := i1
      have i2 : pIx [treeD ps, .int 0] = some (.d .non) := i2
      simp [i1, i2, -p_ixT, -p_ixL]
    | succ k =>
      have hp := ht.getD k
      rw [parD] at i2
      cases hq : pOf ps k with
      | zero =>
        rw [up_zero hq] at h4
        rw [hq] at i2
        rw [h4] at i1 ⊢
        have i1 : pIx [.lst (dNats (up ps l)), .int (-1)] = some (.d (.int ((k : Int) + 1))) := i1
        have i2 : pIx [treeD ps, .int ((k : Int) + 1)] = some (.d (.int 0)) := i2
        simp [i1, i2, -p_ixT, -p_ixL]
      | succ p =>
        rw [up_step ht hq] at h4
        rw [hq] at i2
        have q1 : ¬ ((p : Int) + 1 = 0) := by omega
        rw [List.length_cons] at h2
        have hz : (dNats (acc ++ [k + 1])).length + 1 ≤ sizeLine := by rw [dNats_len, List.length_append, List.length_singleton, sizeLine_eq]; omega
        have hz' : (dNats (acc ++ [k + 1])).length < sizeLine := by omega
        have e5 : dNats (acc ++ [k + 1]) ++ [.int ((p : Int) + 1)] = dNats ((acc ++ [k + 1]) ++ [p + 1]) := by rw [dNats_snoc (acc ++ [k + 1])]; rfl
        have i1 : pIx [.lst (dNats (acc ++ [k + 1])), .int (-1)] = some (.d (.int ((k : Int) + 1))) := i1
        have i2 : pIx [treeD ps, .int ((k : Int) + 1)] = some (.d (.int ((p : Int) + 1))) := i2
        generalize hN : dNats (acc ++ [k + 1]) = N at i1 hz hz' e5 ⊢
        simp [i1, i2, q1, hz', e5, -p_ixT, -p_ixL]
        exact ⟨acc ++ [k + 1], p + 1, by simp, by omega, by omega, by rw [List.length_append, List.length_singleton]; omega, by rw [List.append_assoc]; exact h4⟩
  · obtain ⟨acc, m, e3, e4, rfl, h1, h2, h3, h4⟩ := hI
    exact absurd h2 (Nat.not_lt_zero _))
def oneUp (ps : List Nat) : Gt → Nat → List Nat
  | .only ks, x => if x ∈ ks then [x] else []
  | .lift ks, x => lft ps ks x
  | .swap prs, x => [swp prs x]
  | .head _, _ => []
  | .pad _, _ => []
def wideG : Gt → Bool
  | .head _ => true
  | .pad _ => true
  | _ => false
theorem thru_cons {ps : List Nat} {g : Gt} (h : wideG g = false) (x : Nat) (r : List Nat) : thru ps g (x :: r) = oneUp ps g x ++ thru ps g r := by
  cases g with
  | only ks =>
    by_cases k : x ∈ ks
    · simp [thru, oneUp, k]
    · simp [thru, oneUp, k]
  | lift ks => simp [thru, oneUp]
  | swap prs => simp [thru, oneUp]
  | head hs => cases h
  | pad hs => cases h
theorem filt_eq {ks : List Nat} (x : Nat) : ((ks.filter fun k => decide (k = x)).take 1) = if x ∈ ks then [x] else [] := by
  cases q : ks.filter fun k => decide (k = x) with
  | nil =>
    have h : x ∉ ks := fun k => by
      have : x ∈ ks.filter fun k => decide (k = x) := List.mem_filter.mpr ⟨k, by simp⟩
      rw [q] at this; cases this
    rw [if_neg h]; rfl
  | cons a r =>
    have h : a ∈ ks.filter fun k => decide (k = x) := by rw [q]; exact List.mem_cons_self ..
    obtain ⟨h1, h2⟩ := List.mem_filter.mp h
    have h2 : a = x := of_decide_eq_true h2
    subst h2
    rw [if_pos h1]; rfl
theorem swp_take (prs : List (Nat × Nat)) (x : Nat) : ((((prs.filter fun p => decide (p.1 = x)).map (·.2)) ++ [x]).take 1) = [swp prs x] := by
  unfold swp
  induction prs with
  | nil => rfl
  | cons p r ih =>
    by_cases h : p.1 = x
    · rw [List.filter_cons_of_pos (by simp [h]), List.find?_cons_of_pos (by simp [h])]; rfl
    · rw [List.filter_cons_of_neg (by simp [h]), List.find?_cons_of_neg (by simp [h])]; exact ih
theorem one_gate_eq {ps : List Nat} (ht : TreeOk ps) {g : Gt} (h : GtOk ps.length g) {ws : List Nat} (hw : ∀ w ∈ ws, w ≤ ps.length) (hl : ws.length ≤ 900) :
    f__law_one_gate [⟨.shr, treeD ps⟩, ⟨.shr, gtD g⟩, ⟨.shr, .tup (dNats ws)⟩] = .ok ⟨.own, .lst (dNats (thru ps g ws))⟩ .non := def_eq rfl (by
  have hz0 : 0 ≤ sizeLine := Nat.zero_le _
  have hz1 : 1 ≤ sizeLine := by rw [sizeLine_eq]; omega
  have hz2 : 2 ≤ sizeLine := by rw [sizeLine_eq]; omega
  have hk := thru_len (ps := ps) h ws
  obtain ⟨Q, hQ⟩ : ∃ Q : Gt → List Nat → Fl → DEnv → Prop, Q = fun g rest fl e => Goes fl ∧ ∃ out e6 e7 e8 e9, e = [some ⟨.shr, treeD ps⟩, some ⟨.shr, gtD g⟩, some ⟨.shr, .tup (dNats ws)⟩, some ⟨.shr, .str (gtW g)⟩, some ⟨.shr, gtT g⟩, some ⟨.own, .lst (dNats out)⟩, e6, e7, e8, e9] ∧ out ++ thru ps g rest = thru ps g ws := ⟨_, rfl⟩
  have fin : ∀ (g : Gt) (rest out ends : List Nat) (x : Nat) (e6 e8 e9 : Option Ent), wideG g = false → (thru ps g ws).length ≤ 940 → ends.take 1 = oneUp ps g x → out ++ thru ps g (x :: rest) = thru ps g ws →
      DL.Fin (dIfS (dTst (dPrim pNe [.s 7, .v (dPrim pLst [])])) (dDrop (dMut mApp 5 [.v (dPrim pIx [.s 7, .v (dC (.int 0))])])) dNext [some ⟨.shr, treeD ps⟩, some ⟨.shr, gtD g⟩, some ⟨.shr, .tup (dNats ws)⟩, some ⟨.shr, .str (gtW g)⟩, some ⟨.shr, gtT g⟩, some ⟨.own, .lst (dNats out)⟩, e6, some ⟨.own, .lst (dNats ends)⟩, e8, e9])
        (Q g rest) := by
    rw [hQ]
    intro g rest out ends x e6 e8 e9 hg hk he ho
    have n := neL_nil ends
    rw [thru_cons hg] at ho
    have ol : out.length ≤ 940 := by
      have := congrArg List.length ho
      rw [List.length_append] at this
      omega
    cases ends with
    | nil =>
      have he : [] = oneUp ps g x := he
      rw [← he] at ho
      have ho : out ++ thru ps g rest = thru ps g ws := ho
      have n : pNe [.lst (dNats []), .lst []] = some (.d (.bl false)) := n
      simp [n]
      first | exact ⟨out, rfl, ho⟩ | exact ⟨out, ⟨rfl, rfl⟩, ho⟩
    | cons a r =>
      have he : [a] = oneUp ps g x := he
      rw [← he, ← List.append_assoc] at ho
      have n : pNe [.lst (dNats (a :: r)), .lst []] = some (.d (.bl true)) := n
      have i0 : pIx [.lst (dNats (a :: r)), .int 0] = some (.d (.int (a : Nat))) := by
        show (atI (dNats (a :: r)) ((0 : Nat) : Int)).map PR.d = _
        rw [DL.atI_nat]; rfl
      have hz : (dNats out).length < sizeLine := by rw [dNats_len, sizeLine_eq]; omega
      have e5 : dNats out ++ [.int (a : Nat)] = dNats (out ++ [a]) := (dNats_snoc out a).symm
      generalize dNats (a :: r) = E at n i0 ⊢
      generalize dNats out = N at hz e5 ⊢
      simp [n, i0, hz, e5, -p_ixL]
      first | exact ⟨out ++ [a], rfl, ho⟩ | exact ⟨out ++ [a], ⟨rfl, rfl⟩, ho⟩
  have loop : ∀ (g : Gt) (body : DS) (P : Fl → DEnv → Prop) (E : List Nat → Option Ent → Option Ent → Option Ent → Option Ent → DEnv),
      (E = fun out e6 e7 e8 e9 => [some ⟨.shr, treeD ps⟩, some ⟨.shr, gtD g⟩, some ⟨.shr, .tup (dNats ws)⟩, some ⟨.shr, .str (gtW g)⟩, some ⟨.shr, gtT g⟩, some ⟨.own, .lst (dNats out)⟩, e6, e7, e8, e9]) → wideG g = false →
      (∀ x rest out e7 e8 e9, x ≤ ps.length → out ++ thru ps g (x :: rest) = thru ps g ws → DL.Fin (body (E out (some ⟨.shr, .int (x : Nat)⟩) e7 e8 e9)) (Q g rest)) →
      (∀ e6 e7 e8 e9, P .nx (E (thru ps g ws) e6 e7 e8 e9)) → ∀ e7 e8 e9, DL.Fin (dFor (gSet 6) body (dNats ws) (E [] none e7 e8 e9)) P := by
    intro g body P E hE hg step z e7 e8 e9
    refine fin_forL (fun i => D.int (i : Nat)) (fun rest env => ∃ out e6 e7 e8 e9, env = E out e6 e7 e8 e9 ∧ out ++ thru ps g rest = thru ps g ws ∧ ∀ w ∈ rest, w ≤ ps.length) ws _ ⟨[], _, _, _, _, rfl, rfl, hw⟩ (fun x rest env hI => ?_) fun env hI => ?_
    · obtain ⟨out, e6, e7, e8, e9, rfl, h1, h2⟩ := hI
      refine ⟨E out (some ⟨.shr, .int (x : Nat)⟩) e7 e8 e9, by subst hE; rfl, ?_⟩
      refine Fin.mono (step x rest out e7 e8 e9 (h2 x (List.mem_cons_self ..)) h1) ?_
      intro fl e hq
      rw [hQ] at hq
      obtain ⟨k1, out, e6, e7, e8, e9, k2, k3⟩ := hq
      exact .inl ⟨k1, out, e6, e7, e8, e9, by rw [hE]; exact k2, k3, fun w hw => h2 w (List.mem_cons_of_mem _ hw)⟩
    · obtain ⟨out, e6, e7, e8, e9, rfl, h1, _⟩ := hI
      have h1 : out ++ thru ps g [] = thru ps g ws := h1
      have e : thru ps g [] = [] := by cases g <;> first | rfl | cases hg
      rw [e, List.append_nil] at h1
      rw [h1]
      exact z e6 e7 e8 e9
  cases g with
  | head hs =>
    have := h.2
    have a1 : pAdd [.lst (dNats hs), .lst (dNats ws)] = some (.nl (dNats (hs ++ ws))) := by
      rw [p_addL, if_pos (by rw [dNats_len, dNats_len, sizeLine_eq]; omega), dNats_app]
    show DL.Fin (m__law_one_gate [some ⟨.shr, treeD ps⟩, some ⟨.shr, .tup [.str "head", .tup (dNats hs)]⟩, some ⟨.shr, .tup (dNats ws)⟩, none, none, none, none, none, none, none]) _
    simp [m__law_one_gate, hz2, eqw_hh, a1, thru, -p_addL]
  | pad hs =>
    have := h.2
    have a1 : pAdd [.lst (dNats ws), .lst (dNats hs)] = some (.nl (dNats (ws ++ hs))) := by
      rw [p_addL, if_pos (by rw [dNats_len, dNats_len, sizeLine_eq]; omega), dNats_app]
    show DL.Fin (m__law_one_gate [some ⟨.shr, treeD ps⟩, some ⟨.shr, .tup [.str "pad", .tup (dNats hs)]⟩, some ⟨.shr, .tup (dNats ws)⟩, none, none, none, none, none, none, none]) _
    simp [m__law_one_gate, hz2, eqw_ph, eqw_pp, a1, thru, -p_addL]
  | only ks =>
    have fin := fin (.only ks)
    have loop := loop (.only ks)
    have hk3 := h.2.2
    show DL.Fin (m__law_one_gate [some ⟨.shr, treeD ps⟩, some ⟨.shr, .tup [.str "only", .tup (dNats ks)]⟩, some ⟨.shr, .tup (dNats ws)⟩, none, none, none, none, none, none, none]) _
    simp [m__law_one_gate, hz0, hz2, eqw_oh, eqw_op]
    refine loop _ _ _ rfl rfl (fun x rest out e7 e8 e9 hx ho => ?_) (fun e6 e7 e8 e9 => by simp) none none none
    have fin := fun ends e6 e8 e9 he => fin rest out ends x e6 e8 e9 rfl (by omega) he ho
    simp only [gtD, gtW, gtT] at fin ⊢
    generalize (dIfS (dTst (dPrim pNe [.s 7, .v (dPrim pLst [])])) (dDrop (dMut mApp 5 [.v (dPrim pIx [.s 7, .v (dC (.int 0))])])) dNext) = LAST at fin ⊢
    simp [hz1, eqw_oo, eqw_ol, eqw_os]
    refine fin_compM (α := Nat) [some ⟨.shr, treeD ps⟩, some ⟨.shr, .tup [.str "only", .tup (dNats ks)]⟩, some ⟨.shr, .tup (dNats ws)⟩, some ⟨.shr, .str "only"⟩, some ⟨.shr, .tup (dNats ks)⟩, some ⟨.own, .lst (dNats out)⟩, some ⟨.shr, .int (x : Nat)⟩, some ⟨.own, .lst [.int (x : Nat)]⟩, e8, e9] (fun a => D.int (a : Nat)) (fun s => decide (s = x)) (fun a => D.int (a : Nat)) ks (by simp [dNats]) (by rw [sizeLine_eq]; omega) (fun s hs => ⟨_, rfl, ?_⟩) ?_
    · by_cases k : s = x
      · simp [k]
      · have k2 : ¬ ((s : Int) = x) := by omega
        simp [k, k2]
    · have fin := fun e8 e9 => fin (ks.filter fun s => decide (s = x)) (some ⟨.shr, .int (x : Nat)⟩) e8 e9 (filt_eq x)
      simp [eqw_ol, eqw_os]
      exact fin _ _
  | lift ks =>
    have fin := fin (.lift ks)
    have loop := loop (.lift ks)
    show DL.Fin (m__law_one_gate [some ⟨.shr, treeD ps⟩, some ⟨.shr, .tup [.str "lift", .tup (dNats ks)]⟩, some ⟨.shr, .tup (dNats ws)⟩, none, none, none, none, none, none, none]) _
    simp [m__law_one_gate, hz0, hz2, eqw_lh, eqw_lp]
    refine loop _ _ _ rfl rfl (fun x rest out e7 e8 e9 hx ho => ?_) (fun e6 e7 e8 e9 => by simp) none none none
    have fin := fun ends e6 e8 e9 he => fin rest out ends x e6 e8 e9 rfl (by omega) he ho
    simp only [gtD, gtW, gtT] at fin ⊢
    generalize (dIfS (dTst (dPrim pNe [.s 7, .v (dPrim pLst [])])) (dDrop (dMut mApp 5 [.v (dPrim pIx [.s 7, .v (dC (.int 0))])])) dNext) = LAST at fin ⊢
    have u1 := up_from_eq ht hx
    have u2 := upF_len (ps := ps) x x
    have hlen := ht.len
    simp [hz1, eqw_lo, eqw_ll, eqw_ls]
    refine fin_compM (α := Nat) [some ⟨.shr, treeD ps⟩, some ⟨.shr, .tup [.str "lift", .tup (dNats ks)]⟩, some ⟨.shr, .tup (dNats ws)⟩, some ⟨.shr, .str "lift"⟩, some ⟨.shr, .tup (dNats ks)⟩, some ⟨.own, .lst (dNats out)⟩, some ⟨.shr, .int (x : Nat)⟩, some ⟨.own, .lst [.int (x : Nat)]⟩, e8, e9] (fun a => D.int (a : Nat)) (fun s => decide (s ∈ ks)) (fun a => D.int (a : Nat)) (up ps x) (by simp [u1, dNats]) (by rw [sizeLine_eq, up]; omega) (fun s hs => ⟨_, rfl, ?_⟩) ?_
    · have q := inT_nats false s ks
      by_cases k : s ∈ ks
      · simp [q, k]
      · simp [q, k]
    · have fin := fun e8 e9 => fin ((up ps x).filter fun s => decide (s ∈ ks)) (some ⟨.shr, .int (x : Nat)⟩) e8 e9 rfl
      simp [eqw_ls]
      exact fin _ _
  | swap prs =>
    have fin := fin (.swap prs)
    have loop := loop (.swap prs)
    have hk3 := h.2.2
    show DL.Fin (m__law_one_gate [some ⟨.shr, treeD ps⟩, some ⟨.shr, .tup [.str "swap", .tup (prs.map prD)]⟩, some ⟨.shr, .tup (dNats ws)⟩, none, none, none, none, none, none, none]) _
    simp [m__law_one_gate, hz0, hz2, eqw_sh, eqw_sp]
    refine loop _ _ _ rfl rfl (fun x rest out e7 e8 e9 hx ho => ?_) (fun e6 e7 e8 e9 => by simp) none none none
    have fin := fun ends e6 e8 e9 he => fin rest out ends x e6 e8 e9 rfl (by omega) he ho
    simp only [gtD, gtW, gtT] at fin ⊢
    generalize (dIfS (dTst (dPrim pNe [.s 7, .v (dPrim pLst [])])) (dDrop (dMut mApp 5 [.v (dPrim pIx [.s 7, .v (dC (.int 0))])])) dNext) = LAST at fin ⊢
    simp [hz1, eqw_so, eqw_sl, eqw_ss]
    refine fin_compM (α := Nat × Nat) [some ⟨.shr, treeD ps⟩, some ⟨.shr, .tup [.str "swap", .tup (prs.map prD)]⟩, some ⟨.shr, .tup (dNats ws)⟩, some ⟨.shr, .str "swap"⟩, some ⟨.shr, .tup (prs.map prD)⟩, some ⟨.own, .lst (dNats out)⟩, some ⟨.shr, .int (x : Nat)⟩, some ⟨.own, .lst [.int (x : Nat)]⟩, e8, e9] prD (fun p => decide (p.1 = x)) (fun p => D.int (p.2 : Nat)) prs (by simp) (by rw [sizeLine_eq]; omega) (fun s hs => ⟨_, rfl, ?_⟩) ?_
    · by_cases k : s.1 = x
      · simp [k, prD]
      · have k2 : ¬ ((s.1 : Int) = x) := by omega
        simp [k, k2, prD]
    · have fin := fin (((prs.filter fun p => decide (p.1 = x)).map (·.2)) ++ [x]) (some ⟨.shr, .int (x : Nat)⟩)
      have hL : ((prs.filter fun p => decide (p.1 = x)).map fun p => D.int (p.2 : Nat)) = dNats ((prs.filter fun p => decide (p.1 = x)).map (·.2)) := by simp [dNats]
      rw [hL]
      have fl := List.length_filter_le (fun p : Nat × Nat => decide (p.1 = x)) prs
      have a1 : pAdd [.lst (dNats ((prs.filter fun p => decide (p.1 = x)).map (·.2))), .lst [.int (x : Nat)]] = some (.nl (dNats (((prs.filter fun p => decide (p.1 = x)).map (·.2)) ++ [x]))) := by
        rw [p_addL, if_pos (by rw [dNats_len, List.length_map, sizeLine_eq, List.length_singleton]; omega), dNats_snoc]
      have st := swp_take prs x
      generalize (prs.filter fun p => decide (p.1 = x)).map (·.2) = L at fin a1 st ⊢
      simp [a1, hz1, -p_addL]
      exact fin _ _ st)

theorem is_list_eq {ws : List Nat} (hl : ws.length ≤ 4000) : f__law_is_list [⟨.shr, .tup (dNats ws)⟩, ⟨.shr, .lst (dNats ws)⟩] = .ok ⟨.shr, .bl true⟩ .non := def_eq rfl (by
  have k1 := pIsI_tupT (dNats ws)
  have hd := dNats_len ws
  have r := rng1_eq (sm62 (by omega) (by omega) : small62 (ws.length : Int) = true)
  rw [show ((ws.length : Nat) : Int).toNat = ws.length by omega, rngD0] at r
  simp [m__law_is_list, k1, hd, r]
  refine fin_for (fun _ env => ∃ e2, env = [some ⟨.shr, .tup (dNats ws)⟩, some ⟨.shr, .lst (dNats ws)⟩, e2]) ⟨_, rfl⟩ (fun j x env hj hI => ?_) fun env hI => ?_
  · obtain ⟨e2, rfl⟩ := hI
    rw [List.getElem?_map] at hj
    cases hq : (List.range ws.length)[j]? with
    | none => rw [hq] at hj; cases hj
    | some i =>
      rw [hq] at hj
      obtain ⟨rfl, hi⟩ := range_get hq
      obtain rfl : D.int (i : Nat) = x := Option.some.inj hj
      refine ⟨_, rfl, ?_⟩
      obtain ⟨m, hm⟩ : ∃ m, ws[i]? = some m := ⟨_, List.getElem?_eq_getElem hi⟩
      have a : atI (dNats ws) (i : Nat) = some (.int (m : Nat)) := by rw [DL.atI_nat, dNats_get, hm]; rfl
      simp [a]
  · obtain ⟨e2, rfl⟩ := hI
    simp)
def dorD (ps : List Nat) (gs : List Gt) : D := .exc "Doors" [.non, .str "_tree", treeD ps, .str "_doors", .tup (gs.map gtD)]
theorem tree_of (ps : List Nat) (gs : List Gt) : pFldP "Doors" "_tree" [dorD ps gs] = some (.d (treeD ps)) := fldP_1
theorem doors_of (ps : List Nat) (gs : List Gt) : pFldP "Doors" "_doors" [dorD ps gs] = some (.d (.tup (gs.map gtD))) := fldP_2
theorem shr_gates (gs : List Gt) : allShr (gs.map fun g => (⟨.shr, gtD g⟩ : Ent)) = true := by
  induction gs with
  | nil => rfl
  | cons g r ih => simpa [allShr] using ih
theorem doors_new {ps : List Nat} (ht : TreeOk ps) {gs : List Gt} (h : ∀ g ∈ gs, GtOk ps.length g) (hl : gs.length ≤ 4000) : f_Doors (⟨.shr, treeD ps⟩ :: gs.map fun g => (⟨.shr, gtD g⟩ : Ent)) = .ok ⟨.shr, dorD ps gs⟩ .non := by
  have ms : ((gs.map fun g => (⟨.shr, gtD g⟩ : Ent)).map Ent.d) = gs.map gtD := by rw [List.map_map]; rfl
  refine init_eq (by simp) (show allShr (_ :: _) = true from by have k := shr_gates gs; unfold allShr at k ⊢; rw [List.all_cons, k]; rfl) (by rw [List.length_cons, List.length_map, sizeLine_eq]; omega) ?_
  have q := check_tree_eq ht
  show DL.Fin (m_Doors___init__ [none, some ⟨.shr, treeD ps⟩, some ⟨.shr, .tup ((gs.map fun g => (⟨.shr, gtD g⟩ : Ent)).map Ent.d)⟩, none]) _
  rw [ms]
  simp [m_Doors___init__, q]
  refine fin_forL gtD (fun rest env => ∃ e3, env = [none, some ⟨.shr, treeD ps⟩, some ⟨.shr, .tup (gs.map gtD)⟩, e3] ∧ ∀ g ∈ rest, GtOk ps.length g) gs _ ⟨_, rfl, h⟩ (fun g rest env hI => ?_) fun env hI => ?_
  · obtain ⟨e3, rfl, h1⟩ := hI
    have q := check_door_eq (h1 g (List.mem_cons_self ..))
    refine ⟨_, rfl, ?_⟩
    generalize gtD g = d at q ⊢
    simp [q]
    exact fun x hx => h1 x (List.mem_cons_of_mem _ hx)
  · obtain ⟨e3, rfl, h1⟩ := hI
    simp
theorem doors_call {ps : List Nat} (ht : TreeOk ps) {gs : List Gt} (h : ∀ g ∈ gs, GtOk ps.length g) {ws : List Nat} (hw : ∀ w ∈ ws, w ≤ ps.length) (hl : ws.length + 40 * gs.length ≤ 900) :
    f_Doors___call__ [⟨.shr, dorD ps gs⟩, ⟨.shr, .tup (dNats ws)⟩] = .ok ⟨.shr, .tup (dNats (thruAll ps gs ws))⟩ .non := by
  have q1 := check_wishesB hw (by omega)
  have q2 := behind_doors_eq ht h hw hl
  have t1 := tree_of ps gs
  have t2 := doors_of ps gs
  generalize dorD ps gs = d at t1 t2 ⊢
  exact def_eq rfl (by simp [m_Doors___call__, t1, t2, q1, q2, -List.map_map])

theorem law_true (ns : List Int) (h : ns.length ≤ 63) : ∃ o, f_law [⟨.shr, .fz (dInts ns)⟩] = .ok ⟨.shr, .bl true⟩ o := by
  refine ⟨.non, def_eq rfl ?_⟩
  obtain ⟨ms, hms, hml⟩ := cut_ints ns none (some 16)
  have hdl : (dInts ms).length = ms.length := by simp [dInts]
  have hz : 1 + ms.length ≤ sizeLine := by rw [sizeLine_eq]; omega
  have hz1 : 1 ≤ sizeLine := by rw [sizeLine_eq]; omega
  have hz3 : 3 ≤ sizeLine := by rw [sizeLine_eq]; omega
  simp [m_law, hms, hdl, hz, hz1]
  refine fin_for (fun _ env => ∃ e1 e2 e3 e4 e5 e6 e7 e8, env = [some ⟨.shr, .fz (dInts ns)⟩, e1, e2, e3, e4, e5, e6, e7, e8]) ⟨_, _, _, _, _, _, _, _, rfl⟩ (fun j x env hj hI => ?_) fun env hI => ?_
  · obtain ⟨e1, e2, e3, e4, e5, e6, e7, e8, rfl⟩ := hI
    obtain ⟨n, rfl⟩ := item_int hj
    refine ⟨_, rfl, ?_⟩
    obtain ⟨a, b, hp, hb⟩ := pot_spec n
    obtain ⟨ps, a1, c1, x1, ht, hpl, hc1⟩ := fir_spec (a := a) (c := 0) (n := 0) (k := 10) hb ⟨by omega, by omega⟩ (by omega) ⟨by omega, by omega⟩
    have hlen := ht.len
    obtain ⟨d, a2, c2, x2, hg, hc2⟩ := gate_spec (a := a1) (c := c1) (n := 12) (m := ps.length) (L := 40) hb ⟨hc1.1, by omega⟩ (by omega) (by omega) ⟨by omega, by omega⟩
    obtain ⟨us, a3, c3, x3, hu, hul, hc3⟩ := asks_spec (a := a2) (c := c2) (n := 62) (m := ps.length) (L := 40) hb ⟨hc2.1, by omega⟩ (by omega) (by omega) ⟨by omega, by omega⟩
    obtain ⟨vs, a4, c4, x4, hv, hvl, hc4⟩ := asks_spec (a := a3) (c := c3) (n := 107) (m := ps.length) (L := 40) hb ⟨hc3.1, by omega⟩ (by omega) (by omega) ⟨by omega, by omega⟩
    obtain ⟨g, rfl, hgk⟩ := gate_gt hg
    have hgs : ∀ x ∈ [g], GtOk ps.length x := fun x hx => by rw [List.mem_singleton.mp hx]; exact hgk
    have D1 := doors_new ht hgs (by simp)
    have D0 := doors_new (gs := []) ht (by simp) (by simp)
    have D1 : f_Doors [⟨.shr, treeD ps⟩, ⟨.shr, gtD g⟩] = .ok ⟨.shr, dorD ps [g]⟩ .non := D1
    have D0 : f_Doors [⟨.shr, treeD ps⟩] = .ok ⟨.shr, dorD ps []⟩ .non := D0
    have C1 : ∀ ws : List Nat, (∀ w ∈ ws, w ≤ ps.length) → ws.length ≤ 40 → f_Doors___call__ [⟨.shr, dorD ps [g]⟩, ⟨.shr, .tup (dNats ws)⟩] = .ok ⟨.shr, .tup (dNats (thru ps g ws))⟩ .non := fun ws h1 h2 => doors_call ht hgs h1 (by rw [List.length_singleton]; omega)
    have C0 : f_Doors___call__ [⟨.shr, dorD ps []⟩, ⟨.shr, .tup (dNats vs)⟩] = .ok ⟨.shr, .tup (dNats vs)⟩ .non := doors_call (gs := []) ht (by simp) hv (by rw [List.length_nil]; omega)
    have O : ∀ ws : List Nat, (∀ w ∈ ws, w ≤ ps.length) → ws.length ≤ 40 → f__law_one_gate [⟨.shr, treeD ps⟩, ⟨.shr, gtD g⟩, ⟨.shr, .tup (dNats ws)⟩] = .ok ⟨.own, .lst (dNats (thru ps g ws))⟩ .non := fun ws h1 h2 => one_gate_eq ht hgk h1 (by omega)
    have T : ∀ ws : List Nat, (∀ w ∈ ws, w ≤ ps.length) → ws.length ≤ 40 → f__law_is_list [⟨.shr, .tup (dNats (thru ps g ws))⟩, ⟨.shr, .lst (dNats (thru ps g ws))⟩] = .ok ⟨.shr, .bl true⟩ .non := fun ws h1 h2 => is_list_eq (by have := thru_len (ps := ps) hgk ws; omega)
    have TV : f__law_is_list [⟨.shr, .tup (dNats vs)⟩, ⟨.shr, .lst (dNats vs)⟩] = .ok ⟨.shr, .bl true⟩ .non := is_list_eq (by omega)
    have Kv := C1 vs hv hvl
    have Ov := O vs hv hvl
    have Tv := T vs hv hvl
    have E1 : ∃ q1, dorD ps [g] = .exc "Doors" (.non :: q1) := ⟨_, rfl⟩
    have E0 : ∃ q0, dorD ps [] = .exc "Doors" (.non :: q0) := ⟨_, rfl⟩
    obtain ⟨q1, E1⟩ := E1
    obtain ⟨q0, E0⟩ := E0
    rw [E1] at D1 C1 Kv
    rw [E0] at D0 C0
    clear E1 E0
    generalize hd : gtD g = d at *
    have x2 : f__law_drawn_gate [⟨.own, pot a1 b c1⟩, ⟨.shr, .int ((ps.length : Int) + 1)⟩, ⟨.shr, .int 40⟩] = .ok ⟨.shr, d⟩ (pot a2 b c2) := x2
    let E : Option Ent → DEnv := fun e8 => [some ⟨.shr, .fz (dInts ns)⟩, some ⟨.shr, .int n⟩, some ⟨.own, pot a4 b c4⟩, some ⟨.shr, treeD ps⟩, some ⟨.shr, d⟩, some ⟨.shr, .tup (dNats us)⟩, some ⟨.shr, .tup (dNats vs)⟩, some ⟨.shr, .exc "Doors" (.non :: q1)⟩, e8]
    simp [hp, x1, x2, x3, x4, D1, hz3]
    refine fin_forL (fun ws : List Nat => D.tup (dNats ws)) (fun rest env => ∃ e8, env = E e8 ∧ ∀ ws ∈ rest, (∀ w ∈ ws, w ≤ ps.length) ∧ ws.length ≤ 40) [us, vs, us] _ ⟨_, rfl, by
      intro ws hw
      simp only [List.mem_cons, List.not_mem_nil, or_false] at hw
      rcases hw with rfl | rfl | rfl
      · exact ⟨hu, hul⟩
      · exact ⟨hv, hvl⟩
      · exact ⟨hu, hul⟩⟩ (fun ws rest env hI => ?_) fun env hI => ?_
    · obtain ⟨e8, rfl, hr⟩ := hI
      obtain ⟨r1, r2⟩ := hr ws (List.mem_cons_self ..)
      have k1 := C1 ws r1 r2
      have k2 := O ws r1 r2
      have k3 := T ws r1 r2
      refine ⟨_, rfl, ?_⟩
      refine Fin.mono (P := fun fl e => fl = Fl.nx ∧ ∃ e8, e = E e8) (by simp [E, k1, k2, k3]) ?_
      rintro _ _ ⟨rfl, e8, rfl⟩
      exact .inl ⟨trivial, e8, rfl, fun x hx => hr x (List.mem_cons_of_mem _ hx)⟩
    · obtain ⟨e8, rfl, _⟩ := hI
      simp [E, D0, C0, TV, Kv, Ov, Tv]
  · obtain ⟨e1, e2, e3, e4, e5, e6, e7, e8, rfl⟩ := hI
    simp
theorem law_sp {K : PySem.W.Frag} {mg : Str → Option Value} {H : Hp} {a : Addr} (ns : List Int) (hl : ns.length ≤ 63) (hS : SqF K H a (ns.map V.int)) : spD K mg false 1 f_law [.ref a] H (fun v _ => v = .bl true) fun _ _ _ => False := law_end hS (law_true ns hl)
end My
theorem PySem.Challenge.cw_wishedtongues_k52_one_door_holds : PySem.Challenge.rw_wishedtongues_k52_one_door.Holds := by
  w_on; o_law; k_head; (case hw => w_witness2)
  k_fill
  refine DL.g_walk (l := PySem.Challenge.rw_wishedtongues_k52_one_door) (n := 63) (k := 10) (x := "script") (sp := fun K mg => DL.spD K mg false 1 My.f_law) rfl (by decide) rfl ⟨rfl, by decide, by decide⟩ (fun w h Y => PySem.W.kIn_of Y) ?F (fun K mg H a ns hl hS => My.law_sp ns hl hS)
  case F =>
    intro w mg fa h KX G hmg
    refine' My.all_mk KX G hmg ?xa_Doors ?xc1_Doors ?xc2_Doors ?xc3_Doors ?xc4_Doors ?xc5_Doors ?xc6_Doors ?xn_Doors__tree ?xn_Doors__doors ?a0 ?l0 ?c0 ?k0 ?a1 ?l1 ?c1 ?k1 ?a2 ?l2 ?c2 ?k2 ?a3 ?l3 ?c3 ?k3 ?a4 ?l4 ?c4 ?k4 ?a5 ?l5 ?c5 ?k5 ?a6 ?l6 ?c6 ?k6 ?a7 ?l7 ?c7 ?k7 ?a8 ?l8 ?c8 ?k8 ?a9 ?l9 ?c9 ?k9 ?a10 ?l10 ?c10 ?k10 ?a11 ?l11 ?c11 ?k11 ?a12 ?l12 ?c12 ?k12 ?a13 ?l13 ?c13 ?k13 ?a14 ?l14 ?c14 ?k14 ?a15 ?l15 ?c15 ?k15 ?a16 ?l16 ?c16 ?k16 ?fa16 ?fb16 ?a17 ?l17 ?c17 ?k17 ?a18 ?l18 ?c18 ?k18 ?a19 ?l19 ?c19 ?k19 ?a20 ?l20 ?c20 ?k20 ?a21 ?l21 ?c21 ?k21 ?a22 ?l22 ?c22 ?k22 ?a23 ?l23 ?c23 ?k23 ?a24 ?l24 ?c24 ?k24 ?fa24 ?fb24 ?a25 ?l25 ?c25 ?k25 ?a26 ?l26 ?c26 ?k26 ?a27 ?l27 ?c27 ?k27 ?z_all ?z_bool ?z_int ?z_isinstance ?z_len ?z_list ?z_max ?z_min ?z_range ?z_str ?z_tuple ?z_type ?z_zip ?v_MOST_LOCALES 
    (case xa_Doors => k_is); (case xc1_Doors => k_is); (case xc2_Doors => k_is); (case xc3_Doors => k_is); (case xc4_Doors => k_is); (case xc5_Doors => k_is); (case xc6_Doors => k_is); (case xn_Doors__tree => k_is); (case xn_Doors__doors => k_is); (case a0 => k_is); (case l0 => k_is); (case c0 => k_is); (case k0 => k_is)
    (case a1 => k_is); (case l1 => k_is); (case c1 => k_is); (case k1 => k_is)
    (case a2 => k_is); (case l2 => k_is); (case c2 => k_is); (case k2 => k_is)
    (case a3 => k_is); (case l3 => k_is); (case c3 => k_is); (case k3 => k_is)
    (case a4 => k_is); (case l4 => k_is); (case c4 => k_is); (case k4 => k_is)
    (case a5 => k_is); (case l5 => k_is); (case c5 => k_is); (case k5 => k_is)
    (case a6 => k_is); (case l6 => k_is); (case c6 => k_is); (case k6 => k_is)
    (case a7 => k_is); (case l7 => k_is); (case c7 => k_is); (case k7 => k_is)
    (case a8 => k_is); (case l8 => k_is); (case c8 => k_is); (case k8 => k_is)
    (case a9 => k_is); (case l9 => k_is); (case c9 => k_is); (case k9 => k_is)
    (case a10 => k_is); (case l10 => k_is); (case c10 => k_is); (case k10 => k_is)
    (case a11 => k_is); (case l11 => k_is); (case c11 => k_is); (case k11 => k_is)
    (case a12 => k_is); (case l12 => k_is); (case c12 => k_is); (case k12 => k_is)
    (case a13 => k_is); (case l13 => k_is); (case c13 => k_is); (case k13 => k_is)
    (case a14 => k_is); (case l14 => k_is); (case c14 => k_is); (case k14 => k_is)
    (case a15 => k_is); (case l15 => k_is); (case c15 => k_is); (case k15 => k_is)
    (case a16 => k_is); (case l16 => k_is); (case c16 => k_is); (case k16 => k_is); (case fa16 => k_is); (case fb16 => k_is)
    (case a17 => k_is); (case l17 => k_is); (case c17 => k_is); (case k17 => k_is)
    (case a18 => k_is); (case l18 => k_is); (case c18 => k_is); (case k18 => k_is)
    (case a19 => k_is); (case l19 => k_is); (case c19 => k_is); (case k19 => k_is)
    (case a20 => k_is); (case l20 => k_is); (case c20 => k_is); (case k20 => k_is)
    (case a21 => k_is); (case l21 => k_is); (case c21 => k_is); (case k21 => k_is)
    (case a22 => k_is); (case l22 => k_is); (case c22 => k_is); (case k22 => k_is)
    (case a23 => k_is); (case l23 => k_is); (case c23 => k_is); (case k23 => k_is)
    (case a24 => k_is); (case l24 => k_is); (case c24 => k_is); (case k24 => k_is); (case fa24 => k_is); (case fb24 => k_is)
    (case a25 => k_is); (case l25 => k_is); (case c25 => k_is); (case k25 => k_is)
    (case a26 => k_is); (case l26 => k_is); (case c26 => k_is); (case k26 => k_is)
    (case a27 => k_is); (case l27 => k_is); (case c27 => k_is); (case k27 => k_is)
    (case z_all => k_is); (case z_bool => k_is); (case z_int => k_is); (case z_isinstance => k_is); (case z_len => k_is); (case z_list => k_is); (case z_max => k_is); (case z_min => k_is); (case z_range => k_is); (case z_str => k_is); (case z_tuple => k_is); (case z_type => k_is); (case z_zip => k_is); (case v_MOST_LOCALES => k_is)
