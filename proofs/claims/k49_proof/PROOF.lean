import PyProof.Rows.All
import Wide.All
import OpenK.AllK
import Wide.FinOn
import HandS.ForMost
import HandS.ForExc
import HandS.Wide
import HandS.More
import HandS.Style
import HandS.Deep
import HandS.Conv
import HandS.TupAny
import HandS.TupMul
import HandS.Zip
import HandS.TryMany
import HandS.Defaults
import PyProof.AutoSeq1
import PyProof.TypeEq
import HandS.IsInst
import HandS.RaiseMore
import PyProof.ReprRoads
import KE.KRevSl
import KE.GoesEnum
import KE.DataFind
import KE.DataMinMax
import PySem.Challenge.RW_wishedtongues_k49_whole_pages_by_pairs_o
set_option Elab.async false
set_option linter.all false
set_option maxRecDepth 100000
set_option maxHeartbeats 4000000
/-! DL0: plain data over the heap of the layer: what stands for what, what stays, what a frame owns. -/
namespace DL
open PySem PySem.Spec PyProof.Rows L2

/-- plain data; exc: an error object, by the name of its class and the field that it keeps -/
inductive D where
  | non | bl (b : Bool) | int (i : Int) | str (x : Str) | lst (xs : List D) | tup (xs : List D)
  /-- the script: a list that is locked -/
  | fz (xs : List D)
  | exc (c : Nat) (fs : List D)
  /-- a pair that a walk gives -/
  | pr (x y : D)
  /-- a range by ones -/
  | rng (lo hi : Int)

abbrev Fz := Addr → Prop
/-- where the script stands: locked, or a part of the module -/
def SqF (K : PySem.W.Frag) (H : Hp) (a : Addr) (vs : List V) : Prop := (∃ o, H a = some (.frz o (.lst vs))) ∨
  ∃ (o : Obj) (its : Array Value) (n : Nat), K.lookup a = some o ∧ o.cls = .type "list" ∧ o.dict = none ∧ o.data = .seq its n ∧ its.size ≤ sizeLine ∧ Vals vs its.toList
theorem SqF.sq {K : PySem.W.Frag} {H : Hp} {a : Addr} {vs : List V} (s : SqF K H a vs) : SqL K H a vs := s.imp (fun ⟨o, h⟩ => .inr ⟨o, h⟩) id

/-- a tuple that is known to its object, which has no dict -/
def TpL (H : Hp) (a : Addr) (vs : List V) : Prop := ∃ o : Obj, o.dict = none ∧ H a = some (.frz o (.tup vs))
theorem TpL.sq {K : PySem.W.Frag} {H : Hp} {a : Addr} {vs : List V} (s : TpL H a vs) : SqT K H a vs := let ⟨o, _, h⟩ := s; .inl (.inr ⟨o, h⟩)
mutual
def Rep (K : PySem.W.Frag) (F : Fz) (H : Hp) : D → V → Prop
  | .non, v => v = .non
  | .bl b, v => v = .bl b
  | .int i, v => v = .int i
  | .str x, v => v = .str x
  | .lst ds, v => ∃ a vs, v = .ref a ∧ F a ∧ H a = some (.lst vs) ∧ RepL K F H ds vs
  | .tup ds, v => ∃ a vs, v = .ref a ∧ TpL H a vs ∧ RepL K F H ds vs
  | .fz ds, v => ∃ a vs, v = .ref a ∧ SqF K H a vs ∧ RepL K F H ds vs
  | .exc _ _, _ => False
  | .pr x y, v => ∃ a vx vy, v = .ref a ∧ H a = some (.tup [vx, vy]) ∧ Rep K F H x vx ∧ Rep K F H y vy
  | .rng lo hi, v => ∃ a o, v = .ref a ∧ H a = some (.frz o (.rng lo hi))
def RepL (K : PySem.W.Frag) (F : Fz) (H : Hp) : List D → List V → Prop
  | [], vs => vs = []
  | d :: ds, vs => ∃ v r, vs = v :: r ∧ Rep K F H d v ∧ RepL K F H ds r
end

/-- what is kept from (F, H) to (F', H'); O: what others own -/
structure Ext (O F : Fz) (H : Hp) (F' : Fz) (H' : Hp) : Prop where
  sub : ∀ a, F a → F' a
  fz : ∀ a o, F a → H a = some o → H' a = some o
  tp : ∀ a xs, H a = some (.tup xs) → H' a = some (.tup xs)
  fr : ∀ a o u, H a = some (.frz o u) → H' a = some (.frz o u)
  out : ∀ a, O a → H' a = H a
  outF : ∀ a, O a → F' a → F a
theorem Ext.refl {O F : Fz} {H : Hp} : Ext O F H F H := ⟨fun _ h => h, fun _ _ _ h => h, fun _ _ h => h, fun _ _ _ h => h, fun _ _ => rfl, fun _ _ h => h⟩
theorem Ext.trans {O F F1 F2 : Fz} {H H1 H2 : Hp} (a : Ext O F H F1 H1) (b : Ext O F1 H1 F2 H2) : Ext O F H F2 H2 :=
  ⟨fun x h => b.sub x (a.sub x h), fun x o h e => b.fz x o (a.sub x h) (a.fz x o h e), fun x xs e => b.tp x xs (a.tp x xs e), fun x o u e => b.fr x o u (a.fr x o u e),
   fun x h => (b.out x h).trans (a.out x h), fun x h f => a.outF x h (b.outF x h f)⟩
theorem Ext.mono {O O' F F' : Fz} {H H' : Hp} (a : Ext O F H F' H') (h : ∀ x, O' x → O x) : Ext O' F H F' H' :=
  ⟨a.sub, a.fz, a.tp, a.fr, fun x q => a.out x (h x q), fun x q => a.outF x (h x q)⟩
/-- all that was tracked is as it was -/
theorem Ext.same {O F : Fz} {H H' : Hp} (s : Same H H') (od : ∀ a, O a → H a ≠ none) : Ext O F H F H' :=
  ⟨fun _ h => h, fun a o _ e => s a o e, fun a xs e => s a _ e, fun a o u e => s a _ e, fun a h => by
    cases q : H a with
    | none => exact absurd q (od a h)
    | some o => exact s a o q, fun _ _ h => h⟩

theorem sqF_ext {K : PySem.W.Frag} {O F F' : Fz} {H H' : Hp} (e : Ext O F H F' H') {a : Addr} {vs : List V} (s : SqF K H a vs) : SqF K H' a vs := s.imp (fun ⟨o, h⟩ => ⟨o, e.fr _ _ _ h⟩) id
theorem tpL_ext {O F F' : Fz} {H H' : Hp} (e : Ext O F H F' H') {a : Addr} {vs : List V} (s : TpL H a vs) : TpL H' a vs := let ⟨o, h1, h2⟩ := s; ⟨o, h1, e.fr _ _ _ h2⟩
mutual
theorem Rep.ext {K : PySem.W.Frag} {O F F' : Fz} {H H' : Hp} (e : Ext O F H F' H') : ∀ (d : D) (v : V), Rep K F H d v → Rep K F' H' d v
  | .non, _, h => h
  | .bl _, _, h => h
  | .int _, _, h => h
  | .str _, _, h => h
  | .lst ds, v, h => by
    obtain ⟨a, vs, e1, f, s, r⟩ := h
    exact ⟨a, vs, e1, e.sub a f, e.fz a _ f s, RepL.ext e ds vs r⟩
  | .fz ds, v, h => by
    obtain ⟨a, vs, e1, s, r⟩ := h
    exact ⟨a, vs, e1, sqF_ext e s, RepL.ext e ds vs r⟩
  | .tup ds, v, h => by
    obtain ⟨a, vs, e1, s, r⟩ := h
    exact ⟨a, vs, e1, tpL_ext e s, RepL.ext e ds vs r⟩
  | .exc _ _, _, h => h
  | .pr x y, v, h => by
    obtain ⟨a, vx, vy, e1, s, r1, r2⟩ := h
    exact ⟨a, vx, vy, e1, e.tp _ _ s, Rep.ext e x vx r1, Rep.ext e y vy r2⟩
  | .rng lo hi, v, h => by
    obtain ⟨a, o, e1, s⟩ := h
    exact ⟨a, o, e1, e.fr _ _ _ s⟩
theorem RepL.ext {K : PySem.W.Frag} {O F F' : Fz} {H H' : Hp} (e : Ext O F H F' H') : ∀ (ds : List D) (vs : List V), RepL K F H ds vs → RepL K F' H' ds vs
  | [], _, h => h
  | d :: ds, vs, h => by
    obtain ⟨v, r, e1, h1, h2⟩ := h
    exact ⟨v, r, e1, Rep.ext e d v h1, RepL.ext e ds r h2⟩
end
theorem RepL.length {K : PySem.W.Frag} {F : Fz} {H : Hp} : ∀ {ds : List D} {vs : List V}, RepL K F H ds vs → vs.length = ds.length
  | [], _, h => by rw [show _ = ([] : List V) from h]; rfl
  | d :: ds, vs, h => by
    obtain ⟨v, r, rfl, _, h2⟩ := h
    simp [RepL.length h2]
theorem RepL.nil {K : PySem.W.Frag} {F : Fz} {H : Hp} : RepL K F H [] [] := by show ([] : List V) = []; rfl
theorem RepL.cons {K : PySem.W.Frag} {F : Fz} {H : Hp} {d : D} {ds : List D} {v : V} {vs : List V} (h : Rep K F H d v) (t : RepL K F H ds vs) : RepL K F H (d :: ds) (v :: vs) := ⟨v, vs, rfl, h, t⟩
theorem RepL.append {K : PySem.W.Frag} {F : Fz} {H : Hp} : ∀ {ds es : List D} {vs ws : List V}, RepL K F H ds vs → RepL K F H es ws → RepL K F H (ds ++ es) (vs ++ ws)
  | [], _, _, _, h, k => by rw [show _ = ([] : List V) from h]; exact k
  | d :: ds, es, vs, ws, h, k => by
    obtain ⟨v, r, rfl, h1, h2⟩ := h
    exact ⟨v, r ++ ws, rfl, h1, RepL.append h2 k⟩
theorem RepL.get {K : PySem.W.Frag} {F : Fz} {H : Hp} : ∀ {ds : List D} {vs : List V} {i : Nat} {d : D}, RepL K F H ds vs → ds[i]? = some d → ∃ v, vs[i]? = some v ∧ Rep K F H d v
  | [], _, i, d, _, e => by simp at e
  | d :: ds, vs, 0, d', h, e => by
    obtain ⟨v, r, rfl, h1, h2⟩ := h
    simp at e; subst e
    exact ⟨v, rfl, h1⟩
  | d :: ds, vs, i + 1, d', h, e => by
    obtain ⟨v, r, rfl, h1, h2⟩ := h
    simp at e
    obtain ⟨v', q1, q2⟩ := RepL.get h2 e
    exact ⟨v', by simpa using q1, q2⟩
theorem RepL.get' {K : PySem.W.Frag} {F : Fz} {H : Hp} {ds : List D} {vs : List V} {i : Nat} {v : V} (h : RepL K F H ds vs) (e : vs[i]? = some v) : ∃ d, ds[i]? = some d ∧ Rep K F H d v := by
  have l := h.length
  have hi : i < ds.length := by
    rw [← l]; exact (List.getElem?_eq_some_iff.mp e).1
  obtain ⟨v', q1, q2⟩ := h.get (List.getElem?_eq_getElem hi)
  rw [e] at q1; cases q1
  exact ⟨_, List.getElem?_eq_getElem hi, q2⟩
theorem RepL.set {K : PySem.W.Frag} {F : Fz} {H : Hp} {d : D} {v : V} (q : Rep K F H d v) : ∀ {ds : List D} {vs : List V} (i : Nat), RepL K F H ds vs → RepL K F H (ds.set i d) (vs.set i v)
  | [], _, i, h => by rw [show _ = ([] : List V) from h]; exact RepL.nil
  | d' :: ds, vs, 0, h => by
    obtain ⟨v', r, rfl, h1, h2⟩ := h
    exact ⟨v, r, rfl, q, h2⟩
  | d' :: ds, vs, i + 1, h => by
    obtain ⟨v', r, rfl, h1, h2⟩ := h
    exact ⟨v', r.set i v, rfl, h1, RepL.set q i h2⟩
theorem RepL.take {K : PySem.W.Frag} {F : Fz} {H : Hp} : ∀ {ds : List D} {vs : List V} (n : Nat), RepL K F H ds vs → RepL K F H (ds.take n) (vs.take n)
  | _, _, 0, _ => by simp only [List.take_zero]; exact RepL.nil
  | [], _, n + 1, h => by rw [show _ = ([] : List V) from h]; exact RepL.nil
  | d :: ds, vs, n + 1, h => by
    obtain ⟨v, r, rfl, h1, h2⟩ := h
    exact ⟨v, r.take n, rfl, h1, RepL.take n h2⟩
theorem RepL.drop {K : PySem.W.Frag} {F : Fz} {H : Hp} : ∀ {ds : List D} {vs : List V} (n : Nat), RepL K F H ds vs → RepL K F H (ds.drop n) (vs.drop n)
  | _, _, 0, h => h
  | [], _, n + 1, h => by rw [show _ = ([] : List V) from h]; exact RepL.nil
  | d :: ds, vs, n + 1, h => by
    obtain ⟨v, r, rfl, h1, h2⟩ := h
    exact RepL.drop n h2
theorem RepL.dropLast {K : PySem.W.Frag} {F : Fz} {H : Hp} {ds : List D} {vs : List V} (h : RepL K F H ds vs) : RepL K F H ds.dropLast vs.dropLast := by
  rw [List.dropLast_eq_take, List.dropLast_eq_take, h.length]
  exact h.take _
theorem RepL.reverse {K : PySem.W.Frag} {F : Fz} {H : Hp} : ∀ {ds : List D} {vs : List V}, RepL K F H ds vs → RepL K F H ds.reverse vs.reverse
  | [], _, h => by rw [show _ = ([] : List V) from h]; exact RepL.nil
  | d :: ds, vs, h => by
    obtain ⟨v, r, rfl, h1, h2⟩ := h
    rw [List.reverse_cons, List.reverse_cons]
    exact (RepL.reverse h2).append (RepL.cons h1 RepL.nil)
theorem RepL.rep {K : PySem.W.Frag} {F : Fz} {H : Hp} {ds : List D} {vs : List V} (h : RepL K F H ds vs) : ∀ k : Nat, RepL K F H (List.replicate k ds).flatten (List.replicate k vs).flatten
  | 0 => RepL.nil
  | k + 1 => by
    rw [List.replicate_succ, List.replicate_succ, List.flatten_cons, List.flatten_cons]
    exact h.append (RepL.rep h k)

/-- a value that may be a list that is not yet still: what an operation reads -/
def RepT (K : PySem.W.Frag) (F : Fz) (H : Hp) : D → V → Prop
  | .lst ds, v => ∃ a vs, v = .ref a ∧ H a = some (.lst vs) ∧ RepL K F H ds vs
  | d, v => Rep K F H d v
theorem Rep.top {K : PySem.W.Frag} {F : Fz} {H : Hp} : ∀ {d : D} {v : V}, Rep K F H d v → RepT K F H d v
  | .lst _, _, h => let ⟨a, vs, e, _, s, r⟩ := h; ⟨a, vs, e, s, r⟩
  | .fz _, _, h => h
  | .non, _, h => h
  | .bl _, _, h => h
  | .int _, _, h => h
  | .str _, _, h => h
  | .tup _, _, h => h
  | .exc _ _, _, h => h
  | .pr _ _, _, h => h
  | .rng _ _, _, h => h

/-! ### a frame's names -/
inductive Md where
  | shr | own | bor
  deriving DecidableEq
structure Ent where
  md : Md
  d : D
abbrev DEnv := List (Option Ent)
/-- the address that the i-th name owns -/
def OwnAt (env : DEnv) (σ : L2.St) (i : Nat) (a : Addr) : Prop := ∃ (m : Md) (d : D), env[i]? = some (some (Ent.mk m d)) ∧ m ≠ Md.shr ∧ σ[i]? = some (some (.ref a))

structure StOk (K : PySem.W.Frag) (O F : Fz) (H : Hp) (σ : L2.St) (env : DEnv) : Prop where
  len : σ.length = env.length
  shr : ∀ (i : Nat) (d : D), env[i]? = some (some (Ent.mk Md.shr (d))) → ∃ v, σ[i]? = some (some v) ∧ Rep K F H d v
  own : ∀ (i : Nat) (m : Md) (d : D), env[i]? = some (some (Ent.mk m (d))) → m ≠ Md.shr → ∃ a vs ds, d = .lst ds ∧ σ[i]? = some (some (.ref a)) ∧ H a = some (.lst vs) ∧ RepL K F H ds vs ∧ ¬ F a ∧ ¬ O a
  inj : ∀ (i j : Nat) (a : Addr), OwnAt env σ i a → OwnAt env σ j a → i = j
  fdom : ∀ a, F a → H a ≠ none
  odom : ∀ a, O a → H a ≠ none

/-- a result: still, or a new list that nobody else holds -/
def REnt (K : PySem.W.Frag) (O F : Fz) (H : Hp) (σ : L2.St) (env : DEnv) (e : Ent) (v : V) : Prop :=
  match e.md with
  | .shr => Rep K F H e.d v
  | _ => ∃ a vs ds, e.d = .lst ds ∧ v = .ref a ∧ H a = some (.lst vs) ∧ RepL K F H ds vs ∧ ¬ F a ∧ ¬ O a ∧ ∀ i, ¬ OwnAt env σ i a

section
variable {K : PySem.W.Frag} {O F F' : Fz} {H H' : Hp} {σ : L2.St} {env : DEnv}
/-- all that was tracked stands, new things beside: the names as they were -/
theorem StOk.same (s : StOk K O F H σ env) (e : Same H H') : StOk K O F H' σ env where
  len := s.len
  shr := fun i d q => let ⟨v, h1, h2⟩ := s.shr i d q; ⟨v, h1, Rep.ext (Ext.same (O := O) e s.odom) d v h2⟩
  own := fun i m d q n => let ⟨a, vs, ds, h1, h2, h3, h4, h5, h6⟩ := s.own i m d q n
    ⟨a, vs, ds, h1, h2, e _ _ h3, RepL.ext (Ext.same (O := O) e s.odom) ds vs h4, h5, h6⟩
  inj := s.inj
  fdom := fun a f => by
    cases q : H a with
    | none => exact absurd q (s.fdom a f)
    | some o => rw [e a o q]; exact nofun
  odom := fun a f => by
    cases q : H a with
    | none => exact absurd q (s.odom a f)
    | some o => rw [e a o q]; exact nofun
/-- a new list that nobody holds becomes still -/
theorem freeze {e : Ent} {v : V} (s : StOk K O F H σ env) (r : REnt K O F H σ env e v) :
    ∃ F', Ext O F H F' H ∧ StOk K O F' H σ env ∧ Rep K F' H e.d v := by
  obtain ⟨m, d⟩ := e
  have own : (∃ a vs ds, d = D.lst ds ∧ v = .ref a ∧ H a = some (.lst vs) ∧ RepL K F H ds vs ∧ ¬ F a ∧ ¬ O a ∧ ∀ i, ¬ OwnAt env σ i a) →
      ∃ F', Ext O F H F' H ∧ StOk K O F' H σ env ∧ Rep K F' H d v := fun ⟨a, vs, ds, e1, e2, h, rl, nF, nO, nW⟩ => by
    subst e1 e2
    have E : Ext O F H (fun b => F b ∨ b = a) H := ⟨fun _ h => .inl h, fun _ _ _ h => h, fun _ _ h => h, fun _ _ _ h => h, fun _ _ => rfl, fun b ob q => by
      rcases q with q | q
      · exact q
      · subst q; exact absurd ob nO⟩
    refine ⟨fun b => F b ∨ b = a, E, ⟨s.len, fun i d q => let ⟨v, h1, h2⟩ := s.shr i d q; ⟨v, h1, Rep.ext E d v h2⟩, fun i m d q n => ?_, s.inj, fun b q => ?_, s.odom⟩, ?_⟩
    · obtain ⟨b, ws, es, h1, h2, h3, h4, h5, h6⟩ := s.own i m d q n
      refine ⟨b, ws, es, h1, h2, h3, RepL.ext E es ws h4, fun z => ?_, h6⟩
      rcases z with z | z
      · exact h5 z
      · subst z
        exact nW i ⟨m, d, q, n, h2⟩
    · rcases q with q | q
      · exact s.fdom b q
      · subst q; rw [h]; exact nofun
    · exact ⟨a, vs, rfl, .inr rfl, h, RepL.ext E ds vs rl⟩
  cases m with
  | shr => exact ⟨F, Ext.refl, s, r⟩
  | own => exact own r
  | bor => exact own r
/-- a name's new value -/
theorem StOk.set {e : Ent} {v : V} {i : Nat} (s : StOk K O F H σ env) (r : REnt K O F H σ env e v) (hi : i < σ.length) : StOk K O F H (σ.set i (some v)) (env.set i (some e)) := by
  have hie : i < env.length := by rw [← s.len]; exact hi
  have oa : ∀ j a, j ≠ i → OwnAt (env.set i (some e)) (σ.set i (some v)) j a → OwnAt env σ j a := fun j a hj ⟨m, d, h1, h2, h3⟩ => by
    rw [List.getElem?_set_ne (Ne.symm hj)] at h1 h3
    exact ⟨m, d, h1, h2, h3⟩
  have self : ∀ a, OwnAt (env.set i (some e)) (σ.set i (some v)) i a → v = .ref a ∧ e.md ≠ Md.shr := fun a ⟨m, d, h1, h2, h3⟩ => by
    rw [List.getElem?_set_self hie] at h1
    rw [List.getElem?_set_self hi] at h3
    cases h1
    cases h3
    exact ⟨rfl, h2⟩
  have rown : e.md ≠ Md.shr → ∃ a vs ds, e.d = .lst ds ∧ v = .ref a ∧ H a = some (.lst vs) ∧ RepL K F H ds vs ∧ ¬ F a ∧ ¬ O a ∧ ∀ i, ¬ OwnAt env σ i a := fun n => by
    obtain ⟨m, d⟩ := e
    cases m with
    | shr => exact absurd rfl n
    | own => exact r
    | bor => exact r
  refine ⟨by rw [List.length_set, List.length_set]; exact s.len, fun j d q => ?_, fun j m d q n => ?_, fun j k a h1 h2 => ?_, s.fdom, s.odom⟩
  · by_cases hj : j = i
    · subst hj
      rw [List.getElem?_set_self hie] at q
      cases q
      exact ⟨v, List.getElem?_set_self hi, r⟩
    · rw [List.getElem?_set_ne (Ne.symm hj)] at q ⊢
      exact s.shr j d q
  · by_cases hj : j = i
    · subst hj
      rw [List.getElem?_set_self hie] at q
      cases q
      obtain ⟨a, vs, ds, e1, e2, h3, h4, h5, h6, _⟩ := rown n
      exact ⟨a, vs, ds, e1, by rw [List.getElem?_set_self hi, e2], h3, h4, h5, h6⟩
    · rw [List.getElem?_set_ne (Ne.symm hj)] at q ⊢
      exact s.own j m d q n
  · by_cases hj : j = i
    · by_cases hk : k = i
      · rw [hj, hk]
      · subst hj
        obtain ⟨rfl, n⟩ := self a h1
        obtain ⟨b, _, _, _, e2, _, _, _, _, nw⟩ := rown n
        cases e2
        exact absurd (oa k a hk h2) (nw k)
    · by_cases hk : k = i
      · subst hk
        obtain ⟨rfl, n⟩ := self a h2
        obtain ⟨b, _, _, _, e2, _, _, _, _, nw⟩ := rown n
        cases e2
        exact absurd (oa j a hj h1) (nw j)
      · exact s.inj j k a (oa j a hj h1) (oa k a hk h2)
/-- a name forgotten -/
theorem StOk.drop {i : Nat} (s : StOk K O F H σ env) : StOk K O F H σ (env.set i none) := by
  have g : ∀ {j : Nat} {x : Ent}, (env.set i none)[j]? = some (some x) → env[j]? = some (some x) := fun {j x} q => by
    by_cases hj : j = i
    · subst hj
      by_cases hl : j < env.length
      · rw [List.getElem?_set_self hl] at q; cases q
      · rw [List.getElem?_eq_none (by rw [List.length_set]; omega)] at q; cases q
    · rw [List.getElem?_set_ne (Ne.symm hj)] at q; exact q
  exact ⟨by rw [List.length_set]; exact s.len, fun j d q => s.shr j d (g q), fun j m d q n => s.own j m d (g q) n, fun j k a ⟨m, d, h1, h2, h3⟩ ⟨m', d', h1', h2', h3'⟩ => s.inj j k a ⟨m, d, g h1, h2, h3⟩ ⟨m', d', g h1', h2', h3'⟩, s.fdom, s.odom⟩
/-- the list that a name owns is changed -/
theorem StOk.write {i : Nat} {m : Md} {d : D} {a : Addr} {vs ws : List V} {es : List D} (s : StOk K O F H σ env) (hi : env[i]? = some (some (Ent.mk m (d)))) (hm : m ≠ Md.shr) (ha : σ[i]? = some (some (.ref a))) (h : H a = some (.lst vs))
    (nF : ¬ F a) (nO : ¬ O a) (r : RepL K F H es ws) : StOk K O F (upd H a (.lst ws)) σ (env.set i (some (Ent.mk m (D.lst es)))) ∧ Ext O F H F (upd H a (.lst ws)) := by
  have E : Ext O F H F (upd H a (.lst ws)) := ⟨fun _ h => h, fun b o f q => by
      rw [upd_ne (fun z => by subst z; exact nF f)]; exact q, fun b xs q => by
      rw [upd_ne (fun z => by subst z; rw [h] at q; cases q)]; exact q, fun b o u q => by
      rw [upd_ne (fun z => by subst z; rw [h] at q; cases q)]; exact q, fun b ob => upd_ne (fun z => by subst z; exact nO ob), fun _ _ q => q⟩
  have hie : i < env.length := (List.getElem?_eq_some_iff.mp hi).1
  have oa : ∀ j b, OwnAt (env.set i (some (Ent.mk m (D.lst es)))) σ j b → OwnAt env σ j b := fun j b ⟨m', d', h1, h2, h3⟩ => by
    by_cases hj : j = i
    · subst hj
      rw [List.getElem?_set_self hie] at h1
      cases h1
      exact ⟨m, d, hi, hm, h3⟩
    · rw [List.getElem?_set_ne (Ne.symm hj)] at h1
      exact ⟨m', d', h1, h2, h3⟩
  refine ⟨⟨by rw [List.length_set]; exact s.len, fun j d' q => ?_, fun j m' d' q n => ?_, fun j k b h1 h2 => s.inj j k b (oa j b h1) (oa k b h2), fun b f => ?_, fun b f => ?_⟩, E⟩
  · by_cases hj : j = i
    · subst hj
      rw [List.getElem?_set_self hie] at q
      cases q
      exact absurd rfl hm
    · rw [List.getElem?_set_ne (Ne.symm hj)] at q
      obtain ⟨v, h1, h2⟩ := s.shr j d' q
      exact ⟨v, h1, Rep.ext E d' v h2⟩
  · by_cases hj : j = i
    · subst hj
      rw [List.getElem?_set_self hie] at q
      cases q
      exact ⟨a, ws, es, rfl, ha, upd_same, RepL.ext E es ws r, nF, nO⟩
    · rw [List.getElem?_set_ne (Ne.symm hj)] at q
      obtain ⟨b, xs, ds, h1, h2, h3, h4, h5, h6⟩ := s.own j m' d' q n
      have hb : b ≠ a := fun z => by
        subst z
        exact hj (s.inj j i b ⟨m', d', q, n, h2⟩ ⟨m, d, hi, hm, ha⟩)
      exact ⟨b, xs, ds, h1, h2, by rw [upd_ne hb]; exact h3, RepL.ext E ds xs h4, h5, h6⟩
  · by_cases hb : b = a
    · subst hb; rw [upd_same]; exact nofun
    · rw [upd_ne hb]; exact s.fdom b f
  · by_cases hb : b = a
    · subst hb; rw [upd_same]; exact nofun
    · rw [upd_ne hb]; exact s.odom b f
/-- a name that owned its list lets it be still -/
theorem StOk.still {i : Nat} {m : Md} {d : D} (s : StOk K O F H σ env) (hi : env[i]? = some (some (Ent.mk m (d)))) (hm : m ≠ Md.shr) :
    ∃ v F', σ[i]? = some (some v) ∧ Ext O F H F' H ∧ StOk K O F' H σ (env.set i (some (Ent.mk Md.shr (d)))) ∧ Rep K F' H d v := by
  obtain ⟨a, vs, ds, rfl, e2, h, rl, nF, nO⟩ := s.own i m d hi hm
  have s' : StOk K O F H σ (env.set i none) := s.drop
  have hie : i < env.length := (List.getElem?_eq_some_iff.mp hi).1
  have nw : ∀ j, ¬ OwnAt (env.set i none) σ j a := fun j ⟨m', d', h1, h2, h3⟩ => by
    by_cases hj : j = i
    · subst hj
      rw [List.getElem?_set_self hie] at h1; cases h1
    · rw [List.getElem?_set_ne (Ne.symm hj)] at h1
      exact hj (s.inj j i a ⟨m', d', h1, h2, h3⟩ ⟨m, _, hi, hm, e2⟩)
  obtain ⟨F', E, s2, r2⟩ := freeze (e := ⟨.own, .lst ds⟩) (v := .ref a) s' ⟨a, vs, ds, rfl, rfl, h, rl, nF, nO, nw⟩
  have hl : i < σ.length := by rw [s.len]; exact hie
  have s3 := StOk.set (e := ⟨.shr, .lst ds⟩) (v := .ref a) (i := i) s2 r2 hl
  have e3 : σ.set i (some (.ref a)) = σ := by
    apply List.ext_getElem?
    intro j
    by_cases hj : j = i
    · subst hj; rw [List.getElem?_set_self hl, e2]
    · rw [List.getElem?_set_ne (Ne.symm hj)]
  rw [e3, List.set_set] at s3
  exact ⟨.ref a, F', e2, E, s3, r2⟩
end
end DL
/-! DLK: tuples that are known to their objects. -/
namespace DL
open PySem PySem.Spec PyProof.Rows L2
section
variable {X : Cx} {pins : List (Addr × Obj)} {σ : L2.St} {H : Hp} {s : Shared}
/-- a new tuple at any free place -/
abbrev NewT (xs : List V) (H : Hp) (Q : VK) : Prop := ∀ (p : Addr) (o : Obj), o.dict = none → H p = none → Q (.ref p) (upd H p (.frz o (.tup xs)))
theorem lay_tup {us : List Value} {xs : List V} {Q : VK} (I : Inv X pins σ H s) (r : Vals xs us) (z : xs.length ≤ sizeLine) (q : NewT xs H Q) :
    EP X pins σ Q (.ref s.heap.objs.size) { s with heap := s.heap.push { cls := .type "tuple", data := .seq us.toArray } } :=
  ⟨.ref s.heap.objs.size, upd H s.heap.objs.size (.frz { cls := .type "tuple", data := .seq us.toArray } (.tup xs)),
    I.laid (t' := s.toks) (o := .frz { cls := .type "tuple", data := .seq us.toArray } (.tup xs)) (fun b u e => Heap.get?_push_of_some _ e) (Nat.le_refl _)
      ⟨Heap.get?_push_size _ rfl, z, us, r, IsTup.new _ _⟩, rfl, q _ _ rfl (I.hok.fresh (Nat.le_refl _))⟩
def tTupL (t : TA) : TE := fun σ H Q => t σ H fun xs H1 => xs.length ≤ sizeLine ∧ NewT xs H1 Q
theorem pe_tupL {es : List Expr} {t : TA} {x1} {pos : Pos} (h : PA X es t) : PE X (.Tuple es x1 pos) (tTupL t) := by
  refine ⟨fun pins s σ H Q I hq => ?_⟩
  exact wpAny_Tuple_spliced (thn (h.run pos pins s σ H _ I hq) fun us s1 ⟨xs, H1, I1, r, z, q⟩ => ⟨by rw [← r.length]; exact z, lay_tup I1 r z q⟩)
def rTupOfL (K : PySem.W.Frag) : List V → Hp → VK → Prop := fun xs H Q => ∃ p ys, xs = [.ref p] ∧ ((SqL K H p ys ∧ NewT ys H Q) ∨ (SqT K H p ys ∧ Q (.ref p) H))
theorem call_tuple_ofL : CallR X (.type "tuple") (rTupOfL X.K) := by
  intro pins s σ H xs us Q I r h
  obtain ⟨p, ys, rfl, h⟩ := h
  obtain ⟨u, rfl, rx⟩ := vals1 r
  cases rx
  rcases h with ⟨hq, q⟩ | ⟨hq, q⟩
  · obtain ⟨its, r', pl, hz⟩ := I.list hq
    have hlen := r'.length
    refine call_tuple_list pl.isList (fun h' kp => ?_) (by simp only [List.size_toArray] <;> omega)
    have I1 : Inv X pins σ H { s with heap := h' } := I.kept (t' := s.toks) kp
    exact lay_tup I1 r' hz q
  · obtain ⟨its, r', pl, hz⟩ := I.tuple hq
    exact call_tuple_same pl ⟨.ref p, H, I, rfl, q⟩
def rCatL (K : PySem.W.Frag) : R2 := fun x y H Q => ∃ a b xs ys, x = .ref a ∧ y = .ref b ∧ SqT K H a xs ∧ SqT K H b ys ∧ xs.length + ys.length ≤ sizeLine ∧
  (xs = [] → Q (.ref b) H) ∧ (xs ≠ [] → ys = [] → Q (.ref a) H) ∧ (xs ≠ [] → ys ≠ [] → NewT (xs ++ ys) H Q)
theorem op_catL : OpR X (binaryOp .Add) (rCatL X.K) := by
  intro pins s σ H x y v u Q I rx ry h
  obtain ⟨a, b, xs, ys, rfl, rfl, ha, hb, hz, q0, q1, q2⟩ := h
  cases rx
  cases ry
  obtain ⟨its, r1, p1, _⟩ := I.tuple ha
  obtain ⟨its2, r2, p2, _⟩ := I.tuple hb
  by_cases hx : xs = []
  · subst hx
    cases r1
    exact cat_tup0 p1 p2 ⟨.ref b, H, I, rfl, q0 rfl⟩
  · refine HT.cat_tup p1 p2 (fun z => hx (r1.nil_iff.mp z)) (fun z => ⟨.ref a, H, I, rfl, q1 hx (r2.nil_iff.mp z)⟩) (fun z => ?_) (by rw [← r1.length, ← r2.length]; exact hz)
    exact lay_tup I (r1.append r2) (by rw [List.length_append]; exact hz) (q2 hx fun w => z (r2.nil_iff.mpr w))
def rSlTL (K : PySem.W.Frag) : V → Option Int → Option Int → Hp → VK → Prop := fun x lo hi H Q => ∃ a xs, x = .ref a ∧ SqT K H a xs ∧
  (HT.sIx xs.length 0 lo = 0 ∧ HT.sIx xs.length xs.length hi = xs.length → Q (.ref a) H) ∧ (¬ (HT.sIx xs.length 0 lo = 0 ∧ HT.sIx xs.length xs.length hi = xs.length) → NewT (cutV xs lo hi) H Q)
theorem sl_tupL : SlR X (rSlTL X.K) := by
  intro pins s σ H x v vl vu lo hi sl Q I rx hs pl pu h
  obtain ⟨a, xs, rfl, hx, q1, q2⟩ := h
  cases rx
  obtain ⟨its, r, ht, hz⟩ := I.tuple hx
  have hlen : its.toArray.size = xs.length := by rw [List.size_toArray]; exact r.length.symm
  refine ⟨"tuple", _, PyProof.Rows.slot_tuple_getitem.lookup, ht.typeIs, ?_⟩
  by_cases hw : HT.sIx xs.length 0 lo = 0 ∧ HT.sIx xs.length xs.length hi = xs.length
  · exact getItem_tuple_whole ht hs pl pu (by rw [hlen]; exact hw) ⟨.ref a, H, I, rfl, q1 hw⟩
  · refine HT.getItem_tuple_cut ht hs pl pu (by rw [hlen]; exact hw) ?_ (by rw [hlen]; exact hz)
    rw [hlen]
    exact lay_tup I ((r.drop (HT.sIx xs.length 0 lo)).take (HT.sIx xs.length xs.length hi - HT.sIx xs.length 0 lo)) (Nat.le_trans (cutV_length xs lo hi) hz) (q2 hw)
end

/-! ### t * k -/
section
theorem tuple_mulOne (l : Addr) (items : Array Value) (n : Nat) (sl : Array (Option Value)) (dd : Option Addr) (u : Tok) :
    Meets (Builtin.«tuple.__mul__» ⟨[.ref l, .int 1 u], []⟩) (fun _ R s => s.heap.get? l = some { cls := .type "tuple", dict := dd, data := .seq items n, slots := sl } ∧ R (.ok (.ret (Value.ref l))) s) :=
  .of_wp fun prog w A R s h => by
    obtain ⟨hp, g, d, tk, os⟩ := s
    obtain ⟨hl, h⟩ := h
    have f1 := AutoSeq1.idx_int
    have c0 : (decide ((1 : Int) < -(2 ^ 63)) || decide ((1 : Int) ≥ 2 ^ 63)) = false := by decide
    have c1 : (items.isEmpty || (1 : Int) == 1) = true := by rw [Bool.or_eq_true]; right; decide
    wp_walk using wpAny_loadPart' hl
    repeat (first
      | (refine wpAny_ite_false (decide_eq_false (by rw [c0]; exact Bool.false_ne_true)) ?_; wp_walk using wpAny_loadPart' hl)
      | (refine wpAny_ite_true (decide_eq_true (by exact c1)) ?_; wp_walk using wpAny_loadPart' hl))
    exact ⟨_, rfl, h⟩
theorem tuple_mulNone (l : Addr) (items : Array Value) (n : Nat) (sl : Array (Option Value)) (dd : Option Addr) (x : Int) (u : Tok) (c0 : (decide (x < -(2 ^ 63)) || decide (x ≥ 2 ^ 63)) = false) (c1 : (items.isEmpty || x == 1) = false) (c2 : (decide (x ≤ 0) || items.isEmpty) = true) :
    Meets (Builtin.«tuple.__mul__» ⟨[.ref l, .int x u], []⟩) (fun _ R s => s.heap.get? l = some { cls := .type "tuple", dict := dd, data := .seq items n, slots := sl } ∧
      R (.ok (.ret (Value.ref s.heap.objs.size))) { s with heap := s.heap.push { cls := Value.type "tuple", data := Data.seq #[] }, toks := s.toks }) :=
  .of_wp fun prog w A R s h => by
    obtain ⟨hp, g, d, tk, os⟩ := s
    obtain ⟨hl, h⟩ := h
    have f1 := AutoSeq1.idx_int
    wp_walk using wpAny_loadPart' hl
    repeat (first
      | (refine wpAny_ite_false (decide_eq_false (by rw [c0]; exact Bool.false_ne_true)) ?_; wp_walk using wpAny_loadPart' hl)
      | (refine wpAny_ite_false (decide_eq_false (by rw [c1]; exact Bool.false_ne_true)) ?_; wp_walk using wpAny_loadPart' hl)
      | (refine wpAny_ite_true (decide_eq_true (by exact c2)) ?_; wp_walk using wpAny_loadPart' hl))
    exact ⟨_, rfl, h⟩
variable {X : Cx}
def rRepL (K : PySem.W.Frag) : R2 := fun x y H Q => ∃ l k xs, x = .ref l ∧ y = .int k ∧ SqT K H l xs ∧ xs ≠ [] ∧ 0 ≤ k ∧ k ≤ 1000 ∧ xs.length ≤ 1000 ∧ (k = 1 → Q (.ref l) H) ∧ (k ≠ 1 → NewT (List.replicate k.toNat xs).flatten H Q)
theorem op_repL : OpR X (binaryOp .Mult) (rRepL X.K) := by
  intro pins s σ H x y v u Q I rx ry h
  obtain ⟨l, k, xs, rfl, rfl, hT, hne, h1, h2, hz, qa, q⟩ := h
  cases rx
  obtain ⟨t, rfl⟩ := ry
  obtain ⟨its, r, ⟨⟨cls, dd, data, sl⟩, ho, hc, n, hd⟩, hs⟩ := I.tuple hT
  simp only at hc hd
  subst hc hd
  have hle : its.length = xs.length := r.length.symm
  have hn : its ≠ [] := fun e => hne (by
    rw [e] at hle
    exact List.eq_nil_of_length_eq_zero hle.symm)
  have hi : its.toArray.isEmpty = false := by
    cases its with
    | nil => exact absurd rfl hn
    | cons a b => rfl
  have hsz0 : its.toArray.size = xs.length := by rw [List.size_toArray, hle]
  have hm : ((its.toArray.size : Nat) : Int) * k ≤ 1000000 := by
    rw [hsz0]
    have a1 : ((xs.length : Nat) : Int) * k ≤ 1000 * k := Int.mul_le_mul_of_nonneg_right (by omega) (by omega)
    omega
  have flen : (List.replicate k.toNat its).flatten.length ≤ sizeLine := by
    rw [PyProof.Rows.lm_len_rep_flat, hle, sizeLine_eq]
    have a1 : k.toNat * xs.length ≤ 1000 * 1000 := Nat.mul_le_mul (by omega) hz
    omega
  have flen2 : (List.replicate k.toNat xs).flatten.length ≤ sizeLine := by
    rw [PyProof.Rows.lm_len_rep_flat, sizeLine_eq]
    have a1 : k.toNat * xs.length ≤ 1000 * 1000 := Nat.mul_le_mul (by omega) hz
    omega
  have c0 : (decide (k < -(2 ^ 63)) || decide (k ≥ 2 ^ 63)) = false := by
    rw [decide_eq_false (by omega), decide_eq_false (by omega)] <;> rfl
  refine wpAny_binaryOp_repeat_ref (T := "tuple") (U := "int") (by decide) ⟨_, ho, rfl⟩ (fun s' => typeIs_int s' k t) noFill_tuple_mul F.fills_int_mul F.slot_int_rmul repeat_tuple F.slot_int_index.lookup
    (call_meets F.slot_int_rmul (typeIs_int s k t) F.entry_int_rmul (F.args_int_rmul_2 _ _) (int_rmul_tuple k t l its.toArray n dd sl)
      ⟨ho, rfl, ⟨_, ho, rfl⟩, ?_⟩)
  by_cases hk1 : k = 1
  · subst hk1
    exact call_meets F.slot_tuple_mul ⟨_, ho, rfl⟩ F.entry_tuple_mul (F.args_tuple_mul_2 _ _) (tuple_mulOne l its.toArray n sl dd t) ⟨ho, .ref l, H, I, rfl, qa rfl⟩
  · have c1 : (its.toArray.isEmpty || k == 1) = false := by
      rw [hi, Bool.false_or]
      exact beq_eq_false_iff_ne.mpr hk1
    by_cases hk0 : k = 0
    · subst hk0
      refine call_meets F.slot_tuple_mul ⟨_, ho, rfl⟩ F.entry_tuple_mul (F.args_tuple_mul_2 _ _) (tuple_mulNone l its.toArray n sl dd 0 t c0 c1 (by rw [hi]; decide)) ⟨ho, ?_⟩
      exact lay_tup (us := []) (xs := []) I .nil (by show 0 ≤ sizeLine; exact Nat.zero_le _) (q hk1)
    · have c2 : (decide (k ≤ 0) || its.toArray.isEmpty) = false := by
        rw [hi, Bool.or_false]
        exact decide_eq_false (by omega)
      have c4 : Builtin.Tuple.tupleTooMany (((its.toArray.size : Nat) : Int) * k) = false := by
        unfold Builtin.Tuple.tupleTooMany
        rw [sizeLine_eq]
        exact decide_eq_false (by omega)
      refine call_meets F.slot_tuple_mul ⟨_, ho, rfl⟩ F.entry_tuple_mul (F.args_tuple_mul_2 _ _) (tuple_mulW l its.toArray n dd sl k t c0 c1 c2 (by omega) c4 (by rw [size_rep, List.size_toArray]; exact flen)) ⟨ho, ?_⟩
      rw [size_rep]
      exact lay_tup I (r.rep k.toNat) flen2 (q hk1)
end
end DL
/-! DL1: what an expression, a test, a statement is worth over plain data (D), and the tie to the layer's readings. -/
namespace DL
open PySem PySem.Spec PyProof.Rows L2

structure Xc where
  c : Str
  fs : List D
inductive R (α : Type) where
  | ok (a : α) (e : DEnv) | err (x : Xc) (e : DEnv) | bad
def R.bind {α β : Type} (r : R α) (f : α → DEnv → R β) : R β := match r with
  | .ok a e => f a e
  | .err x e => .err x e
  | .bad => .bad
abbrev DE := DEnv → R Ent
abbrev DT := DEnv → R Bool
inductive Fl where
  | nx | brk | cnt | ret (e : Ent)
abbrev DS := DEnv → R Fl

/-- how the raised error stands -/
def ExcRep (mg : Str → Option Value) (F : Fz) (H : Hp) (x : Xc) (cls : Value) (d : Option Addr) : Prop :=
  ∃ C, mg x.c = some (.ref C) ∧ cls = .ref C ∧ x.fs = [] ∧ d = none

section
variable (X : Cx) (W : WX)
/-- what must hold behind, by what the data say -/
def EGoal (O F : Fz) (σ : L2.St) (H : Hp) (Q : VK) : R Ent → Prop
  | .ok r env' => ∀ F' H' v, Ext O F H F' H' → StOk X.K O F' H' σ env' → REnt X.K O F' H' σ env' r v → Q v H'
  | .err x env' => ∀ F' H' cls d, Ext O F H F' H' → StOk X.K O F' H' σ env' → ExcRep X.mg F' H' x cls d → W cls d σ H'
  | .bad => False
def ESem (t : TE) (m : DE) : Prop := ∀ O F σ H env Q, StOk X.K O F H σ env → EGoal X W O F σ H Q (m env) → t σ H Q
def TGoal (O F : Fz) (σ : L2.St) (H : Hp) (Q : Bool → Hp → Prop) : R Bool → Prop
  | .ok b env' => ∀ F' H', Ext O F H F' H' → StOk X.K O F' H' σ env' → Q b H'
  | .err x env' => ∀ F' H' cls d, Ext O F H F' H' → StOk X.K O F' H' σ env' → ExcRep X.mg F' H' x cls d → W cls d σ H'
  | .bad => False
def TSem (t : TT) (m : DT) : Prop := ∀ O F σ H env Q, StOk X.K O F H σ env → TGoal X W O F σ H Q (m env) → t σ H Q
abbrev Bs := Nat → Bool
/-- the names that stay what they are -/
def Keeps (B : Bs) (σ σ' : L2.St) : Prop := σ'.length = σ.length ∧ ∀ i, B i = true → σ'[i]? = σ[i]?
def SGoal (B : Bs) (O F : Fz) (σ : L2.St) (H : Hp) (Dn : Ends) : R Fl → Prop
  | .ok .nx env' => ∀ F' H' σ', Ext O F H F' H' → StOk X.K O F' H' σ' env' → Keeps B σ σ' → Dn.nx σ' H'
  | .ok .brk env' => ∀ F' H' σ', Ext O F H F' H' → StOk X.K O F' H' σ' env' → Keeps B σ σ' → Dn.bk σ' H'
  | .ok .cnt env' => ∀ F' H' σ', Ext O F H F' H' → StOk X.K O F' H' σ' env' → Keeps B σ σ' → Dn.ct σ' H'
  | .ok (.ret e) env' => ∀ F' H' σ' v, Ext O F H F' H' → StOk X.K O F' H' σ' env' → Keeps B σ σ' → REnt X.K O F' H' σ' env' e v → Dn.rt v H'
  | .err x env' => ∀ F' H' σ' cls d, Ext O F H F' H' → StOk X.K O F' H' σ' env' → Keeps B σ σ' → ExcRep X.mg F' H' x cls d → W cls d σ' H'
  | .bad => False
def SSem (B : Bs) (t : TS) (m : DS) : Prop := ∀ O F σ H env Dn, StOk X.K O F H σ env → SGoal X W B O F σ H Dn (m env) → t Dn σ H

def DEv (e : Expr) (m : DE) : Prop := ∃ t, PE X e t ∧ ESem X W t m
def DTst (e : Expr) (m : DT) : Prop := ∃ t, PT X e t ∧ TSem X W t m
def DTw (e : Expr) (m : DT) : Prop := ∃ t, PW X e t ∧ TSem X W t m
def DSt (B : Bs) (st : Stmt) (m : DS) : Prop := ∃ t, PS X st t ∧ SSem X W B t m
def DSs (B : Bs) (sts : List Stmt) (m : DS) : Prop := ∃ t, PSs X sts t ∧ SSem X W B t m
end

section
variable {X : Cx} {W : WX} {O F F1 : Fz} {σ σ1 : L2.St} {H H1 : Hp} {B : Bs}
theorem EGoal.step {Q : VK} (e : Ext O F H F1 H1) : ∀ {r : R Ent}, EGoal X W O F σ H Q r → EGoal X W O F1 σ H1 Q r
  | .ok _ _, h => fun F' H' v e' s r => h F' H' v (e.trans e') s r
  | .err _ _, h => fun F' H' c d e' s r => h F' H' c d (e.trans e') s r
  | .bad, h => h
theorem TGoal.step {Q : Bool → Hp → Prop} (e : Ext O F H F1 H1) : ∀ {r : R Bool}, TGoal X W O F σ H Q r → TGoal X W O F1 σ H1 Q r
  | .ok _ _, h => fun F' H' e' s => h F' H' (e.trans e') s
  | .err _ _, h => fun F' H' c d e' s r => h F' H' c d (e.trans e') s r
  | .bad, h => h
theorem Keeps.refl : Keeps B σ σ := ⟨rfl, fun _ _ => rfl⟩
theorem Keeps.trans {σ2 : L2.St} (a : Keeps B σ σ1) (b : Keeps B σ1 σ2) : Keeps B σ σ2 := ⟨b.1.trans a.1, fun i h => (b.2 i h).trans (a.2 i h)⟩
theorem SGoal.step {Dn : Ends} (e : Ext O F H F1 H1) (k : Keeps B σ σ1) : ∀ {r : R Fl}, SGoal X W B O F σ H Dn r → SGoal X W B O F1 σ1 H1 Dn r
  | .ok .nx _, h => fun F' H' σ' e' s k' => h F' H' σ' (e.trans e') s (k.trans k')
  | .ok .brk _, h => fun F' H' σ' e' s k' => h F' H' σ' (e.trans e') s (k.trans k')
  | .ok .cnt _, h => fun F' H' σ' e' s k' => h F' H' σ' (e.trans e') s (k.trans k')
  | .ok (.ret _) _, h => fun F' H' σ' v e' s k' r => h F' H' σ' v (e.trans e') s (k.trans k') r
  | .err _ _, h => fun F' H' σ' c d e' s k' r => h F' H' σ' c d (e.trans e') s (k.trans k') r
  | .bad, h => h
end

/-! ### names and constants -/
def dC (d : D) : DE := fun env => .ok ⟨.shr, d⟩ env
/-- a name's value, handed on: what it owned is still from now on -/
def dVar (i : Nat) : DE := fun env => match env[i]? with
  | some (some e) => .ok ⟨.shr, e.d⟩ (env.set i (some ⟨.shr, e.d⟩))
  | _ => .bad
section
variable {X : Cx} {W : WX}
theorem set_self {env : DEnv} {i : Nat} {e : Ent} (h : env[i]? = some (some e)) : env.set i (some e) = env := by
  apply List.ext_getElem?
  intro j
  by_cases hj : j = i
  · subst hj
    rw [List.getElem?_set_self (List.getElem?_eq_some_iff.mp h).1, h]
  · rw [List.getElem?_set_ne (Ne.symm hj)]
theorem sem_c {d : D} {v : V} (h : ∀ K F H, Rep K F H d v) : ESem X W (tC v) (dC d) := fun O F σ H env Q s g => g F H v Ext.refl s (h _ _ _)
theorem e_int {i : Int} {j pos} : DEv X W (.Constant (.int i) j pos) (dC (.int i)) := ⟨_, pe_int, sem_c fun _ _ _ => rfl⟩
theorem e_bl {b : Bool} {j pos} : DEv X W (.Constant (.bool b) j pos) (dC (.bl b)) := ⟨_, pe_bl, sem_c fun _ _ _ => rfl⟩
theorem e_non {j pos} : DEv X W (.Constant .none j pos) (dC .non) := ⟨_, pe_non, sem_c fun _ _ _ => rfl⟩
theorem e_str {x j pos} : DEv X W (.Constant (.str x) j pos) (dC (.str x)) := ⟨_, pe_str, sem_c fun _ _ _ => rfl⟩
theorem sem_var {i : Nat} : ESem X W (tVar i) (dVar i) := fun O F σ H env Q s g => by
  unfold dVar at g
  cases q : env[i]? with
  | none => rw [q] at g; exact g.elim
  | some o =>
    cases o with
    | none => rw [q] at g; exact g.elim
    | some e =>
      rw [q] at g
      obtain ⟨m, d⟩ := e
      by_cases hm : m = Md.shr
      · subst hm
        obtain ⟨v, h1, h2⟩ := s.shr i d q
        refine ⟨v, h1, g F H v Ext.refl ?_ h2⟩
        rw [set_self q]
        exact s
      · obtain ⟨v, F', h1, E, s', r⟩ := s.still q hm
        exact ⟨v, h1, g F' H v E s' r⟩
theorem e_var (i : Nat) {x : Str} {pos : Pos} (hN : X.N[i]? = some x := by rfl) (hv : Vis X.env.scope x := by first | exact Or.inl rfl | exact Or.inr (Or.inl rfl) | exact Or.inr (Or.inr rfl)) (hd : (x == ("__debug__" : Str)) = false := by decide)
    (hcd : (x == ("__classdict__" : Str)) = false := by decide) : DEv X W (.Name x pos) (dVar i) := ⟨_, pe_var hN hv hd hcd, sem_var⟩
/-- a module's constant -/
theorem e_gint {x : Str} {i : Int} {t : Tok} {pos : Pos} (hg : Gl X x) (hm : X.mg x = some (.int i t)) (hd : (x == ("__debug__" : Str)) = false := by decide) : DEv X W (.Name x pos) (dC (.int i)) := ⟨_, pe_glob (v := .int i) hg hm ⟨_, rfl⟩ hd, sem_c fun _ _ _ => rfl⟩
end

/-! ### operands -/
inductive Opd where
  /-- a value, reckoned -/
  | v (m : DE)
  /-- the list that a name holds, read where the operation is done -/
  | s (i : Nat)
inductive AV where
  | d (x : D) | s (i : Nat)
def evOs : List Opd → DEnv → R (List AV)
  | [], env => .ok [] env
  | .v m :: os, env => (m env).bind fun r env1 => (evOs os env1).bind fun avs env2 => .ok (.d r.d :: avs) env2
  | .s i :: os, env => match env[i]? with
    | some (some _) => (evOs os env).bind fun avs env2 => .ok (.s i :: avs) env2
    | _ => .bad
@[simp] def getAV (env : DEnv) : AV → Option D
  | .d x => some x
  | .s i => match env[i]? with
    | some (some e) => some e.d
    | _ => none
@[simp] def getAVs (env : DEnv) : List AV → Option (List D)
  | [] => some []
  | a :: as => match getAV env a, getAVs env as with
    | some d, some ds => some (d :: ds)
    | _, _ => none
def AVs (K : PySem.W.Frag) (F : Fz) (H : Hp) (σ : L2.St) : List AV → List V → Prop
  | [], vs => vs = []
  | .d x :: as, vs => ∃ v r, vs = v :: r ∧ Rep K F H x v ∧ AVs K F H σ as r
  | .s i :: as, vs => ∃ v r, vs = v :: r ∧ σ[i]? = some (some v) ∧ AVs K F H σ as r
theorem AVs.ext {K : PySem.W.Frag} {O F F' : Fz} {H H' : Hp} {σ : L2.St} (e : Ext O F H F' H') : ∀ {as : List AV} {vs : List V}, AVs K F H σ as vs → AVs K F' H' σ as vs
  | [], _, h => h
  | .d x :: as, vs, ⟨v, r, e1, h1, h2⟩ => ⟨v, r, e1, Rep.ext e x v h1, AVs.ext e h2⟩
  | .s i :: as, vs, ⟨v, r, e1, h1, h2⟩ => ⟨v, r, e1, h1, AVs.ext e h2⟩
/-- read at the state behind -/
def RepTs (K : PySem.W.Frag) (F : Fz) (H : Hp) : List D → List V → Prop
  | [], vs => vs = []
  | d :: ds, vs => ∃ v r, vs = v :: r ∧ RepT K F H d v ∧ RepTs K F H ds r
theorem StOk.top {K : PySem.W.Frag} {O F : Fz} {H : Hp} {σ : L2.St} {env : DEnv} {i : Nat} {e : Ent} (s : StOk K O F H σ env) (h : env[i]? = some (some e)) : ∃ v, σ[i]? = some (some v) ∧ RepT K F H e.d v := by
  obtain ⟨m, d⟩ := e
  by_cases hm : m = Md.shr
  · subst hm
    obtain ⟨v, h1, h2⟩ := s.shr i d h
    exact ⟨v, h1, h2.top⟩
  · obtain ⟨a, vs, ds, rfl, h1, h2, h3, _⟩ := s.own i m d h hm
    exact ⟨.ref a, h1, a, vs, rfl, h2, h3⟩
theorem AVs.tops {K : PySem.W.Frag} {O F : Fz} {H : Hp} {σ : L2.St} {env : DEnv} (s : StOk K O F H σ env) : ∀ {as : List AV} {vs : List V} {ds : List D}, AVs K F H σ as vs → getAVs env as = some ds → RepTs K F H ds vs
  | [], _, _, h, g => by cases g; exact h
  | .d x :: as, vs, ds, ⟨v, r, e1, h1, h2⟩, g => by
    simp only [getAVs, getAV] at g
    cases q : getAVs env as with
    | none => rw [q] at g; cases g
    | some es =>
      rw [q] at g; cases g
      exact ⟨v, r, e1, h1.top, AVs.tops s h2 q⟩
  | .s i :: as, vs, ds, ⟨v, r, e1, h1, h2⟩, g => by
    simp only [getAVs, getAV] at g
    cases q1 : env[i]? with
    | none => rw [q1] at g; cases g
    | some o =>
      cases o with
      | none => rw [q1] at g; cases g
      | some e =>
        rw [q1] at g
        cases q : getAVs env as with
        | none => rw [q] at g; cases g
        | some es =>
          rw [q] at g; cases g
          obtain ⟨v', z1, z2⟩ := s.top q1
          rw [h1] at z1; cases z1
          exact ⟨v, r, e1, z2, AVs.tops s h2 q⟩

section
variable (X : Cx) (W : WX)
def AGoal (O F : Fz) (σ : L2.St) (H : Hp) (Q : List V → Hp → Prop) : R (List AV) → Prop
  | .ok avs env' => ∀ F' H' vs, Ext O F H F' H' → StOk X.K O F' H' σ env' → AVs X.K F' H' σ avs vs → Q vs H'
  | .err x env' => ∀ F' H' cls d, Ext O F H F' H' → StOk X.K O F' H' σ env' → ExcRep X.mg F' H' x cls d → W cls d σ H'
  | .bad => False
def ASem (t : TA) (os : List Opd) : Prop := ∀ O F σ H env Q, StOk X.K O F H σ env → AGoal X W O F σ H Q (evOs os env) → t σ H Q
/-- one operand -/
def OSem (t : TE) : Opd → Prop
  | .v m => ESem X W t m
  | .s i => t = tVar i
def DOp (e : Expr) (o : Opd) : Prop := ∃ t, PE X e t ∧ OSem X W t o
def DAs (es : List Expr) (os : List Opd) : Prop := ∃ t, PA X es t ∧ ASem X W t os
end
section
variable {X : Cx} {W : WX}
theorem o_v {e : Expr} {m : DE} (h : DEv X W e m) : DOp X W e (.v m) := h
theorem o_s (i : Nat) {x : Str} {pos : Pos} (hN : X.N[i]? = some x := by rfl) (hv : Vis X.env.scope x := by first | exact Or.inl rfl | exact Or.inr (Or.inl rfl) | exact Or.inr (Or.inr rfl)) (hd : (x == ("__debug__" : Str)) = false := by decide)
    (hcd : (x == ("__classdict__" : Str)) = false := by decide) : DOp X W (.Name x pos) (.s i) := ⟨_, pe_var hN hv hd hcd, rfl⟩
theorem AGoal.step {O F F1 : Fz} {σ : L2.St} {H H1 : Hp} {Q : List V → Hp → Prop} (e : Ext O F H F1 H1) : ∀ {r : R (List AV)}, AGoal X W O F σ H Q r → AGoal X W O F1 σ H1 Q r
  | .ok _ _, h => fun F' H' vs e' s r => h F' H' vs (e.trans e') s r
  | .err _ _, h => fun F' H' c d e' s r => h F' H' c d (e.trans e') s r
  | .bad, h => h
theorem asem_nil : ASem X W tNil [] := fun O F σ H env Q s g => g F H [] Ext.refl s rfl
theorem asem_cons {te : TE} {t : TA} {o : Opd} {os : List Opd} (ho : OSem X W te o) (ht : ASem X W t os) : ASem X W (tCons te t) (o :: os) := fun O F σ H env Q s g => by
  cases o with
  | v m =>
    refine ho O F σ H env _ s ?_
    unfold evOs at g
    cases q : m env with
    | bad => rw [q] at g; exact g.elim
    | err x e =>
      rw [q] at g
      exact fun F' H' c d e' s' r => g F' H' c d e' s' r
    | ok r env1 =>
      rw [q] at g
      intro F1 H1 v E1 s1 r1
      obtain ⟨F2, E2, s2, r2⟩ := freeze s1 r1
      refine ht O F2 σ H1 env1 _ s2 ?_
      simp only [R.bind] at g
      cases q2 : evOs os env1 with
      | bad => rw [q2] at g; exact g.elim
      | err x e =>
        rw [q2] at g
        exact fun F' H' c d e' s' r => g F' H' c d ((E1.trans E2).trans e') s' r
      | ok avs env2 =>
        rw [q2] at g
        intro F3 H3 vs E3 s3 r3
        exact g F3 H3 (v :: vs) ((E1.trans E2).trans E3) s3 ⟨v, vs, rfl, Rep.ext E3 r.d v r2, r3⟩
  | s i =>
    obtain rfl : te = tVar i := ho
    unfold evOs at g
    show ∃ v, σ[i]? = some (some v) ∧ t σ H fun xs H2 => Q (v :: xs) H2
    cases q : env[i]? with
    | none => rw [q] at g; exact g.elim
    | some oe =>
      cases oe with
      | none => rw [q] at g; exact g.elim
      | some e =>
        rw [q] at g
        obtain ⟨v, hv, _⟩ := s.top q
        refine ⟨v, hv, ht O F σ H env _ s ?_⟩
        cases q2 : evOs os env with
        | bad => rw [q2] at g; exact g.elim
        | err x e =>
          rw [q2] at g
          exact fun F' H' c d e' s' r => g F' H' c d e' s' r
        | ok avs env2 =>
          rw [q2] at g
          intro F3 H3 vs E3 s3 r3
          exact g F3 H3 (v :: vs) E3 s3 ⟨v, vs, rfl, hv, r3⟩
end
end DL
/-! DL2: operations on data, displays, comparisons, tests. -/
namespace DL
open PySem PySem.Spec PyProof.Rows L2

section
variable {X : Cx} {W : WX}
theorem a_nil : DAs X W [] [] := ⟨_, pa_nil, asem_nil⟩
theorem a_cons {e : Expr} {es : List Expr} {o : Opd} {os : List Opd} (ho : DOp X W e o) (ht : DAs X W es os)
    (hs : starEach (e :: es) X.env = (false, eval e X.env) :: starEach es X.env := by rfl) : DAs X W (e :: es) (o :: os) := by
  obtain ⟨te, he, se⟩ := ho
  obtain ⟨t, h, s⟩ := ht
  exact ⟨_, pa_cons he h hs, asem_cons se s⟩
end

/-! ### operations -/
/-- what an operation gives: a value of the data, or a new list -/
inductive PR where
  | d (x : D) | nl (xs : List D)
def PR.ent : PR → Ent
  | .d x => ⟨.shr, x⟩
  | .nl xs => ⟨.own, .lst xs⟩
def PRep (K : PySem.W.Frag) (F : Fz) (H H' : Hp) : PR → V → Prop
  | .d x, v => Rep K F H' x v
  | .nl xs, v => ∃ p vs, v = .ref p ∧ H p = none ∧ H' p = some (.lst vs) ∧ RepL K F H' xs vs
abbrev Pr := List D → Option PR
def dPrim (p : Pr) (os : List Opd) : DE := fun env => (evOs os env).bind fun avs env1 => match (getAVs env1 avs).bind p with
  | some r => .ok r.ent env1
  | none => .bad
abbrev Rl := List V → Hp → VK → Prop
/-- the rule r of the values gives what p says of the data -/
def PrimR (K : PySem.W.Frag) (p : Pr) (r : Rl) : Prop := ∀ (F : Fz) (H : Hp) (ds : List D) (vs : List V) (Q : VK) (pr : PR), (∀ a, F a → H a ≠ none) → RepTs K F H ds vs → p ds = some pr →
  (∀ H' v, Same H H' → PRep K F H H' pr v → Q v H') → r vs H Q
section
variable {X : Cx} {W : WX}
theorem prep_ent {K : PySem.W.Frag} {O F : Fz} {H H' : Hp} {σ : L2.St} {env : DEnv} {pr : PR} {v : V} (s : StOk K O F H σ env) (h : PRep K F H H' pr v) : REnt K O F H' σ env pr.ent v := by
  cases pr with
  | d x => exact h
  | nl xs =>
    obtain ⟨p, vs, e, hn, h1, h2⟩ := h
    refine ⟨p, vs, xs, rfl, e, h1, h2, fun f => s.fdom p f hn, fun f => s.odom p f hn, fun i ⟨m, d, q1, q2, q3⟩ => ?_⟩
    obtain ⟨a, ws, _, _, e2, e3, _⟩ := s.own i m d q1 q2
    rw [q3] at e2; cases e2
    rw [hn] at e3; cases e3
theorem sem_prim {ta : TA} {os : List Opd} {p : Pr} {r : Rl} (ha : ASem X W ta os) (hp : PrimR X.K p r) : ESem X W (fun σ H Q => ta σ H fun vs H1 => r vs H1 Q) (dPrim p os) := fun O F σ H env Q s g => by
  refine ha O F σ H env _ s ?_
  unfold dPrim at g
  cases q : evOs os env with
  | bad => rw [q] at g; exact g.elim
  | err x e =>
    rw [q] at g
    exact g
  | ok avs env1 =>
    rw [q] at g
    simp only [R.bind] at g
    intro F1 H1 vs E1 s1 r1
    cases q2 : getAVs env1 avs with
    | none => rw [q2] at g; exact g.elim
    | some ds =>
      rw [q2] at g
      simp only [Option.bind] at g
      cases q3 : p ds with
      | none => rw [q3] at g; exact g.elim
      | some pr =>
        rw [q3] at g
        refine hp F1 H1 ds vs Q pr s1.fdom (AVs.tops s1 r1 q2) q3 fun H' v sm pv => ?_
        exact g F1 H' v (E1.trans (Ext.same sm s1.odom)) (s1.same sm) (prep_ent s1 pv)
def two (r : R2) : Rl := fun vs H Q => match vs with
  | [x, y] => r x y H Q
  | _ => False
def one (r : V → Hp → VK → Prop) : Rl := fun vs H Q => match vs with
  | [x] => r x H Q
  | _ => False
theorem asem1 {ta : TE} {oa : Opd} (ha : OSem X W ta oa) : ASem X W (tCons ta tNil) [oa] := asem_cons ha asem_nil
theorem asem2 {ta tb : TE} {oa ob : Opd} (ha : OSem X W ta oa) (hb : OSem X W tb ob) : ASem X W (tCons ta (tCons tb tNil)) [oa, ob] := asem_cons ha (asem_cons hb asem_nil)
theorem e_op {op : Operator} {r : R2} {p : Pr} {a b : Expr} {oa ob : Opd} {pos : Pos} (ho : OpR X (binaryOp op) r) (hp : PrimR X.K p (two r)) (ha : DOp X W a oa) (hb : DOp X W b ob) : DEv X W (.BinOp a op b pos) (dPrim p [oa, ob]) := by
  obtain ⟨ta, h1, s1⟩ := ha
  obtain ⟨tb, h2, s2⟩ := hb
  exact ⟨_, pe_op ho h1 h2, sem_prim (asem2 s1 s2) hp⟩
theorem e_un {op : UnaryOp} {r : V → Hp → VK → Prop} {p : Pr} {a : Expr} {oa : Opd} {pos : Pos} (ho : UnR X (unaryOp op) r) (hp : PrimR X.K p (one r)) (ha : DOp X W a oa) : DEv X W (.UnaryOp op a pos) (dPrim p [oa]) := by
  obtain ⟨ta, h1, s1⟩ := ha
  exact ⟨_, pe_un ho h1, sem_prim (asem1 s1) hp⟩
theorem e_cmp {op : CmpOp} {r : R2} {p : Pr} {a b : Expr} {oa ob : Opd} {pos : Pos} (ho : OpR X (compareOp op) r) (hp : PrimR X.K p (two r)) (ha : DOp X W a oa) (hb : DOp X W b ob) (hm : behindInMarks op b = false) : DEv X W (.Compare a [op] [b] pos) (dPrim p [oa, ob]) := by
  obtain ⟨ta, h1, s1⟩ := ha
  obtain ⟨tb, h2, s2⟩ := hb
  exact ⟨_, pe_cmpR ho h1 h2 hm, sem_prim (asem2 s1 s2) hp⟩
theorem e_ix {r : R2} {p : Pr} {a b : Expr} {oa ob : Opd} {pos : Pos} (ho : IxR X r) (hp : PrimR X.K p (two r)) (ha : DOp X W a oa) (hb : DOp X W b ob) (hs : PlainIx b) : DEv X W (.Subscript a b pos) (dPrim p [oa, ob]) := by
  obtain ⟨ta, h1, s1⟩ := ha
  obtain ⟨tb, h2, s2⟩ := hb
  exact ⟨_, pe_ix ho h1 h2 hs, sem_prim (asem2 s1 s2) hp⟩
theorem e_callB {x : Str} {id : String} {r : Rl} {p : Pr} {e : Expr} {es : List Expr} {os : List Opd} {p1 pos : Pos} (hc : CallR X (.builtin id) r) (hp : PrimR X.K p r) (hg : Gl X x) (hm : X.mg x = none) (hv : bootBuiltins x = some (.builtin id)) (ha : DAs X W (e :: es) os)
    (hn : x ≠ "__name__" := by decide) (hdb : (x == ("__debug__" : Str)) = false := by decide)
    (he : starEach (e :: es) X.env = (false, eval e X.env) :: starEach es X.env := by rfl) (hpl : (backTo pos (starEach es X.env)).any (·.1) = false := by rfl) : DEv X W (.Call (.Name x p1) (e :: es) [] pos) (dPrim p os) := by
  obtain ⟨t, h, s⟩ := ha
  exact ⟨_, pe_callB hc hg hm hv h hn hdb he hpl, sem_prim s hp⟩
theorem e_callTy {x : Str} {T : String} {r : Rl} {p : Pr} {e : Expr} {es : List Expr} {os : List Opd} {p1 pos : Pos} (hc : CallR X (.type T) r) (hp : PrimR X.K p r) (hg : Gl X x) (hm : X.mg x = none) (hv : bootBuiltins x = some (.type T)) (ha : DAs X W (e :: es) os)
    (hn : x ≠ "__name__" := by decide) (hdb : (x == ("__debug__" : Str)) = false := by decide)
    (he : starEach (e :: es) X.env = (false, eval e X.env) :: starEach es X.env := by rfl) (hpl : (backTo pos (starEach es X.env)).any (·.1) = false := by rfl) : DEv X W (.Call (.Name x p1) (e :: es) [] pos) (dPrim p os) := by
  obtain ⟨t, h, s⟩ := ha
  exact ⟨_, pe_callTy hc hg hm hv h hn hdb he hpl, sem_prim s hp⟩
end

/-! ### displays -/
def pTup : Pr := fun ds => if ds.length ≤ sizeLine then some (.d (.tup ds)) else none
def pLst : Pr := fun ds => if ds.length ≤ sizeLine then some (.nl ds) else none
/-- operands that are all values (a name that owns its list is handed on still) -/
def allV : List Opd → Bool
  | [] => true
  | .v _ :: os => allV os
  | .s _ :: _ => false
theorem same_new {H : Hp} {p : Addr} {o : HO} (h : H p = none) : Same H (upd H p o) := fun b x e => by
  rw [upd_ne (ne_of_none e h)]
  exact e
theorem repL_same {K : PySem.W.Frag} {F : Fz} {H H' : Hp} (e : Same H H') {ds : List D} {vs : List V} (h : RepL K F H ds vs) : RepL K F H' ds vs := RepL.ext (Ext.same (O := fun _ => False) e fun _ z => z.elim) ds vs h
theorem rep_same {K : PySem.W.Frag} {F : Fz} {H H' : Hp} (e : Same H H') {d : D} {v : V} (h : Rep K F H d v) : Rep K F H' d v := Rep.ext (Ext.same (O := fun _ => False) e fun _ z => z.elim) d v h
section
variable {X : Cx} {W : WX}
theorem AVs.vals {K : PySem.W.Frag} {F : Fz} {H : Hp} {σ : L2.St} {env : DEnv} : ∀ {os : List Opd} {avs : List AV} {env0 : DEnv} {vs : List V} {ds : List D}, allV os = true → evOs os env0 = .ok avs env → AVs K F H σ avs vs → getAVs env avs = some ds → RepL K F H ds vs := by
  have key : ∀ {os : List Opd} {avs : List AV} {env0 env1 : DEnv}, allV os = true → evOs os env0 = .ok avs env1 → ∃ xs : List D, avs = xs.map AV.d := by
    intro os
    induction os with
    | nil => intro avs env0 env1 _ h; cases h; exact ⟨[], rfl⟩
    | cons o os ih =>
      intro avs env0 env1 ha h
      cases o with
      | s i => cases ha
      | v m =>
        unfold evOs at h
        cases q : m env0 with
        | bad => rw [q] at h; cases h
        | err x e => rw [q] at h; cases h
        | ok r e1 =>
          rw [q] at h
          simp only [R.bind] at h
          cases q2 : evOs os e1 with
          | bad => rw [q2] at h; cases h
          | err x e => rw [q2] at h; cases h
          | ok as e2 =>
            rw [q2] at h
            cases h
            obtain ⟨xs, rfl⟩ := ih ha q2
            exact ⟨r.d :: xs, rfl⟩
  intro os avs env0 vs ds ha h hv hg
  obtain ⟨xs, rfl⟩ := key ha h
  clear h ha
  induction xs generalizing vs ds with
  | nil => cases hg; exact hv
  | cons x xs ih =>
    obtain ⟨v, r, rfl, h1, h2⟩ := hv
    simp only [List.map_cons, getAVs, getAV] at hg
    cases q : getAVs env (xs.map AV.d) with
    | none => rw [q] at hg; cases hg
    | some es =>
      rw [q] at hg; cases hg
      exact RepL.cons h1 (ih h2 q)
theorem sem_disp {ta : TA} {os : List Opd} {p : Pr} {r : Rl} (ha : ASem X W ta os) (hv : allV os = true)
    (hp : ∀ (F : Fz) (H : Hp) (ds : List D) (vs : List V) (Q : VK) (pr : PR), RepL X.K F H ds vs → p ds = some pr → (∀ H' v, Same H H' → PRep X.K F H H' pr v → Q v H') → r vs H Q) :
    ESem X W (fun σ H Q => ta σ H fun vs H1 => r vs H1 Q) (dPrim p os) := fun O F σ H env Q s g => by
  refine ha O F σ H env _ s ?_
  unfold dPrim at g
  cases q : evOs os env with
  | bad => rw [q] at g; exact g.elim
  | err x e => rw [q] at g; exact g
  | ok avs env1 =>
    rw [q] at g
    simp only [R.bind] at g
    intro F1 H1 vs E1 s1 r1
    cases q2 : getAVs env1 avs with
    | none => rw [q2] at g; exact g.elim
    | some ds =>
      rw [q2] at g
      simp only [Option.bind] at g
      cases q3 : p ds with
      | none => rw [q3] at g; exact g.elim
      | some pr =>
        rw [q3] at g
        refine hp F1 H1 ds vs Q pr (AVs.vals hv q r1 q2) q3 fun H' v sm pv => ?_
        exact g F1 H' v (E1.trans (Ext.same sm s1.odom)) (s1.same sm) (prep_ent s1 pv)
theorem e_tup {es : List Expr} {os : List Opd} {x1} {pos : Pos} (ha : DAs X W es os) (hv : allV os = true := by rfl) : DEv X W (.Tuple es x1 pos) (dPrim pTup os) := by
  obtain ⟨t, h, s⟩ := ha
  refine ⟨_, pe_tupL h, sem_disp s hv fun F H ds vs Q pr r e q => ?_⟩
  unfold pTup at e
  split at e
  · rename_i hl
    cases e
    refine ⟨by rw [r.length]; exact hl, fun p o hd hp => q _ _ (same_new hp) ?_⟩
    exact ⟨p, vs, rfl, ⟨o, hd, upd_same⟩, repL_same (same_new hp) r⟩
  · cases e
theorem e_lst {es : List Expr} {os : List Opd} {pos : Pos} (ha : DAs X W es os) (hv : allV os = true := by rfl) : DEv X W (.List es pos) (dPrim pLst os) := by
  obtain ⟨t, h, s⟩ := ha
  refine ⟨_, pe_lst h, sem_disp s hv fun F H ds vs Q pr r e q => ?_⟩
  unfold pLst at e
  split at e
  · rename_i hl
    cases e
    refine ⟨by rw [r.length]; exact hl, fun p hp => q _ _ (same_new hp) ?_⟩
    exact ⟨p, vs, rfl, hp, upd_same, repL_same (same_new hp) r⟩
  · cases e
end

/-! ### tests -/
section
variable {X : Cx} {W : WX}
/-- a value that is True or False, as a test -/
def dTst (m : DE) : DT := fun env => (m env).bind fun r env1 => match r with
  | ⟨.shr, .bl b⟩ => .ok b env1
  | _ => .bad
theorem sem_tst {t : TE} {m : DE} (h : ESem X W t m) {tt : TT} (ht : ∀ σ H Q, (t σ H fun x H1 => ∃ c, x = .bl c ∧ Q c H1) → tt σ H Q) : TSem X W tt (dTst m) := fun O F σ H env Q s g => by
  refine ht σ H Q (h O F σ H env _ s ?_)
  unfold dTst at g
  cases q : m env with
  | bad => rw [q] at g; exact g.elim
  | err x e => rw [q] at g; exact g
  | ok r env1 =>
    rw [q] at g
    simp only [R.bind] at g
    intro F1 H1 v E1 s1 r1
    obtain ⟨md, d⟩ := r
    cases md with
    | shr =>
      cases d with
      | bl b => exact ⟨b, r1, g F1 H1 E1 s1⟩
      | _ => exact g.elim
    | _ => exact g.elim
theorem t_val {e : Expr} {m : DE} (h : DEv X W e m) (he : ∀ whole, isTrue e X.env whole = (do let v ← whole; standAt e.pos; holding [v] (truthy v)) := by intro _; rfl) : DTst X W e (dTst m) := by
  obtain ⟨t, h1, s⟩ := h
  exact ⟨_, pt_val h1 he, sem_tst s fun σ H Q q => q⟩
theorem t_cmp {op : CmpOp} {r : R2} {p : Pr} {a b : Expr} {oa ob : Opd} {pos : Pos} (ho : OpR X (compareOp op) r) (hp : PrimR X.K p (two r)) (ha : DOp X W a oa) (hb : DOp X W b ob) (hm : behindInMarks op b = false) : DTst X W (.Compare a [op] [b] pos) (dTst (dPrim p [oa, ob])) := by
  obtain ⟨ta, h1, s1⟩ := ha
  obtain ⟨tb, h2, s2⟩ := hb
  exact ⟨_, pt_cmpR ho h1 h2 hm, sem_tst (sem_prim (asem2 s1 s2) hp) fun σ H Q q => q⟩
def dAnd (a b : DT) : DT := fun env => (a env).bind fun c env1 => if c = true then b env1 else .ok false env1
def dOr (a b : DT) : DT := fun env => (a env).bind fun c env1 => if c = true then .ok true env1 else b env1
def dNot (a : DT) : DT := fun env => (a env).bind fun c env1 => .ok (!c) env1
theorem sem_and {t u : TT} {a b : DT} (ha : TSem X W t a) (hb : TSem X W u b) : TSem X W (tAnd t u) (dAnd a b) := fun O F σ H env Q s g => by
  refine ha O F σ H env _ s ?_
  unfold dAnd at g
  cases q : a env with
  | bad => rw [q] at g; exact g.elim
  | err x e => rw [q] at g; exact g
  | ok c env1 =>
    rw [q] at g
    simp only [R.bind] at g
    intro F1 H1 E1 s1
    cases c with
    | true => exact hb O F1 σ H1 env1 Q s1 (TGoal.step E1 g)
    | false => exact g F1 H1 E1 s1
theorem sem_or {t u : TT} {a b : DT} (ha : TSem X W t a) (hb : TSem X W u b) : TSem X W (tOr t u) (dOr a b) := fun O F σ H env Q s g => by
  refine ha O F σ H env _ s ?_
  unfold dOr at g
  cases q : a env with
  | bad => rw [q] at g; exact g.elim
  | err x e => rw [q] at g; exact g
  | ok c env1 =>
    rw [q] at g
    simp only [R.bind] at g
    intro F1 H1 E1 s1
    cases c with
    | true => exact g F1 H1 E1 s1
    | false => exact hb O F1 σ H1 env1 Q s1 (TGoal.step E1 g)
theorem sem_not {t : TT} {a : DT} (ha : TSem X W t a) : TSem X W (tNot t) (dNot a) := fun O F σ H env Q s g => by
  refine ha O F σ H env _ s ?_
  unfold dNot at g
  cases q : a env with
  | bad => rw [q] at g; exact g.elim
  | err x e => rw [q] at g; exact g
  | ok c env1 =>
    rw [q] at g
    exact fun F1 H1 E1 s1 => g F1 H1 E1 s1
theorem w_and1 {a : Expr} {m : DT} {pos : Pos} (h : DTst X W a m) : DTw X W (.BoolOp .And [a] pos) m := let ⟨t, h1, s⟩ := h; ⟨t, pw_and1 h1, s⟩
theorem w_or1 {a : Expr} {m : DT} {pos : Pos} (h : DTst X W a m) : DTw X W (.BoolOp .Or [a] pos) m := let ⟨t, h1, s⟩ := h; ⟨t, pw_or1 h1, s⟩
theorem w_and {a b : Expr} {rest : List Expr} {m n : DT} {pos : Pos} (h : DTst X W a m) (k : DTw X W (.BoolOp .And (b :: rest) pos) n) : DTw X W (.BoolOp .And (a :: b :: rest) pos) (dAnd m n) := let ⟨_, h1, s⟩ := h; let ⟨_, h2, s2⟩ := k; ⟨_, pw_and h1 h2, sem_and s s2⟩
theorem w_or {a b : Expr} {rest : List Expr} {m n : DT} {pos : Pos} (h : DTst X W a m) (k : DTw X W (.BoolOp .Or (b :: rest) pos) n) : DTw X W (.BoolOp .Or (a :: b :: rest) pos) (dOr m n) := let ⟨_, h1, s⟩ := h; let ⟨_, h2, s2⟩ := k; ⟨_, pw_or h1 h2, sem_or s s2⟩
theorem t_w {e : Expr} {m : DT} (h : DTw X W e m) : DTst X W e m := let ⟨t, h1, s⟩ := h; ⟨t, h1.pt, s⟩
theorem t_not {a : Expr} {m : DT} {pos : Pos} (h : DTst X W a m) : DTst X W (.UnaryOp .Not a pos) (dNot m) := let ⟨_, h1, s⟩ := h; ⟨_, pt_not h1, sem_not s⟩
/-! values: and, or, not, if else -/
/-- a test's answer as a value -/
def dB (m : DT) : DE := fun env => (m env).bind fun b env1 => .ok ⟨.shr, .bl b⟩ env1
def dAndV (a : DT) (b : DE) : DE := fun env => (a env).bind fun c env1 => if c = true then b env1 else .ok ⟨.shr, .bl false⟩ env1
def dOrV (a : DT) (b : DE) : DE := fun env => (a env).bind fun c env1 => if c = true then .ok ⟨.shr, .bl true⟩ env1 else b env1
def dIf (c : DT) (a b : DE) : DE := fun env => (c env).bind fun k env1 => if k = true then a env1 else b env1
theorem sem_andV {t u : TE} {a b : DE} (ha : ESem X W t a) (hb : ESem X W u b) : ESem X W (tAndV t u) (dAndV (dTst a) b) := fun O F σ H env Q s g => by
  refine sem_tst (tt := fun σ H Q' => t σ H fun x H1 => ∃ c, x = .bl c ∧ Q' c H1) ha (fun σ H Q q => q) O F σ H env (fun c H1 => if c = true then u σ H1 Q else Q (.bl false) H1) s ?_
  unfold dAndV at g
  cases q : dTst a env with
  | bad => rw [q] at g; exact g.elim
  | err x e => rw [q] at g; exact g
  | ok c env1 =>
    rw [q] at g
    simp only [R.bind] at g
    intro F1 H1 E1 s1
    cases c with
    | true => exact hb O F1 σ H1 env1 Q s1 (EGoal.step E1 g)
    | false => exact g F1 H1 _ E1 s1 rfl
theorem sem_orV {t u : TE} {a b : DE} (ha : ESem X W t a) (hb : ESem X W u b) : ESem X W (tOrV t u) (dOrV (dTst a) b) := fun O F σ H env Q s g => by
  refine sem_tst (tt := fun σ H Q' => t σ H fun x H1 => ∃ c, x = .bl c ∧ Q' c H1) ha (fun σ H Q q => q) O F σ H env (fun c H1 => if c = true then Q (.bl true) H1 else u σ H1 Q) s ?_
  unfold dOrV at g
  cases q : dTst a env with
  | bad => rw [q] at g; exact g.elim
  | err x e => rw [q] at g; exact g
  | ok c env1 =>
    rw [q] at g
    simp only [R.bind] at g
    intro F1 H1 E1 s1
    cases c with
    | true => exact g F1 H1 _ E1 s1 rfl
    | false => exact hb O F1 σ H1 env1 Q s1 (EGoal.step E1 g)
theorem sem_notV {t : TE} {a : DE} (ha : ESem X W t a) : ESem X W (tNotV t) (dB (dNot (dTst a))) := fun O F σ H env Q s g => by
  refine sem_tst (tt := fun σ H Q' => t σ H fun x H1 => ∃ c, x = .bl c ∧ Q' c H1) ha (fun σ H Q q => q) O F σ H env (fun c H1 => Q (.bl (!c)) H1) s ?_
  unfold dB dNot at g
  cases q : dTst a env with
  | bad => rw [q] at g; exact g.elim
  | err x e => rw [q] at g; exact g
  | ok c env1 =>
    rw [q] at g
    exact fun F1 H1 E1 s1 => g F1 H1 _ E1 s1 rfl
theorem e_one {op} {a : Expr} {m : DE} {pos : Pos} (h : DEv X W a m) : DEv X W (.BoolOp op [a] pos) m := let ⟨_, h1, s⟩ := h; ⟨_, pe_one h1, s⟩
theorem e_and {a b : Expr} {rest : List Expr} {m n : DE} {pos : Pos} (h : DEv X W a m) (k : DEv X W (.BoolOp .And (b :: rest) pos) n) : DEv X W (.BoolOp .And (a :: b :: rest) pos) (dAndV (dTst m) n) := let ⟨_, h1, s⟩ := h; let ⟨_, h2, s2⟩ := k; ⟨_, pe_and h1 h2, sem_andV s s2⟩
theorem e_or {a b : Expr} {rest : List Expr} {m n : DE} {pos : Pos} (h : DEv X W a m) (k : DEv X W (.BoolOp .Or (b :: rest) pos) n) : DEv X W (.BoolOp .Or (a :: b :: rest) pos) (dOrV (dTst m) n) := let ⟨_, h1, s⟩ := h; let ⟨_, h2, s2⟩ := k; ⟨_, pe_or h1 h2, sem_orV s s2⟩
theorem e_not {a : Expr} {m : DE} {pos : Pos} (h : DEv X W a m) : DEv X W (.UnaryOp .Not a pos) (dB (dNot (dTst m))) := let ⟨_, h1, s⟩ := h; ⟨_, pe_not h1, sem_notV s⟩
theorem e_if {c a b : Expr} {mc : DT} {ma mb : DE} {pos : Pos} (hc : DTst X W c mc) (ha : DEv X W a ma) (hb : DEv X W b mb) : DEv X W (.IfExp c a b pos) (dIf mc ma mb) := by
  obtain ⟨tc, h1, s1⟩ := hc
  obtain ⟨ta, h2, s2⟩ := ha
  obtain ⟨tb, h3, s3⟩ := hb
  refine ⟨_, pe_ifExp h1 h2 h3, fun O F σ H env Q s g => ?_⟩
  refine s1 O F σ H env _ s ?_
  unfold dIf at g
  cases q : mc env with
  | bad => rw [q] at g; exact g.elim
  | err x e => rw [q] at g; exact g
  | ok c env1 =>
    rw [q] at g
    simp only [R.bind] at g
    intro F1 H1 E1 s1'
    cases c with
    | true => exact s2 O F1 σ H1 env1 Q s1' (EGoal.step E1 g)
    | false => exact s3 O F1 σ H1 env1 Q s1' (EGoal.step E1 g)
/-- a op1 b op2 c -/
def dChain (p p' : Pr) (oa ob oc : Opd) : DE := fun env => (evOs [oa, ob] env).bind fun avs env1 => match avs, (getAVs env1 avs).bind p with
  | [_, .d y], some (.d (.bl k)) => if k = true then dPrim p' [.v (dC y), oc] env1 else .ok ⟨.shr, .bl false⟩ env1
  | _, _ => .bad
theorem sem_chain {r r' : R2} {p p' : Pr} {ta tb tc : TE} {oa ob oc : Opd} (h1 : PrimR X.K p (two r)) (h2 : PrimR X.K p' (two r')) (ha : OSem X W ta oa) (hb : OSem X W tb ob) (hc : OSem X W tc oc) : ESem X W (tChain r r' ta tb tc) (dChain p p' oa ob oc) := fun O F σ H env Q s g => by
  have main := asem2 ha hb O F σ H env (fun vs H2 => match vs with
    | [x, y] => r x y H2 fun z H3 => ∃ k, z = .bl k ∧ (if k = true then tc σ H3 fun w' H4 => r' y w' H4 Q else Q (.bl false) H3)
    | _ => False) s
  refine main ?_
  clear main
  unfold dChain at g
  cases q : evOs [oa, ob] env with
  | bad => rw [q] at g; exact g.elim
  | err x e => rw [q] at g; exact g
  | ok avs env1 =>
    rw [q] at g
    simp only [R.bind] at g
    intro F1 H1 vs E1 s1 r1
    split at g
    · rename_i _ _ a1 y k heq2
      obtain ⟨v1, rest, rfl, r1'⟩ : ∃ v1 rest, vs = v1 :: rest ∧ ∃ v2, rest = [v2] ∧ Rep X.K F1 H1 y v2 := by
        cases a1 with
        | d x => obtain ⟨v, r, e1, _, v2, r2, e2, h3, h4⟩ := r1; exact ⟨v, r, e1, v2, by rw [e2, show r2 = [] from h4], h3⟩
        | s i => obtain ⟨v, r, e1, _, v2, r2, e2, h3, h4⟩ := r1; exact ⟨v, r, e1, v2, by rw [e2, show r2 = [] from h4], h3⟩
      obtain ⟨v2, rfl, ry⟩ := r1'
      cases q2 : getAVs env1 [a1, .d y] with
      | none => rw [q2] at heq2; cases heq2
      | some ds =>
        rw [q2] at heq2
        refine h1 F1 H1 ds [v1, v2] _ _ s1.fdom (AVs.tops s1 r1 q2) heq2 fun H' v sm pv => ?_
        refine ⟨k, pv, ?_⟩
        have s2 : StOk X.K O F1 H' σ env1 := s1.same sm
        have E2 : Ext O F H F1 H' := E1.trans (Ext.same sm s1.odom)
        have ry' : Rep X.K F1 H' y v2 := rep_same sm ry
        cases k with
        | false => exact iteF (g F1 H' _ E2 s2 rfl)
        | true =>
          refine iteT ?_
          have m2 := asem1 hc O F1 σ H' env1 (fun vs H4 => match vs with
            | [w'] => r' v2 w' H4 Q
            | _ => False) s2
          refine m2 ?_
          clear m2
          simp only [if_true] at g
          unfold dPrim at g
          simp only [evOs, dC, R.bind] at g
          cases q4 : evOs [oc] env1 with
          | bad => rw [q4] at g; exact g.elim
          | err x e => rw [q4] at g; exact fun F' H'' c d e' s' r => g F' H'' c d (E2.trans e') s' r
          | ok avs4 env4 =>
            skip
            rw [q4] at g
            simp only [] at g
            intro F5 H5 vs5 E5 s5 r5
            cases q5 : getAVs env4 avs4 with
            | none => simp only [getAVs, getAV, q5] at g; exact g.elim
            | some ds5 =>
              simp only [getAVs, getAV, q5, Option.bind] at g
              cases q6 : p' (y :: ds5) with
              | none => rw [q6] at g; exact g.elim
              | some pr =>
                rw [q6] at g
                have tops5 := AVs.tops s5 r5 q5
                have full : RepTs X.K F5 H5 (y :: ds5) (v2 :: vs5) := ⟨v2, vs5, rfl, (Rep.ext E5 y v2 ry').top, tops5⟩
                have fin := h2 F5 H5 (y :: ds5) (v2 :: vs5) Q pr s5.fdom full q6 fun H6 v6 sm6 pv6 => g F5 H6 v6 ((E2.trans E5).trans (Ext.same sm6 s5.odom)) (s5.same sm6) (prep_ent s5 pv6)
                match vs5, fin with
                | [w'], fin => exact fin
                | [], fin => exact fin
                | _ :: _ :: _, fin => exact fin
    · exact g.elim
theorem e_chain {op op' : CmpOp} {r r' : R2} {p p' : Pr} {a b c : Expr} {oa ob oc : Opd} {pos : Pos} (ho : OpR X (compareOp op) r) (ho' : OpR X (compareOp op') r') (h1 : PrimR X.K p (two r)) (h2 : PrimR X.K p' (two r')) (ha : DOp X W a oa) (hb : DOp X W b ob) (hc : DOp X W c oc)
    (hm : lastMarks [op, op'] [b, c] = false := by with_unfolding_all rfl) : DEv X W (.Compare a [op, op'] [b, c] pos) (dChain p p' oa ob oc) := by
  obtain ⟨ta, k1, s1⟩ := ha
  obtain ⟨tb, k2, s2⟩ := hb
  obtain ⟨tc, k3, s3⟩ := hc
  exact ⟨_, pe_chain ho ho' k1 k2 k3 hm, sem_chain h1 h2 s1 s2 s3⟩
theorem t_chain {op op' : CmpOp} {r r' : R2} {p p' : Pr} {a b c : Expr} {oa ob oc : Opd} {pos : Pos} (ho : OpR X (compareOp op) r) (ho' : OpR X (compareOp op') r') (h1 : PrimR X.K p (two r)) (h2 : PrimR X.K p' (two r')) (ha : DOp X W a oa) (hb : DOp X W b ob) (hc : DOp X W c oc)
    (hm : lastMarks [op, op'] [b, c] = false := by with_unfolding_all rfl) : DTst X W (.Compare a [op, op'] [b, c] pos) (dTst (dChain p p' oa ob oc)) := by
  obtain ⟨ta, k1, s1⟩ := ha
  obtain ⟨tb, k2, s2⟩ := hb
  obtain ⟨tc, k3, s3⟩ := hc
  exact ⟨_, pt_chain ho ho' k1 k2 k3 hm, sem_tst (sem_chain h1 h2 s1 s2 s3) fun σ H Q q => q⟩
end
end DL
/-! DL3: statements, loops. -/
namespace DL
open PySem PySem.Spec PyProof.Rows L2

def dNext : DS := fun env => .ok .nx env
def dSeq (a b : DS) : DS := fun env => match a env with
  | .ok .nx env1 => b env1
  | r => r
def dDrop (m : DE) : DS := fun env => (m env).bind fun _ env1 => .ok .nx env1
def dRet (m : DE) : DS := fun env => (m env).bind fun r env1 => .ok (.ret r) env1
/-- return x, x a name: what it owns goes along -/
def dRetV (i : Nat) : DS := fun env => match env[i]? with
  | some (some e) => .ok (.ret e) (env.set i none)
  | _ => .bad
def dIfS (c : DT) (a b : DS) : DS := fun env => (c env).bind fun k env1 => if k = true then a env1 else b env1
def dSet (i : Nat) (m : DE) : DS := fun env => (m env).bind fun r env1 => .ok .nx (env1.set i (some r))
def dNever : DS := fun _ => .bad
def dBrk : DS := fun env => .ok .brk env
def dCnt : DS := fun env => .ok .cnt env

section
variable {X : Cx} {W : WX} {B : Bs}
theorem keeps_set {σ : L2.St} {i : Nat} {o : Option V} (h : B i = false) : Keeps B σ (σ.set i o) := ⟨List.length_set, fun j hj => by
  exact List.getElem?_set_ne (fun (e : i = j) => by rw [← e, h] at hj; cases hj)⟩
theorem ss_nil : DSs X W B [] dNext := ⟨_, pss_nil, fun O F σ H env Dn s g => g F H σ Ext.refl s Keeps.refl⟩
theorem sem_seq {t u : TS} {a b : DS} (h1 : SSem X W B t a) (h2 : SSem X W B u b) : SSem X W B (tSeq t u) (dSeq a b) := fun O F σ H env Dn s g => by
  refine h1 O F σ H env { Dn with nx := u Dn } s ?_
  unfold dSeq at g
  cases q : a env with
  | bad => rw [q] at g; exact g.elim
  | err x e => rw [q] at g; exact g
  | ok fl env1 =>
    rw [q] at g
    cases fl with
    | nx => exact fun F1 H1 σ1 E1 s1 k1 => h2 O F1 σ1 H1 env1 Dn s1 (SGoal.step E1 k1 g)
    | brk => exact g
    | cnt => exact g
    | ret e => exact g
theorem ss_cons {st : Stmt} {rest : List Stmt} {a b : DS} (h1 : DSt X W B st a) (h2 : DSs X W B rest b) : DSs X W B (st :: rest) (dSeq a b) := let ⟨_, p, s⟩ := h1; let ⟨_, p2, s2⟩ := h2; ⟨_, pss_cons p p2, sem_seq s s2⟩
theorem ss_one {st : Stmt} {a : DS} (h1 : DSt X W B st a) : DSs X W B [st] a := let ⟨_, p, s⟩ := h1; ⟨_, pss_one p, s⟩
theorem s_pass {pos : Pos} : DSt X W B (.Pass pos) dNext := ⟨_, ps_pass, fun O F σ H env Dn s g => g F H σ Ext.refl s Keeps.refl⟩
theorem s_brk {pos : Pos} : DSt X W B (.Break pos) dBrk := ⟨_, ps_break, fun O F σ H env Dn s g => g F H σ Ext.refl s Keeps.refl⟩
theorem s_cnt {pos : Pos} : DSt X W B (.Continue pos) dCnt := ⟨_, ps_continue, fun O F σ H env Dn s g => g F H σ Ext.refl s Keeps.refl⟩
theorem s_never {st : Stmt} : DSt X W B st dNever := ⟨_, ps_never, fun O F σ H env Dn s g => g.elim⟩
theorem s_doc {x j pos pos'} : DSt X W B (.Expr (.Constant (.str x) j pos) pos') dNext := ⟨_, ps_doc, fun O F σ H env Dn s g => g F H σ Ext.refl s Keeps.refl⟩
theorem s_expr {e : Expr} {m : DE} {pos : Pos} (h : DEv X W e m) (hs : swapsWith e none pos.line X.env = pure false := by rfl) : DSt X W B (.Expr e pos) (dDrop m) := by
  obtain ⟨t, h1, s1⟩ := h
  refine ⟨_, ps_expr h1 hs, fun O F σ H env Dn s g => s1 O F σ H env _ s ?_⟩
  unfold dDrop at g
  cases q : m env with
  | bad => rw [q] at g; exact g.elim
  | err x e => rw [q] at g; exact fun F' H' c d e' s' r => g F' H' σ c d e' s' Keeps.refl r
  | ok r env1 => rw [q] at g; exact fun F1 H1 v E1 s1 r1 => g F1 H1 σ E1 s1 Keeps.refl
theorem s_ret {e : Expr} {m : DE} {pos : Pos} (h : DEv X W e m) : DSt X W B (.Return (some e) pos) (dRet m) := by
  obtain ⟨t, h1, s1⟩ := h
  refine ⟨_, ps_ret h1, fun O F σ H env Dn s g => s1 O F σ H env _ s ?_⟩
  unfold dRet at g
  cases q : m env with
  | bad => rw [q] at g; exact g.elim
  | err x e => rw [q] at g; exact fun F' H' c d e' s' r => g F' H' σ c d e' s' Keeps.refl r
  | ok r env1 => rw [q] at g; exact fun F1 H1 v E1 s1 r1 => g F1 H1 σ v E1 s1 Keeps.refl r1
theorem s_retN {pos : Pos} : DSt X W B (.Return none pos) (dRet (dC .non)) := ⟨_, ps_retN, fun O F σ H env Dn s g => g F H σ .non Ext.refl s Keeps.refl rfl⟩
theorem s_retV (i : Nat) {x : Str} {p pos : Pos} (hN : X.N[i]? = some x := by rfl) (hv : Vis X.env.scope x := by first | exact Or.inl rfl | exact Or.inr (Or.inl rfl) | exact Or.inr (Or.inr rfl)) (hd : (x == ("__debug__" : Str)) = false := by decide)
    (hcd : (x == ("__classdict__" : Str)) = false := by decide) : DSt X W B (.Return (some (.Name x p)) pos) (dRetV i) := by
  refine ⟨_, ps_ret (pe_var hN hv hd hcd), fun O F σ H env Dn s g => ?_⟩
  unfold dRetV at g
  cases q : env[i]? with
  | none => rw [q] at g; exact g.elim
  | some o =>
    cases o with
    | none => rw [q] at g; exact g.elim
    | some e =>
      rw [q] at g
      obtain ⟨m, d⟩ := e
      have hie : i < env.length := (List.getElem?_eq_some_iff.mp q).1
      by_cases hm : m = Md.shr
      · subst hm
        obtain ⟨v, h1, h2⟩ := s.shr i d q
        exact ⟨v, h1, g F H σ v Ext.refl s.drop Keeps.refl h2⟩
      · obtain ⟨a, vs, ds, rfl, e2, h, rl, nF, nO⟩ := s.own i m d q hm
        refine ⟨.ref a, e2, g F H σ (.ref a) Ext.refl s.drop Keeps.refl ?_⟩
        have nw : ∀ j, ¬ OwnAt (env.set i none) σ j a := fun j ⟨m', d', h1, h2, h3⟩ => by
          by_cases hj : j = i
          · subst hj
            rw [List.getElem?_set_self hie] at h1; cases h1
          · rw [List.getElem?_set_ne (Ne.symm hj)] at h1
            exact hj (s.inj j i a ⟨m', d', h1, h2, h3⟩ ⟨m, _, q, hm, e2⟩)
        cases m with
        | shr => exact absurd rfl hm
        | own => exact ⟨a, vs, ds, rfl, rfl, h, rl, nF, nO, nw⟩
        | bor => exact ⟨a, vs, ds, rfl, rfl, h, rl, nF, nO, nw⟩
theorem s_if {c : Expr} {a b : List Stmt} {mc : DT} {ma mb : DS} {pos : Pos} (hc : DTst X W c mc) (ha : DSs X W B a ma) (hb : DSs X W B b mb) : DSt X W B (.If c a b pos) (dIfS mc ma mb) := by
  obtain ⟨tc, h1, s1⟩ := hc
  obtain ⟨ta, h2, s2⟩ := ha
  obtain ⟨tb, h3, s3⟩ := hb
  refine ⟨_, ps_if h1 h2 h3, fun O F σ H env Dn s g => s1 O F σ H env _ s ?_⟩
  unfold dIfS at g
  cases q : mc env with
  | bad => rw [q] at g; exact g.elim
  | err x e => rw [q] at g; exact fun F' H' c d e' s' r => g F' H' σ c d e' s' Keeps.refl r
  | ok c env1 =>
    rw [q] at g
    simp only [R.bind] at g
    intro F1 H1 E1 s1'
    cases c with
    | true => exact s2 O F1 σ H1 env1 Dn s1' (SGoal.step E1 Keeps.refl g)
    | false => exact s3 O F1 σ H1 env1 Dn s1' (SGoal.step E1 Keeps.refl g)
theorem st_len {K : PySem.W.Frag} {O F : Fz} {H : Hp} {σ : L2.St} {env : DEnv} {i : Nat} (s : StOk K O F H σ env) (h : i < env.length) : i < σ.length := by rw [s.len]; exact h
/-- a store beyond the names is nothing -/
theorem set_far {α : Type} {l : List α} {i : Nat} {x : α} (h : ¬ i < l.length) : l.set i x = l := List.set_eq_of_length_le (by omega)
theorem StOk.store {K : PySem.W.Frag} {O F : Fz} {H : Hp} {σ : L2.St} {env : DEnv} {e : Ent} {v : V} {i : Nat} (s : StOk K O F H σ env) (r : REnt K O F H σ env e v) : StOk K O F H (σ.set i (some v)) (env.set i (some e)) := by
  by_cases h : i < σ.length
  · exact s.set r h
  · rw [set_far h, set_far (by rw [← s.len]; exact h)]
    exact s
theorem sem_set {t : TE} {m : DE} {i : Nat} (h : ESem X W t m) (hB : B i = false) : SSem X W B (tAsg t (gName i)) (dSet i m) := fun O F σ H env Dn s g => by
  refine h O F σ H env _ s ?_
  unfold dSet at g
  cases q : m env with
  | bad => rw [q] at g; exact g.elim
  | err x e => rw [q] at g; exact fun F' H' c d e' s' r => g F' H' σ c d e' s' Keeps.refl r
  | ok r env1 =>
    rw [q] at g
    exact fun F1 H1 v E1 s1 r1 => g F1 H1 (σ.set i (some v)) E1 (s1.store r1) (keeps_set hB)
theorem s_set (i : Nat) {x : Str} {e : Expr} {m : DE} {pos' pos : Pos} (hN : X.N.Nodup) (h : DEv X W e m) (hi : X.N[i]? = some x := by rfl) (hx : Loc X.env.scope x := by first | exact Or.inl rfl | exact Or.inr rfl) (hB : B i = false := by rfl)
    (hs : swapsWith e (some (.Name x pos')) pos.line X.env = pure false := by rfl) (hf : X.fn x = true ∨ X.env.scope.names.lookup x = some .local := by first | exact .inl rfl | exact .inr rfl | assumption) : DSt X W B (.Assign [.Name x pos'] e pos) (dSet i m) := by
  obtain ⟨t, h1, s1⟩ := h
  exact ⟨_, ps_set hN hi hx h1 hs hf, sem_set s1 hB⟩

/-! ### while -/
def dWhile (c : DT) (body : DS) : Nat → DS
  | 0, _ => .bad
  | n + 1, env => (c env).bind fun k env1 => if k = true then (match body env1 with
      | .ok .nx env2 => dWhile c body n env2
      | .ok .cnt env2 => dWhile c body n env2
      | .ok .brk env2 => .ok .nx env2
      | r => r) else .ok .nx env1
theorem s_while (n : Nat) {c : Expr} {body : List Stmt} {mc : DT} {mb : DS} {pos : Pos} (hp : PassesOwn (model X.prog X.w) X.A X.env X.xe) (hc : DTst X W c mc) (hb : DSs X W B body mb) : DSt X W B (.While c body [] pos) (dWhile mc mb n) := by
  obtain ⟨tc, h1, s1⟩ := hc
  obtain ⟨tb, h2, s2⟩ := hb
  refine ⟨_, ps_while hp h1 h2, fun O F σ H env Dn s g => ?_⟩
  refine ⟨fun m σ1 H1 => ∃ F1 env1, Ext O F H F1 H1 ∧ StOk X.K O F1 H1 σ1 env1 ∧ Keeps B σ σ1 ∧ SGoal X W B O F1 σ1 H1 Dn (dWhile mc mb m env1), ⟨n, F, env, Ext.refl, s, Keeps.refl, g⟩, ?_⟩
  rintro m σ1 H1 ⟨F1, env1, E1, s1', k1, g1⟩
  cases m with
  | zero => exact g1.elim
  | succ m =>
    refine s1 O F1 σ1 H1 env1 _ s1' ?_
    unfold dWhile at g1
    cases q : mc env1 with
    | bad => rw [q] at g1; exact g1.elim
    | err x e => rw [q] at g1; exact fun F' H' c d e' s' r => g1 F' H' σ1 c d e' s' Keeps.refl r
    | ok k env2 =>
      rw [q] at g1
      simp only [R.bind] at g1
      intro F2 H2 E2 s2'
      cases k with
      | false => exact g1 F2 H2 σ1 E2 s2' Keeps.refl
      | true =>
        refine iteT ⟨fun σ' H' => ∃ F3 env3, Ext O F H F3 H' ∧ StOk X.K O F3 H' σ' env3 ∧ Keeps B σ σ' ∧ SGoal X W B O F3 σ' H' Dn (dWhile mc mb m env3), fun σ' H' z => ⟨m, Nat.lt_succ_self m, z⟩, ?_⟩
        refine s2 O F2 σ1 H2 env2 _ s2' ?_
        simp only [if_true] at g1
        cases q3 : mb env2 with
        | bad => rw [q3] at g1; exact g1.elim
        | err x e => rw [q3] at g1; exact fun F' H' σ' c d e' s' k' r => g1 F' H' σ' c d (E2.trans e') s' k' r
        | ok fl env3 =>
          rw [q3] at g1
          cases fl with
          | nx => exact fun F3 H3 σ3 E3 s3 k3 => ⟨F3, env3, (E1.trans E2).trans E3, s3, k1.trans k3, SGoal.step (E2.trans E3) k3 g1⟩
          | cnt => exact fun F3 H3 σ3 E3 s3 k3 => ⟨F3, env3, (E1.trans E2).trans E3, s3, k1.trans k3, SGoal.step (E2.trans E3) k3 g1⟩
          | brk => exact fun F3 H3 σ3 E3 s3 k3 => g1 F3 H3 σ3 (E2.trans E3) s3 k3
          | ret e => exact fun F3 H3 σ3 v E3 s3 k3 r => g1 F3 H3 σ3 v (E2.trans E3) s3 k3 r

/-! ### targets -/
/-- a target's store of an item -/
abbrev DG := D → DEnv → Option DEnv
def GSem (X : Cx) (B : Bs) (g : TG) (m : DG) : Prop := ∀ O F σ H env (d : D) (v : V) env' Q, StOk X.K O F H σ env → Rep X.K F H d v → m d env = some env' →
  (∀ σ', StOk X.K O F H σ' env' → Keeps B σ σ' → Q σ' H) → g v σ H Q
def GsSem (X : Cx) (B : Bs) (g : TGs) (m : List D → DEnv → Option DEnv) : Prop := ∀ O F σ H env (ds : List D) (vs : List V) env' Q, StOk X.K O F H σ env → RepL X.K F H ds vs → m ds env = some env' →
  (∀ σ', StOk X.K O F H σ' env' → Keeps B σ σ' → Q σ' H) → g vs σ H Q
def DTg (X : Cx) (B : Bs) (tg : Expr) (m : DG) : Prop := ∃ g, PG X tg g ∧ GSem X B g m
def DTgs (X : Cx) (B : Bs) (tgs : List Expr) (m : List D → DEnv → Option DEnv) : Prop := ∃ g, PGs X tgs g ∧ GsSem X B g m
def gSet (i : Nat) : DG := fun d env => some (env.set i (some ⟨.shr, d⟩))
theorem gsem_name {i : Nat} (hB : B i = false) : GSem X B (gName i) (gSet i) := fun O F σ H env d v env' Q s r e k => by
  cases e
  exact k _ (s.store (e := ⟨.shr, d⟩) r) (keeps_set hB)
theorem g_name (i : Nat) {x : Str} {pos : Pos} (hN : X.N.Nodup) (hi : X.N[i]? = some x := by rfl) (hx : Loc X.env.scope x := by first | exact Or.inl rfl | exact Or.inr rfl) (hB : B i = false := by rfl)
    (hf : X.fn x = true ∨ X.env.scope.names.lookup x = some .local := by first | exact .inl rfl | exact .inr rfl | assumption) : DTg X B (.Name x pos) (gSet i) := ⟨_, pg_name hN hi hx hf, gsem_name hB⟩
def gsNil : List D → DEnv → Option DEnv := fun ds env => match ds with
  | [] => some env
  | _ => none
def gsCons (a : DG) (b : List D → DEnv → Option DEnv) : List D → DEnv → Option DEnv := fun ds env => match ds with
  | d :: ds => (a d env).bind (b ds)
  | [] => none
def gTupD (n : Nat) (m : List D → DEnv → Option DEnv) : DG := fun d env => match d with
  | .tup ds => if ds.length = n then m ds env else none
  | .pr x y => if n = 2 then m [x, y] env else none
  | _ => none
theorem gs_nil : DTgs X B [] gsNil := ⟨_, pgs_nil, fun O F σ H env ds vs env' Q s r e k => by
  cases ds with
  | nil => cases e; exact ⟨r, k σ s Keeps.refl⟩
  | cons _ _ => cases e⟩
theorem gs_cons {e : Expr} {es : List Expr} {a : DG} {b : List D → DEnv → Option DEnv} (h1 : DTg X B e a) (h2 : DTgs X B es b)
    (hs : (assignEach (e :: es) X.env).map (·.2) = assign e X.env :: (assignEach es X.env).map (·.2) := by rfl) : DTgs X B (e :: es) (gsCons a b) := by
  obtain ⟨g1, p1, s1⟩ := h1
  obtain ⟨g2, p2, s2⟩ := h2
  refine ⟨_, pgs_cons p1 p2 hs, fun O F σ H env ds vs env' Q s r e k => ?_⟩
  cases ds with
  | nil => cases e
  | cons d ds =>
    obtain ⟨v, r', rfl, h1, h2⟩ := r
    simp only [gsCons] at e
    cases q : a d env with
    | none => rw [q] at e; cases e
    | some env1 =>
      rw [q] at e
      refine ⟨v, r', rfl, s1 O F σ H env d v env1 _ s h1 q fun σ1 st1 k1 => ?_⟩
      exact s2 O F σ1 H env1 ds r' env' Q st1 h2 e fun σ2 st2 k2 => k σ2 st2 (k1.trans k2)
theorem g_tup {es : List Expr} {k : Nat} {pos : Pos} {n : Nat} {m : List D → DEnv → Option DEnv} (hc : X.calm = true) (h : DTgs X B es m)
    (hn : (assignEach es X.env).length = n := by rfl) (hst : (assignEach es X.env).findIdx? (·.1) = none := by rfl) : DTg X B (.Tuple es k pos) (gTupD n m) := by
  obtain ⟨g, p, s⟩ := h
  refine ⟨_, pg_tup hc p hn hst, fun O F σ H env d v env' Q st r e q => ?_⟩
  cases d with
  | tup ds =>
    obtain ⟨a, vs, rfl, ha, rl⟩ := r
    simp only [gTupD] at e
    split at e
    · rename_i hl
      exact ⟨a, vs, rfl, ha.sq, by rw [rl.length]; exact hl, s O F σ H env ds vs env' Q st rl e q⟩
    · cases e
  | pr x y =>
    obtain ⟨a, vx, vy, rfl, ha, r1, r2⟩ := r
    simp only [gTupD] at e
    split at e
    · rename_i hl
      subst hl
      exact ⟨a, [vx, vy], rfl, SqT.of ha, rfl, s O F σ H env [x, y] [vx, vy] env' Q st (RepL.cons r1 (RepL.cons r2 RepL.nil)) e q⟩
    · cases e
  | _ => cases e

/-! ### what is walked -/
/-- the turns give the items xs -/
def Walks (K : PySem.W.Frag) (O F : Fz) (H : Hp) (J : It) (xs : List D) : Prop := ∀ F' H', Ext O F H F' H' → (∀ a, O a → H' a ≠ none) → ∀ i,
  (∀ d, xs[i]? = some d → J.go i H' ∧ ∀ x H'', J.yld i H' x H'' → Same H' H'' ∧ Rep K F' H'' d x) ∧ (xs[i]? = none → J.stop i H')
abbrev DI := DEnv → R (List D)
def ISem (X : Cx) (W : WX) (wi : TI) (m : DI) : Prop := ∀ O F σ H env (R' : It → Hp → Prop), StOk X.K O F H σ env → (match m env with
  | .ok xs env' => ∀ F' H' J, Ext O F H F' H' → StOk X.K O F' H' σ env' → Walks X.K O F' H' J xs → R' J H'
  | .err x env' => ∀ F' H' cls d, Ext O F H F' H' → StOk X.K O F' H' σ env' → ExcRep X.mg F' H' x cls d → W cls d σ H'
  | .bad => False) → wi σ H R'
def DIt (X : Cx) (W : WX) (tg iter : Expr) (m : DI) : Prop := ∃ wi, PI X tg iter wi ∧ ISem X W wi m
def dFor (g : DG) (body : DS) : List D → DS
  | [], env => .ok .nx env
  | x :: xs, env => match g x env with
    | none => .bad
    | some env1 => match body env1 with
      | .ok .nx env2 => dFor g body xs env2
      | .ok .cnt env2 => dFor g body xs env2
      | .ok .brk env2 => .ok .nx env2
      | r => r
def dForI (it : DI) (g : DG) (body : DS) : DS := fun env => (it env).bind fun xs env1 => dFor g body xs env1
theorem s_for {tg iter : Expr} {body : List Stmt} {mi : DI} {g : DG} {mb : DS} {pos : Pos} (hp : PassesOwn (model X.prog X.w) X.A X.env X.xe) (hc : X.calm = true) (hi : DIt X W tg iter mi) (hg : DTg X B tg g) (hb : DSs X W B body mb)
    (hs : ∀ x, foldedSetIterable iter X.env x = pure x := by intro _; rfl) :
    DSt X W B (.For tg iter body [] pos) (dForI mi g mb) := by
  obtain ⟨wi, p1, s1⟩ := hi
  obtain ⟨tgg, p2, s2⟩ := hg
  obtain ⟨tb, p3, s3⟩ := hb
  refine ⟨_, ps_for hp hc p1 p2 p3 hs, fun O F σ H env Dn s g0 => ?_⟩
  refine s1 O F σ H env _ s ?_
  unfold dForI at g0
  cases q : mi env with
  | bad => rw [q] at g0; exact g0.elim
  | err x e => rw [q] at g0; exact fun F' H' c d e' s' r => g0 F' H' σ c d e' s' Keeps.refl r
  | ok xs env1 =>
    rw [q] at g0
    simp only [R.bind] at g0
    intro F1 H1 J E1 st1 wk
    refine ⟨fun i m σ' H' => ∃ F' env', m = xs.length - i ∧ i ≤ xs.length ∧ Ext O F1 H1 F' H' ∧ StOk X.K O F' H' σ' env' ∧ Keeps B σ σ' ∧ SGoal X W B O F' σ' H' Dn (dFor g mb (xs.drop i) env'),
      ⟨xs.length, F1, env1, by simp, Nat.zero_le _, Ext.refl, st1, Keeps.refl, by rw [List.drop_zero]; exact SGoal.step E1 Keeps.refl g0⟩, ?_⟩
    rintro i m σ' H' ⟨F', env', rfl, hi, E', st', k', g'⟩
    obtain ⟨w1, w2⟩ := wk F' H' E' st'.odom i
    cases hx : xs[i]? with
    | none =>
      left
      refine ⟨w2 hx, ?_⟩
      rw [List.drop_eq_nil_of_le (List.getElem?_eq_none_iff.mp hx)] at g'
      exact g' F' H' σ' Ext.refl st' Keeps.refl
    | some d =>
      right
      obtain ⟨go, yl⟩ := w1 d hx
      have hlt : i < xs.length := (List.getElem?_eq_some_iff.mp hx).1
      have hdrop : xs.drop i = d :: xs.drop (i + 1) := by
        rw [List.drop_eq_getElem_cons hlt]
        rw [List.getElem?_eq_getElem hlt] at hx
        rw [Option.some.inj hx]
      rw [hdrop] at g'
      refine ⟨go, fun σ3 H3 => ∃ F3 env3, Ext O F1 H1 F3 H3 ∧ StOk X.K O F3 H3 σ3 env3 ∧ Keeps B σ σ3 ∧ SGoal X W B O F3 σ3 H3 Dn (dFor g mb (xs.drop (i + 1)) env3), ?_, fun x H2 hy => ?_⟩
      · rintro σ3 H3 ⟨F3, env3, E3, st3, k3, g3⟩
        exact ⟨xs.length - (i + 1), by omega, F3, env3, rfl, hlt, E3, st3, k3, g3⟩
      · obtain ⟨sm, rx⟩ := yl x H2 hy
        have E2 : Ext O F' H' F' H2 := Ext.same sm st'.odom
        have st2 := st'.same sm
        unfold dFor at g'
        cases q2 : g d env' with
        | none => rw [q2] at g'; exact g'.elim
        | some env2 =>
          rw [q2] at g'
          simp only [] at g'
          refine s2 O F' σ' H2 env' d x env2 _ st2 rx q2 fun σ4 st4 k4 => ?_
          refine s3 O F' σ4 H2 env2 _ st4 ?_
          cases q3 : mb env2 with
          | bad => rw [q3] at g'; exact g'.elim
          | err y e => rw [q3] at g'; exact fun F5 H5 σ5 c d e5 s5 k5 r => g' F5 H5 σ5 c d (E2.trans e5) s5 (k4.trans k5) r
          | ok fl env5 =>
            rw [q3] at g'
            cases fl with
            | nx => exact fun F5 H5 σ5 E5 s5 k5 => ⟨F5, env5, (E'.trans E2).trans E5, s5, (k'.trans k4).trans k5, SGoal.step (E2.trans E5) (k4.trans k5) g'⟩
            | cnt => exact fun F5 H5 σ5 E5 s5 k5 => ⟨F5, env5, (E'.trans E2).trans E5, s5, (k'.trans k4).trans k5, SGoal.step (E2.trans E5) (k4.trans k5) g'⟩
            | brk => exact fun F5 H5 σ5 E5 s5 k5 => g' F5 H5 σ5 (E2.trans E5) s5 (k4.trans k5)
            | ret e => exact fun F5 H5 σ5 v E5 s5 k5 r => g' F5 H5 σ5 v (E2.trans E5) s5 (k4.trans k5) r
end
end DL
/-! DL4: what is walked, comprehensions, calls of defs. -/
namespace DL
open PySem PySem.Spec PyProof.Rows L2

section
variable {X : Cx} {W : WX} {B : Bs}
/-! ### walks -/
def dSeqOf : D → Option (List D)
  | .lst xs => some xs
  | .tup xs => some xs
  | .fz xs => some xs
  | _ => none
@[simp] theorem seq_lst (xs : List D) : dSeqOf (.lst xs) = some xs := rfl
@[simp] theorem seq_tup (xs : List D) : dSeqOf (.tup xs) = some xs := rfl
@[simp] theorem seq_fz (xs : List D) : dSeqOf (.fz xs) = some xs := rfl
def iSeq (m : DE) : DI := fun env => (m env).bind fun r env1 => match dSeqOf r.d with
  | some xs => .ok xs env1
  | none => .bad
theorem walks_list {K : PySem.W.Frag} {O F : Fz} {H : Hp} {a : Addr} {vs : List V} {xs : List D} (hl : ∀ F' H', Ext O F H F' H' → SqL K H' a vs) (hr : RepL K F H xs vs) : Walks K O F H (Itl K a) xs := fun F' H' E od i => by
  have q := hl F' H' E
  refine ⟨fun d hx => ?_, fun hx => ?_⟩
  · obtain ⟨v, hv, r⟩ := (RepL.ext E xs vs hr).get hx
    refine ⟨⟨vs, v, q, hv⟩, fun x H'' y => ?_⟩
    obtain ⟨e, y⟩ := y
    subst e
    have := y vs q
    rw [hv] at this
    cases this
    exact ⟨Same.refl _, r⟩
  · have h1 := List.getElem?_eq_none_iff.mp hx
    exact ⟨vs, q, by rw [hr.length]; exact h1⟩
theorem walks_tup {K : PySem.W.Frag} {O F : Fz} {H : Hp} {a : Addr} {vs : List V} {xs : List D} (ht : TpL H a vs) (hr : RepL K F H xs vs) : Walks K O F H (Itt K a) xs := fun F' H' E od i => by
  have q : SqT K H' a vs := (tpL_ext E ht).sq
  refine ⟨fun d hx => ?_, fun hx => ?_⟩
  · obtain ⟨v, hv, r⟩ := (RepL.ext E xs vs hr).get hx
    refine ⟨⟨vs, v, q, hv⟩, fun x H'' y => ?_⟩
    obtain ⟨e, y⟩ := y
    subst e
    have := y vs q
    rw [hv] at this
    cases this
    exact ⟨Same.refl _, r⟩
  · have h1 := List.getElem?_eq_none_iff.mp hx
    exact ⟨vs, q, by rw [hr.length]; exact h1⟩
/-- the items' places are known ahead: t gives one value for all wants -/
theorem pi_sq {tg l : Expr} {tl : TE} (hl : PE X l tl) : PI X tg l (fun σ H R => tl σ H fun x H1 => ∃ a, x = .ref a ∧ (((∃ xs, SqL X.K H1 a xs) ∧ R (Itl X.K a) H1) ∨ ((∃ xs, SqT X.K H1 a xs) ∧ R (Itt X.K a) H1))) := by
  refine ⟨fun pins s σ H R I h => ?_⟩
  refine thn (hl.run pins s σ H _ I h) fun u s1 ⟨x, H1, I1, rx, a, ex, q⟩ => ?_
  subst ex
  have ru : u = Value.ref a := rx
  subst ru
  rcases q with ⟨⟨xs, hq⟩, q⟩ | ⟨⟨xs, hq⟩, q⟩
  · obtain ⟨its, rv, p, hz⟩ := I1.list hq
    obtain ⟨o, n, ho, hcl, hdi, hd⟩ := id p
    refine wpAny_pyIter_list p.isList ?_
    have I2 : Inv X pins σ H1 { s1 with heap := s1.heap.push { cls := .type "list_iterator", data := .fields #[.ref a, rawInt 0] } } := I1.kept (t' := s1.toks) fun b ob z => Heap.get?_push_of_some _ z
    refine ⟨s1.heap.objs.size, [s1.heap.objs.size], _, _, H1, rfl, I2, turn_list a s1.heap.objs.size, ⟨_, Heap.get?_push_size _ rfl, rfl, rfl⟩, fun b hb => ?_, q⟩
    have e : b = s1.heap.objs.size := by simpa using hb
    subst e
    exact I1.fpOk (Nat.le_refl _) (I1.hok.fresh (Nat.le_refl _))
  · obtain ⟨its, rv, p, hz⟩ := I1.tuple hq
    refine wpAny_pyIter_tuple p ?_
    have I2 : Inv X pins σ H1 { s1 with heap := s1.heap.push { cls := .type "tuple_iterator", data := .fields #[.ref a, rawInt 0] } } := I1.kept (t' := s1.toks) fun b ob z => Heap.get?_push_of_some _ z
    refine ⟨s1.heap.objs.size, [s1.heap.objs.size], _, _, H1, rfl, I2, turn_tuple a s1.heap.objs.size, ⟨_, Heap.get?_push_size _ rfl, rfl, rfl⟩, fun b hb => ?_, q⟩
    have e : b = s1.heap.objs.size := by simpa using hb
    subst e
    exact I1.fpOk (Nat.le_refl _) (I1.hok.fresh (Nat.le_refl _))
theorem it_seq {tg e : Expr} {m : DE} (h : DEv X W e m) : DIt X W tg e (iSeq m) := by
  obtain ⟨t, p, s⟩ := h
  refine ⟨_, pi_sq p, fun O F σ H env R' st g => ?_⟩
  refine s O F σ H env _ st ?_
  unfold iSeq at g
  cases q : m env with
  | bad => rw [q] at g; exact g.elim
  | err x e => rw [q] at g; exact g
  | ok r env1 =>
    rw [q] at g
    simp only [R.bind] at g
    intro F1 H1 v E1 s1 r1
    obtain ⟨F2, E2, s2, r2⟩ := freeze s1 r1
    obtain ⟨md, d⟩ := r
    cases d with
    | lst xs =>
      obtain ⟨a, vs, rfl, fa, ha, rl⟩ := r2
      have q : SqL X.K H1 a vs := SqL.of ha
      refine ⟨a, rfl, .inl ⟨⟨vs, q⟩, g F2 H1 _ (E1.trans E2) s2 (walks_list (fun F' H' E => SqL.of (E.fz a _ fa ha)) rl)⟩⟩
    | tup xs =>
      obtain ⟨a, vs, rfl, ha, rl⟩ := r2
      exact ⟨a, rfl, .inr ⟨⟨vs, ha.sq⟩, g F2 H1 _ (E1.trans E2) s2 (walks_tup ha rl)⟩⟩
    | fz xs =>
      obtain ⟨a, vs, rfl, ha, rl⟩ := r2
      exact ⟨a, rfl, .inl ⟨⟨vs, ha.sq⟩, g F2 H1 _ (E1.trans E2) s2 (walks_list (fun F' H' E => (sqF_ext E ha).sq) rl)⟩⟩
    | _ => exact g.elim

/-! range -/
def rngD (lo : Int) : Nat → List D
  | 0 => []
  | n + 1 => .int lo :: rngD (lo + 1) n
theorem rngD_get (lo : Int) (n i : Nat) : (rngD lo n)[i]? = if i < n then some (.int (lo + i)) else none := by
  induction n generalizing lo i with
  | zero => simp [rngD]
  | succ n ih =>
    cases i with
    | zero => simp [rngD]
    | succ i =>
      rw [rngD, List.getElem?_cons_succ, ih]
      by_cases h : i < n
      · rw [if_pos h, if_pos (by omega)]
        have : lo + 1 + (i : Int) = lo + ((i + 1 : Nat) : Int) := by omega
        rw [this]
      · rw [if_neg h, if_neg (by omega)]
theorem rngD_len (lo : Int) (n : Nat) : (rngD lo n).length = n := by
  induction n generalizing lo with
  | zero => rfl
  | succ n ih => rw [rngD, List.length_cons, ih]
theorem walks_rng {K : PySem.W.Frag} {O F : Fz} {H : Hp} {lo : Int} {n : Nat} : Walks K O F H (Itr lo n) (rngD lo n) := fun F' H' E od i => by
  rw [rngD_get]
  by_cases h : i < n
  · rw [if_pos h]
    refine ⟨fun d hd => ⟨h, fun x H'' y => ?_⟩, fun z => nomatch z⟩
    obtain ⟨e, e2⟩ := y
    cases hd
    subst e e2
    exact ⟨Same.refl _, rfl⟩
  · rw [if_neg h]
    exact ⟨fun d z => (nomatch z), fun _ => by show n ≤ i; omega⟩
/-- the same by a step -/
def rngC (lo c : Int) : Nat → List D
  | 0 => []
  | n + 1 => .int lo :: rngC (lo + c) c n
theorem rngC_get (lo c : Int) (n i : Nat) : (rngC lo c n)[i]? = if i < n then some (.int (lo + (i : Nat) * c)) else none := by
  induction n generalizing lo i with
  | zero => simp [rngC]
  | succ n ih =>
    cases i with
    | zero => simp [rngC]
    | succ i =>
      rw [rngC, List.getElem?_cons_succ, ih]
      by_cases h : i < n
      · rw [if_pos h, if_pos (by omega)]
        have : lo + c + (i : Int) * c = lo + ((i + 1 : Nat) : Int) * c := by
          have : ((i + 1 : Nat) : Int) = (i : Int) + 1 := by omega
          rw [this, Int.add_mul]
          omega
        rw [this]
      · rw [if_neg h, if_neg (by omega)]
theorem walks_rngC {K : PySem.W.Frag} {O F : Fz} {H : Hp} {lo c : Int} {n : Nat} : Walks K O F H (Itc lo c n) (rngC lo c n) := fun F' H' E od i => by
  rw [rngC_get]
  by_cases h : i < n
  · rw [if_pos h]
    refine ⟨fun d hd => ⟨h, fun x H'' y => ?_⟩, fun z => nomatch z⟩
    obtain ⟨e, e2⟩ := y
    cases hd
    subst e e2
    exact ⟨Same.refl _, rfl⟩
  · rw [if_neg h]
    exact ⟨fun d z => (nomatch z), fun _ => by show n ≤ i; omega⟩
def small62 (i : Int) : Bool := decide (-(2 ^ 62) ≤ i) && decide (i < 2 ^ 62)
theorem small62_of {i : Int} (h : small62 i = true) : -(2 ^ 62) ≤ i ∧ i < 2 ^ 62 := by
  unfold small62 at h
  rw [Bool.and_eq_true] at h
  exact ⟨of_decide_eq_true h.1, of_decide_eq_true h.2⟩
def rng1 (ds : List D) : Option (List D) := match ds with
  | [.int j] => if small62 j = true then some (rngD 0 j.toNat) else none
  | _ => none
def rng2 (ds : List D) : Option (List D) := match ds with
  | [.int i, .int j] => if small62 i = true then (if small62 j = true then some (rngD i (j - i).toNat) else none) else none
  | _ => none
/-- downwards by ones -/
def rng3 (ds : List D) : Option (List D) := match ds with
  | [.int i, .int j, .int c] => if c = -1 then (if small62 i = true then (if small62 j = true then some (rngC i (-1) (i - j).toNat) else none) else none) else none
  | _ => none
def iArgs (p : List D → Option (List D)) (os : List Opd) : DI := fun env => (evOs os env).bind fun avs env1 => match (getAVs env1 avs).bind p with
  | some xs => .ok xs env1
  | none => .bad
/-- from the arguments' reading -/
theorem isem_args {ta : TA} {os : List Opd} {p : List D → Option (List D)} {r : List V → Hp → (It → Hp → Prop) → Prop} (ha : ASem X W ta os)
    (hr : ∀ (O F : Fz) (H : Hp) (ds : List D) (vs : List V) (xs : List D) (R' : It → Hp → Prop), RepTs X.K F H ds vs → p ds = some xs → (∀ J, Walks X.K O F H J xs → R' J H) → r vs H R') :
    ISem X W (fun σ H R' => ta σ H fun vs H1 => r vs H1 R') (iArgs p os) := fun O F σ H env R' st g => by
  refine ha O F σ H env _ st ?_
  unfold iArgs at g
  cases q : evOs os env with
  | bad => rw [q] at g; exact g.elim
  | err x e => rw [q] at g; exact g
  | ok avs env1 =>
    rw [q] at g
    simp only [R.bind] at g
    intro F1 H1 vs E1 s1 r1
    cases q2 : getAVs env1 avs with
    | none => rw [q2] at g; exact g.elim
    | some ds =>
      rw [q2] at g
      simp only [Option.bind] at g
      cases q3 : p ds with
      | none => rw [q3] at g; exact g.elim
      | some xs =>
        rw [q3] at g
        exact hr O F1 H1 ds vs xs R' (AVs.tops s1 r1 q2) q3 fun J w => g F1 H1 J E1 s1 w
theorem it_rng1 {tg a : Expr} {os : List Opd} {p pos : Pos} (hg : Gl X "range") (hm : X.mg "range" = none) (ha : DAs X W [a] os) (hs : starEach [a] X.env = [(false, eval a X.env)] := by rfl) : DIt X W tg (.Call (.Name "range" p) [a] [] pos) (iArgs rng1 os) := by
  obtain ⟨t, h, s⟩ := ha
  refine ⟨_, pi_range1 hg hm h hs, isem_args s fun O F H ds vs xs R' r e k => ?_⟩
  unfold rng1 at e
  split at e
  · split at e
    · rename_i j hj
      cases e
      obtain ⟨v, _, rfl, rv, rfl⟩ := r
      cases rv
      obtain ⟨h1, h2⟩ := small62_of hj
      exact ⟨j, rfl, h1, h2, k _ walks_rng⟩
    · cases e
  · cases e
theorem it_rng2 {tg a b : Expr} {os : List Opd} {p pos : Pos} (hg : Gl X "range") (hm : X.mg "range" = none) (ha : DAs X W [a, b] os) (hs : starEach [a, b] X.env = [(false, eval a X.env), (false, eval b X.env)] := by rfl) (hs2 : starEach [b] X.env = [(false, eval b X.env)] := by rfl) : DIt X W tg (.Call (.Name "range" p) [a, b] [] pos) (iArgs rng2 os) := by
  obtain ⟨t, h, s⟩ := ha
  refine ⟨_, pi_range2 hg hm h hs hs2, isem_args s fun O F H ds vs xs R' r e k => ?_⟩
  unfold rng2 at e
  split at e
  · rename_i i j
    split at e
    · rename_i hi
      split at e
      · rename_i hj
        cases e
        obtain ⟨v, _, rfl, rv, v2, _, rfl, rv2, rfl⟩ := r
        cases rv
        cases rv2
        obtain ⟨h1, h2⟩ := small62_of hi
        obtain ⟨h3, h4⟩ := small62_of hj
        exact ⟨i, j, rfl, ⟨h1, h2, h3, h4⟩, k _ walks_rng⟩
      · cases e
    · cases e
  · cases e
theorem it_rng3 {tg a b c : Expr} {os : List Opd} {p pos : Pos} (hg : Gl X "range") (hm : X.mg "range" = none) (ha : DAs X W [a, b, c] os)
    (hs : starEach [a, b, c] X.env = (false, eval a X.env) :: starEach [b, c] X.env := by rfl) (hpl : (backTo pos (starEach [b, c] X.env)).any (·.1) = false := by rfl) : DIt X W tg (.Call (.Name "range" p) [a, b, c] [] pos) (iArgs rng3 os) := by
  obtain ⟨t, h, s⟩ := ha
  refine ⟨_, pi_range3 hg hm h hs hpl, isem_args s fun O F H ds vs xs R' r e k => ?_⟩
  unfold rng3 at e
  split at e
  · rename_i i j c
    split at e
    · rename_i hc
      subst hc
      split at e
      · rename_i hi
        split at e
        · rename_i hj
          cases e
          obtain ⟨v, _, rfl, rv, v2, _, rfl, rv2, v3, _, rfl, rv3, rfl⟩ := r
          cases rv
          cases rv2
          cases rv3
          obtain ⟨h1, h2⟩ := small62_of hi
          obtain ⟨h3, h4⟩ := small62_of hj
          exact ⟨i, j, -1, (i - j).toNat, rfl, RgC.neg h1 h2 h3 h4, k _ walks_rngC⟩
        · cases e
      · cases e
    · cases e
  · cases e
/-! enumerate of a list, zip of two lists or two tuples: new pairs -/
def enumD (i : Nat) : List D → List D
  | [] => []
  | x :: xs => .pr (.int (i : Nat)) x :: enumD (i + 1) xs
theorem enumD_get (i : Nat) (xs : List D) (j : Nat) : (enumD i xs)[j]? = xs[j]?.map fun x => D.pr (.int ((i + j : Nat) : Int)) x := by
  induction xs generalizing i j with
  | nil => simp [enumD]
  | cons x xs ih =>
    cases j with
    | zero => simp [enumD]
    | succ j =>
      rw [enumD, List.getElem?_cons_succ, List.getElem?_cons_succ, ih]
      have : i + 1 + j = i + (j + 1) := by omega
      rw [this]
def zipD : List D → List D → List D
  | x :: xs, y :: ys => .pr x y :: zipD xs ys
  | _, _ => []
theorem zipD_get : ∀ (xs ys : List D) (j : Nat), (zipD xs ys)[j]? = (match xs[j]?, ys[j]? with
    | some x, some y => some (D.pr x y)
    | _, _ => none)
  | [], ys, j => by simp [zipD]
  | x :: xs, [], j => by
    cases q : (x :: xs)[j]? <;> simp [zipD]
  | x :: xs, y :: ys, 0 => by simp [zipD]
  | x :: xs, y :: ys, j + 1 => by
    rw [zipD, List.getElem?_cons_succ, List.getElem?_cons_succ, List.getElem?_cons_succ]
    exact zipD_get xs ys j
theorem walks_enum {K : PySem.W.Frag} {O F : Fz} {H : Hp} {a : Addr} {vs : List V} {xs : List D} (hl : ∀ F' H', Ext O F H F' H' → SqL K H' a vs) (hr : RepL K F H xs vs) : Walks K O F H (Ite K a) (enumD 0 xs) := fun F' H' E od i => by
  have q := hl F' H' E
  have rl := RepL.ext E xs vs hr
  rw [enumD_get]
  refine ⟨fun d hx => ?_, fun hx => ?_⟩
  · cases hx' : xs[i]? with
    | none => rw [hx'] at hx; cases hx
    | some x =>
      rw [hx'] at hx
      simp only [Option.map_some] at hx
      cases hx
      obtain ⟨v, hv, r⟩ := rl.get hx'
      refine ⟨⟨vs, v, q, hv⟩, fun y H'' z => ?_⟩
      obtain ⟨T, v2, rfl, hT, rfl, hy⟩ := z
      have := hy vs q
      rw [hv] at this
      cases this
      refine ⟨same_new hT, T, .int (i : Nat), v, rfl, upd_same, ?_⟩
      have e0 : ((0 + i : Nat) : Int) = ((i : Nat) : Int) := by rw [Nat.zero_add]
      rw [e0]
      exact ⟨rfl, rep_same (same_new hT) r⟩
  · cases hx' : xs[i]? with
    | none => exact ⟨vs, q, by rw [hr.length]; exact List.getElem?_eq_none_iff.mp hx'⟩
    | some x => rw [hx'] at hx; cases hx
theorem walks_zip {K : PySem.W.Frag} {O F : Fz} {H : Hp} {a b : Addr} {vs ws : List V} {xs ys : List D} (hl : ∀ F' H', Ext O F H F' H' → SqL K H' a vs) (hl2 : ∀ F' H', Ext O F H F' H' → SqL K H' b ws) (hr : RepL K F H xs vs) (hr2 : RepL K F H ys ws) :
    Walks K O F H (Itz K a b) (zipD xs ys) := fun F' H' E od i => by
  have q := hl F' H' E
  have q2 := hl2 F' H' E
  have rl := RepL.ext E xs vs hr
  have rl2 := RepL.ext E ys ws hr2
  rw [zipD_get]
  cases hx : xs[i]? with
  | none => exact ⟨fun d z => (nomatch z), fun _ => ⟨vs, ws, q, q2, .inl (by rw [hr.length]; exact List.getElem?_eq_none_iff.mp hx)⟩⟩
  | some x =>
    cases hy : ys[i]? with
    | none => exact ⟨fun d z => (nomatch z), fun _ => ⟨vs, ws, q, q2, .inr (by rw [hr2.length]; exact List.getElem?_eq_none_iff.mp hy)⟩⟩
    | some y =>
      refine ⟨fun d z => ?_, fun z => (nomatch z)⟩
      cases z
      obtain ⟨v, hv, r⟩ := rl.get hx
      obtain ⟨w, hw, r2⟩ := rl2.get hy
      refine ⟨⟨vs, ws, v, w, q, q2, hv, hw⟩, fun u H'' z => ?_⟩
      obtain ⟨T, v2, w2, rfl, hT, rfl, e1, e2⟩ := z
      have e1 := e1 vs q
      have e2 := e2 ws q2
      rw [hv] at e1; rw [hw] at e2
      cases e1; cases e2
      exact ⟨same_new hT, T, v, w, rfl, upd_same, rep_same (same_new hT) r, rep_same (same_new hT) r2⟩
theorem walks_zipT {K : PySem.W.Frag} {O F : Fz} {H : Hp} {a b : Addr} {vs ws : List V} {xs ys : List D} (ha : TpL H a vs) (hb : TpL H b ws) (hr : RepL K F H xs vs) (hr2 : RepL K F H ys ws) :
    Walks K O F H (RZ.ItzT K a b) (zipD xs ys) := fun F' H' E od i => by
  have q : SqT K H' a vs := (tpL_ext E ha).sq
  have q2 : SqT K H' b ws := (tpL_ext E hb).sq
  have rl := RepL.ext E xs vs hr
  have rl2 := RepL.ext E ys ws hr2
  rw [zipD_get]
  cases hx : xs[i]? with
  | none => exact ⟨fun d z => (nomatch z), fun _ => ⟨vs, ws, q, q2, .inl (by rw [hr.length]; exact List.getElem?_eq_none_iff.mp hx)⟩⟩
  | some x =>
    cases hy : ys[i]? with
    | none => exact ⟨fun d z => (nomatch z), fun _ => ⟨vs, ws, q, q2, .inr (by rw [hr2.length]; exact List.getElem?_eq_none_iff.mp hy)⟩⟩
    | some y =>
      refine ⟨fun d z => ?_, fun z => (nomatch z)⟩
      cases z
      obtain ⟨v, hv, r⟩ := rl.get hx
      obtain ⟨w, hw, r2⟩ := rl2.get hy
      refine ⟨⟨vs, ws, v, w, q, q2, hv, hw⟩, fun u H'' z => ?_⟩
      obtain ⟨T, v2, w2, rfl, hT, rfl, e1, e2⟩ := z
      have e1 := e1 vs q
      have e2 := e2 ws q2
      rw [hv] at e1; rw [hw] at e2
      cases e1; cases e2
      exact ⟨same_new hT, T, v, w, rfl, upd_same, rep_same (same_new hT) r, rep_same (same_new hT) r2⟩
/-- from arguments that are all still -/
theorem isem_vals {ta : TA} {os : List Opd} {p : List D → Option (List D)} {r : List V → Hp → (It → Hp → Prop) → Prop} (ha : ASem X W ta os) (hv : allV os = true)
    (hr : ∀ (O F : Fz) (H : Hp) (ds : List D) (vs : List V) (xs : List D) (R' : It → Hp → Prop), RepL X.K F H ds vs → p ds = some xs → (∀ J, Walks X.K O F H J xs → R' J H) → r vs H R') :
    ISem X W (fun σ H R' => ta σ H fun vs H1 => r vs H1 R') (iArgs p os) := fun O F σ H env R' st g => by
  refine ha O F σ H env _ st ?_
  unfold iArgs at g
  cases q : evOs os env with
  | bad => rw [q] at g; exact g.elim
  | err x e => rw [q] at g; exact g
  | ok avs env1 =>
    rw [q] at g
    simp only [R.bind] at g
    intro F1 H1 vs E1 s1 r1
    cases q2 : getAVs env1 avs with
    | none => rw [q2] at g; exact g.elim
    | some ds =>
      rw [q2] at g
      simp only [Option.bind] at g
      cases q3 : p ds with
      | none => rw [q3] at g; exact g.elim
      | some xs =>
        rw [q3] at g
        exact hr O F1 H1 ds vs xs R' (AVs.vals hv q r1 q2) q3 fun J w => g F1 H1 J E1 s1 w
def enum1 (ds : List D) : Option (List D) := match ds with
  | [.lst xs] => some (enumD 0 xs)
  | _ => none
def zip2 (ds : List D) : Option (List D) := match ds with
  | [.lst xs, .lst ys] => some (zipD xs ys)
  | [.tup xs, .tup ys] => some (zipD xs ys)
  | _ => none
theorem it_enum {e : Expr} {os : List Opd} {p pos tpos : Pos} {elts : List Expr} {kk : Nat} (hg : Gl X "enumerate") (hm : X.mg "enumerate" = none) (ha : DAs X W [e] os) (hs : starEach [e] X.env = [(false, eval e X.env)] := by rfl) (hv : allV os = true := by rfl) :
    DIt X W (.Tuple elts kk tpos) (.Call (.Name "enumerate" p) [e] [] pos) (iArgs enum1 os) := by
  obtain ⟨t, h, s⟩ := ha
  refine ⟨_, pi_enum hg hm h hs, isem_vals s hv fun O F H ds vs xs R' r e k => ?_⟩
  unfold enum1 at e
  split at e
  · cases e
    obtain ⟨v, _, rfl, ⟨a, ws, rfl, fa, ha, rl⟩, rfl⟩ := r
    exact ⟨a, ws, rfl, SqL.of ha, k _ (walks_enum (fun F' H' E => SqL.of (E.fz a _ fa ha)) rl)⟩
  · cases e
theorem it_zip {e e2 : Expr} {os : List Opd} {p pos tpos : Pos} {elts : List Expr} {kk : Nat} (hg : Gl X "zip") (hm : X.mg "zip" = none) (ha : DAs X W [e, e2] os)
    (hs : starEach [e, e2] X.env = (false, eval e X.env) :: starEach [e2] X.env := by rfl) (hpl : (backTo pos (starEach [e2] X.env)).any (·.1) = false := by rfl) (hv : allV os = true := by rfl) :
    DIt X W (.Tuple elts kk tpos) (.Call (.Name "zip" p) [e, e2] [] pos) (iArgs zip2 os) := by
  obtain ⟨t, h, s⟩ := ha
  refine ⟨_, RZ.pi_zipA hg hm h hs hpl, isem_vals s hv fun O F H ds vs xs R' r e k => ?_⟩
  unfold zip2 at e
  split at e
  · cases e
    obtain ⟨v, _, rfl, ⟨a, ws, rfl, fa, ha, rl⟩, v2, _, rfl, ⟨b, zs, rfl, fb, hb, rl2⟩, rfl⟩ := r
    exact ⟨a, b, ws, zs, rfl, .inl ⟨SqL.of ha, SqL.of hb, k _ (walks_zip (fun F' H' E => SqL.of (E.fz a _ fa ha)) (fun F' H' E => SqL.of (E.fz b _ fb hb)) rl rl2)⟩⟩
  · cases e
    obtain ⟨v, _, rfl, ⟨a, ws, rfl, ha, rl⟩, v2, _, rfl, ⟨b, zs, rfl, hb, rl2⟩, rfl⟩ := r
    exact ⟨a, b, ws, zs, rfl, .inr ⟨ha.sq, hb.sq, k _ (walks_zipT ha hb rl rl2)⟩⟩
  · cases e
end
end DL
/-! DL5: comprehensions. -/
namespace DL
open PySem PySem.Spec PyProof.Rows L2

section
variable {X : Cx} {W : WX} {B : Bs}
/-! ### one reading for all contexts -/
def tOfE (X : Cx) (W : WX) (m : DE) : TE := fun σ H Q => ∃ O F env, StOk X.K O F H σ env ∧ EGoal X W O F σ H Q (m env)
def tOfT (X : Cx) (W : WX) (m : DT) : TT := fun σ H Q => ∃ O F env, StOk X.K O F H σ env ∧ TGoal X W O F σ H Q (m env)
theorem DEv.pe {e : Expr} {m : DE} (h : DEv X W e m) : PE X e (tOfE X W m) := by
  obtain ⟨t, p, s⟩ := h
  exact ⟨fun pins s0 σ H Q I ⟨O, F, env, st, g⟩ => p.run pins s0 σ H Q I (s O F σ H env Q st g)⟩
theorem DTst.pt {e : Expr} {m : DT} (h : DTst X W e m) : PT X e (tOfT X W m) := by
  obtain ⟨t, p, s⟩ := h
  exact ⟨fun pins s0 σ H Q I ⟨O, F, env, st, g⟩ => p.run pins s0 σ H Q I (s O F σ H env Q st g)⟩
def tOfG (X : Cx) (B : Bs) (m : DG) : TG := fun v σ H Q => ∃ O F env d env', StOk X.K O F H σ env ∧ Rep X.K F H d v ∧ m d env = some env' ∧ ∀ σ', StOk X.K O F H σ' env' → Keeps B σ σ' → Q σ' H
theorem DTg.pg {e : Expr} {m : DG} (h : DTg X B e m) : PG X e (tOfG X B m) := by
  obtain ⟨g, p, s⟩ := h
  exact ⟨fun pins s0 σ H v u Q I r ⟨O, F, env, d, env', st, rd, e, k⟩ => p.run pins s0 σ H v u Q I r (s O F σ H env d v env' Q st rd e k)⟩

/-! ### comprehensions -/
@[simp] def wipeD (env : DEnv) : List Nat → DEnv
  | [] => env
  | v :: vs => (wipeD env vs).set v none
@[simp] def keepEnt : Option (Option Ent) → Option Ent
  | some (some ⟨.shr, d⟩) => some ⟨.shr, d⟩
  | _ => none
/-- the outer values of the comprehension's own names come back -/
@[simp] def backD (env0 env : DEnv) : List Nat → DEnv
  | [] => env
  | v :: vs => (backD env0 env vs).set v (keepEnt env0[v]?)
def dLoop (vs : List Nat) (g : DG) (c : DT) (e : DE) : List D → List D → DEnv → R (List D)
  | [], acc, env => .ok acc env
  | x :: xs, acc, env => match g x env with
    | none => .bad
    | some env1 => match c env1 with
      | .ok true env2 => (match e env2 with
        | .ok r env3 => if acc.length < sizeLine then dLoop vs g c e xs (acc ++ [r.d]) (wipeD env3 vs) else .bad
        | _ => .bad)
      | .ok false env2 => dLoop vs g c e xs acc (wipeD env2 vs)
      | _ => .bad
def dComp (vs : List Nat) (it : DI) (g : DG) (c : DT) (e : DE) : DE := fun env => (it env).bind fun xs env1 => match dLoop vs g c e xs [] (wipeD env1 vs) with
  | .ok acc env2 => .ok ⟨.own, .lst acc⟩ (backD env1 env2 vs)
  | _ => .bad
def dYes : DT := fun env => .ok true env
def notIn (vs : List Nat) : Bs := fun i => !vs.contains i
theorem wipeD_get {env : DEnv} {i : Nat} {x : Ent} : ∀ {vs : List Nat}, (wipeD env vs)[i]? = some (some x) → env[i]? = some (some x) ∧ i ∉ vs
  | [], h => ⟨h, by simp⟩
  | v :: vs, h => by
    unfold wipeD at h
    by_cases hi : v = i
    · subst hi
      by_cases hv : v < (wipeD env vs).length
      · rw [List.getElem?_set_self hv] at h; cases h
      · rw [List.getElem?_eq_none (by simpa using hv)] at h; cases h
    · rw [List.getElem?_set_ne hi] at h
      obtain ⟨h1, h2⟩ := wipeD_get h
      exact ⟨h1, by simp only [List.mem_cons, not_or]; exact ⟨fun e => hi e.symm, h2⟩⟩
theorem wipeD_length (env : DEnv) : ∀ vs : List Nat, (wipeD env vs).length = env.length
  | [] => rfl
  | v :: vs => by unfold wipeD; rw [List.length_set, wipeD_length env vs]
theorem backD_length (env0 env : DEnv) : ∀ vs : List Nat, (backD env0 env vs).length = env.length
  | [] => rfl
  | v :: vs => by unfold backD; rw [List.length_set, backD_length env0 env vs]
theorem backD_get {env0 env : DEnv} {i : Nat} {x : Ent} : ∀ {vs : List Nat}, (backD env0 env vs)[i]? = some (some x) → (i ∉ vs ∧ env[i]? = some (some x)) ∨ (i ∈ vs ∧ x.md = .shr ∧ env0[i]? = some (some x))
  | [], h => .inl ⟨by simp, h⟩
  | v :: vs, h => by
    unfold backD at h
    by_cases hi : v = i
    · subst hi
      by_cases hv : v < (backD env0 env vs).length
      · rw [List.getElem?_set_self hv] at h
        right
        cases q : env0[v]? with
        | none => rw [q] at h; cases h
        | some o =>
          cases o with
          | none => rw [q] at h; cases h
          | some e =>
            rw [q] at h
            obtain ⟨m, d⟩ := e
            cases m with
            | shr =>
              simp only [keepEnt] at h
              cases h
              exact ⟨by simp, rfl, rfl⟩
            | own => cases h
            | bor => cases h
      · rw [List.getElem?_eq_none (by simpa using hv)] at h; cases h
    · rw [List.getElem?_set_ne hi] at h
      rcases backD_get h with ⟨h1, h2⟩ | ⟨h1, h2⟩
      · exact .inl ⟨by simp only [List.mem_cons, not_or]; exact ⟨fun e => hi e.symm, h1⟩, h2⟩
      · exact .inr ⟨List.mem_cons_of_mem _ h1, h2⟩
theorem wipe_get {σ : L2.St} {i : Nat} : ∀ {vs : List Nat}, i ∉ vs → (wipe σ vs)[i]? = σ[i]? := fun h => wipe_out h
/-- within: the names of the comprehension are empty -/
theorem StOk.wiped {K : PySem.W.Frag} {O F : Fz} {H : Hp} {σ : L2.St} {env : DEnv} (s : StOk K O F H σ env) (vs : List Nat) : StOk K O F H (wipe σ vs) (wipeD env vs) where
  len := by rw [wipe_length, wipeD_length]; exact s.len
  shr := fun i d q => by
    obtain ⟨q1, q2⟩ := wipeD_get q
    obtain ⟨v, h1, h2⟩ := s.shr i d q1
    exact ⟨v, by rw [wipe_get q2]; exact h1, h2⟩
  own := fun i m d q n => by
    obtain ⟨q1, q2⟩ := wipeD_get q
    obtain ⟨a, ws, ds, h1, h2, h3⟩ := s.own i m d q1 n
    exact ⟨a, ws, ds, h1, by rw [wipe_get q2]; exact h2, h3⟩
  inj := fun i j a ⟨m, d, h1, h2, h3⟩ ⟨m', d', k1, k2, k3⟩ => by
    obtain ⟨q1, q2⟩ := wipeD_get h1
    obtain ⟨q3, q4⟩ := wipeD_get k1
    rw [wipe_get q2] at h3
    rw [wipe_get q4] at k3
    exact s.inj i j a ⟨m, d, q1, h2, h3⟩ ⟨m', d', q3, k2, k3⟩
  fdom := s.fdom
  odom := s.odom
theorem wipe_len {σ : L2.St} (vs : List Nat) : (wipe σ vs).length = σ.length := wipe_length σ vs
/-- back: from a state whose own names are empty -/
theorem StOk.back {K : PySem.W.Frag} {O F0 F : Fz} {H0 H : Hp} {σ : L2.St} {env0 env : DEnv} {vs : List Nat} (s0 : StOk K O F0 H0 σ env0) (s : StOk K O F H (wipe σ vs) env) (e : Ext O F0 H0 F H) (hw : ∀ i ∈ vs, ∀ x, env[i]? ≠ some (some x)) : StOk K O F H σ (backD env0 env vs) where
  len := by rw [backD_length, ← s.len, wipe_length]
  shr := fun i d q => by
    rcases backD_get q with ⟨q1, q2⟩ | ⟨q1, _, q2⟩
    · obtain ⟨v, h1, h2⟩ := s.shr i d q2
      rw [wipe_get q1] at h1
      exact ⟨v, h1, h2⟩
    · obtain ⟨v, h1, h2⟩ := s0.shr i d q2
      exact ⟨v, h1, Rep.ext e d v h2⟩
  own := fun i m d q n => by
    rcases backD_get q with ⟨q1, q2⟩ | ⟨q1, z, q2⟩
    · obtain ⟨a, ws, ds, h1, h2, h3⟩ := s.own i m d q2 n
      rw [wipe_get q1] at h2
      exact ⟨a, ws, ds, h1, h2, h3⟩
    · exact absurd z n
  inj := fun i j a ⟨m, d, h1, h2, h3⟩ ⟨m', d', k1, k2, k3⟩ => by
    rcases backD_get h1 with ⟨q1, q2⟩ | ⟨q1, z, q2⟩
    · rcases backD_get k1 with ⟨r1, r2⟩ | ⟨r1, z, r2⟩
      · exact s.inj i j a ⟨m, d, q2, h2, by rw [wipe_get q1]; exact h3⟩ ⟨m', d', r2, k2, by rw [wipe_get r1]; exact k3⟩
      · exact absurd z k2
    · exact absurd z h2
  fdom := s.fdom
  odom := s.odom
/-- what others own is changed by them -/
theorem StOk.outw {K : PySem.W.Frag} {O F : Fz} {H : Hp} {σ : L2.St} {env : DEnv} {p : Addr} {us ws : List V} (s : StOk K O F H σ env) (hO : O p) (hF : ¬ F p) (h : H p = some (.lst us)) :
    StOk K O F (upd H p (.lst ws)) σ env ∧ ∀ O', (∀ a, O' a → a ≠ p) → Ext O' F H F (upd H p (.lst ws)) := by
  have E : ∀ O', (∀ a, O' a → a ≠ p) → Ext O' F H F (upd H p (.lst ws)) := fun O' ho => ⟨fun _ h => h, fun b o f q => by
      rw [upd_ne (fun z => by subst z; exact hF f)]; exact q, fun b xs q => by
      rw [upd_ne (fun z => by subst z; rw [h] at q; cases q)]; exact q, fun b o u q => by
      rw [upd_ne (fun z => by subst z; rw [h] at q; cases q)]; exact q, fun b ob => upd_ne (ho b ob), fun _ _ q => q⟩
  have E0 := E (fun _ => False) fun _ z => z.elim
  refine ⟨⟨s.len, fun i d q => let ⟨v, h1, h2⟩ := s.shr i d q; ⟨v, h1, Rep.ext E0 d v h2⟩, fun i m d q n => ?_, s.inj, fun b f => ?_, fun b f => ?_⟩, E⟩
  · obtain ⟨a, xs, ds, h1, h2, h3, h4, h5, h6⟩ := s.own i m d q n
    have hb : a ≠ p := fun z => by subst z; exact h6 hO
    exact ⟨a, xs, ds, h1, h2, by rw [upd_ne hb]; exact h3, RepL.ext E0 ds xs h4, h5, h6⟩
  · by_cases hb : b = p
    · subst hb; rw [upd_same]; exact nofun
    · rw [upd_ne hb]; exact s.fdom b f
  · by_cases hb : b = p
    · subst hb; rw [upd_same]; exact nofun
    · rw [upd_ne hb]; exact s.odom b f
theorem StOk.weak {K : PySem.W.Frag} {O O' F : Fz} {H : Hp} {σ : L2.St} {env : DEnv} (s : StOk K O F H σ env) (h : ∀ a, O' a → O a) : StOk K O' F H σ env :=
  ⟨s.len, s.shr, fun i m d q n => let ⟨a, vs, ds, h1, h2, h3, h4, h5, h6⟩ := s.own i m d q n; ⟨a, vs, ds, h1, h2, h3, h4, h5, fun z => h6 (h a z)⟩, s.inj, s.fdom, fun a q => s.odom a (h a q)⟩
theorem keeps_wipe {vs : List Nat} {σ σ' : L2.St} (k : Keeps (notIn vs) σ σ') : wipe σ' vs = wipe σ vs := by
  have hl := k.1
  apply List.ext_getElem?
  intro i
  by_cases hi : i ∈ vs
  · have none_at : ∀ τ : L2.St, (wipe τ vs)[i]? = none ∨ (wipe τ vs)[i]? = some none := fun τ => by
      cases q : (wipe τ vs)[i]? with
      | none => exact .inl rfl
      | some o =>
        cases o with
        | none => exact .inr rfl
        | some x => exact absurd hi (wipe_some q).2
    by_cases hlt : i < σ.length
    · have h1 : i < (wipe σ vs).length := by rw [wipe_length]; exact hlt
      have h2 : i < (wipe σ' vs).length := by rw [wipe_length, hl]; exact hlt
      rcases none_at σ with a | a
      · rw [List.getElem?_eq_getElem h1] at a; cases a
      · rcases none_at σ' with b | b
        · rw [List.getElem?_eq_getElem h2] at b; cases b
        · rw [a, b]
    · have z1 : (wipe σ' vs).length ≤ i := by rw [wipe_length]; omega
      have z2 : (wipe σ vs).length ≤ i := by rw [wipe_length]; omega
      rw [List.getElem?_eq_none z1, List.getElem?_eq_none z2]
  · rw [wipe_get hi, wipe_get hi]
    exact k.2 i (by unfold notIn; rw [Bool.not_eq_true']; exact Bool.eq_false_iff.mpr fun z => hi (by simpa using z))
theorem wipe_wipe {σ : L2.St} : ∀ (vs : List Nat), wipe (wipe σ vs) vs = wipe σ vs := fun vs => by
  apply List.ext_getElem?
  intro i
  by_cases hi : i ∈ vs
  · have none_at : ∀ τ : L2.St, (wipe τ vs)[i]? = none ∨ (wipe τ vs)[i]? = some none := fun τ => by
      cases q : (wipe τ vs)[i]? with
      | none => exact .inl rfl
      | some o =>
        cases o with
        | none => exact .inr rfl
        | some x => exact absurd hi (wipe_some q).2
    by_cases hlt : i < σ.length
    · have h1 : i < (wipe σ vs).length := by rw [wipe_length]; exact hlt
      have h2 : i < (wipe (wipe σ vs) vs).length := by rw [wipe_length]; exact h1
      rcases none_at σ with a | a
      · rw [List.getElem?_eq_getElem h1] at a; cases a
      · rcases none_at (wipe σ vs) with b | b
        · rw [List.getElem?_eq_getElem h2] at b; cases b
        · rw [a, b]
    · rw [List.getElem?_eq_none (by rw [wipe_length, wipe_length]; omega), List.getElem?_eq_none (by rw [wipe_length]; omega)]
  · rw [wipe_get hi]
theorem wipeD_none {env : DEnv} {vs : List Nat} : ∀ i ∈ vs, ∀ x, (wipeD env vs)[i]? ≠ some (some x) := fun i hi x q => (wipeD_get q).2 hi

theorem sem_comp {vs : List Nat} {wi : TI} {mi : DI} {g : DG} {mc : DT} {me : DE} (hi : ISem X W wi mi) :
    ESem X W (tLc wi (tOfG X (notIn vs) g) (tOfT X (fun _ _ _ _ => False) mc) (tOfE X (fun _ _ _ _ => False) me) vs) (dComp vs mi g mc me) := fun O F σ H env Q st g0 => by
  refine hi O F σ H env _ st ?_
  unfold dComp at g0
  cases q : mi env with
  | bad => rw [q] at g0; exact g0.elim
  | err x e => rw [q] at g0; exact g0
  | ok xs env1 =>
    rw [q] at g0
    simp only [R.bind] at g0
    intro F1 H1 J E1 st1 wk Dl hD
    cases q2 : dLoop vs g mc me xs [] (wipeD env1 vs) with
    | bad => rw [q2] at g0; exact g0.elim
    | err x e => rw [q2] at g0; exact g0.elim
    | ok acc env2 =>
      rw [q2] at g0
      simp only [] at g0
      have smD : Same H1 (upd H1 Dl (.lst [])) := same_new hD
      have stD : StOk X.K O F1 (upd H1 Dl (.lst [])) σ env1 := st1.same smD
      have ED : Ext O F1 H1 F1 (upd H1 Dl (.lst [])) := Ext.same smD st1.odom
      have nF1 : ¬ F1 Dl := fun f => st1.fdom Dl f hD
      have nO : ¬ O Dl := fun f => st1.odom Dl f hD
      have nOw : ∀ i, ¬ OwnAt env1 σ i Dl := fun i ⟨m, d, h1, h2, h3⟩ => by
        obtain ⟨a, ws, _, _, e2, e3, _⟩ := st1.own i m d h1 h2
        rw [h3] at e2; cases e2
        rw [hD] at e3; cases e3
      -- within, the new list is another's
      let O' : Fz := fun a => O a ∨ a = Dl
      have stI : StOk X.K O' F1 (upd H1 Dl (.lst [])) (wipe σ vs) (wipeD env1 vs) := by
        have s2 := stD.wiped vs
        refine ⟨s2.len, s2.shr, fun i m d q n => ?_, s2.inj, s2.fdom, fun a h => ?_⟩
        · obtain ⟨a, ws, ds, h1, h2, h3, h4, h5, h6⟩ := s2.own i m d q n
          refine ⟨a, ws, ds, h1, h2, h3, h4, h5, fun z => ?_⟩
          rcases z with z | z
          · exact h6 z
          · subst z
            obtain ⟨q1, q2⟩ := wipeD_get q
            rw [wipe_get q2] at h2
            exact nOw i ⟨m, d, q1, n, h2⟩
        · rcases h with h | h
          · exact s2.odom a h
          · subst h; rw [upd_same]; exact nofun
      refine ⟨fun i m H' => ∃ F' env' accD accV, m = xs.length - i ∧ i ≤ xs.length ∧ Ext O F1 H1 F' H' ∧ StOk X.K O' F' H' (wipe σ vs) env' ∧ H' Dl = some (.lst accV) ∧ RepL X.K F' H' accD accV ∧ ¬ F' Dl ∧
          (∀ i ∈ vs, ∀ x, env'[i]? ≠ some (some x)) ∧ dLoop vs g mc me (xs.drop i) accD env' = .ok acc env2,
        ⟨xs.length, F1, wipeD env1 vs, [], [], by simp, Nat.zero_le _, ED, stI, upd_same, RepL.nil, nF1, wipeD_none, by rw [List.drop_zero]; exact q2⟩, ?_⟩
      rintro i m H' ⟨F', env', accD, accV, rfl, hi', E', st', hDl, rl, nF', nv, hl⟩
      obtain ⟨w1, w2⟩ := wk F' H' E' (st'.weak (O' := O) fun a h => .inl h).odom i
      cases hx : xs[i]? with
      | none =>
        left
        refine ⟨w2 hx, ?_⟩
        rw [List.drop_eq_nil_of_le (List.getElem?_eq_none_iff.mp hx)] at hl
        cases hl
        have sto := st'.weak (O' := O) fun a h => .inl h
        have sb := StOk.back st1 sto E' nv
        refine g0 F' H' (.ref Dl) (E1.trans E') sb ⟨Dl, accV, acc, rfl, rfl, hDl, rl, nF', nO, fun j ⟨m, d, h1, h2, h3⟩ => ?_⟩
        rcases backD_get h1 with ⟨q1, q2⟩ | ⟨q1, z, q2⟩
        · obtain ⟨a, ws, ds, _, k2, _, _, _, k6⟩ := st'.own j m d q2 h2
          rw [wipe_get q1, h3] at k2
          cases k2
          exact k6 (.inr rfl)
        · exact h2 z
      | some d =>
        right
        obtain ⟨go, yl⟩ := w1 d hx
        have hlt : i < xs.length := (List.getElem?_eq_some_iff.mp hx).1
        have hdrop : xs.drop i = d :: xs.drop (i + 1) := by
          rw [List.drop_eq_getElem_cons hlt]
          rw [List.getElem?_eq_getElem hlt] at hx
          rw [Option.some.inj hx]
        rw [hdrop] at hl
        unfold dLoop at hl
        refine ⟨go, fun H3 => ∃ F3 env3 accD accV, Ext O F1 H1 F3 H3 ∧ StOk X.K O' F3 H3 (wipe σ vs) env3 ∧ H3 Dl = some (.lst accV) ∧ RepL X.K F3 H3 accD accV ∧ ¬ F3 Dl ∧
            (∀ i ∈ vs, ∀ x, env3[i]? ≠ some (some x)) ∧ dLoop vs g mc me (xs.drop (i + 1)) accD env3 = .ok acc env2, ?_, fun x H2 hy => ?_⟩
        · rintro H3 ⟨F3, env3, aD, aV, E3, st3, h3, r3, n3, v3, l3⟩
          exact ⟨xs.length - (i + 1), by omega, F3, env3, aD, aV, rfl, hlt, E3, st3, h3, r3, n3, v3, l3⟩
        · obtain ⟨sm, rx⟩ := yl x H2 hy
          have E2 : Ext O' F' H' F' H2 := Ext.same sm st'.odom
          have st2 := st'.same sm
          cases q3 : g d env' with
          | none => rw [q3] at hl; cases hl
          | some env3 =>
            rw [q3] at hl
            simp only [] at hl
            refine ⟨O', F', env', d, env3, st2, rx, q3, fun σ2 s3 k3 => ?_⟩
            refine ⟨by rw [keeps_wipe k3, wipe_wipe], ?_⟩
            have hw2 : wipe σ2 vs = wipe σ vs := by rw [keeps_wipe k3, wipe_wipe]
            have hD2 : H2 Dl = some (.lst accV) := sm _ _ hDl
            have rl2 : RepL X.K F' H2 accD accV := repL_same sm rl
            refine ⟨O', F', env3, s3, ?_⟩
            cases q4 : mc env3 with
            | bad => rw [q4] at hl; cases hl
            | err x e => rw [q4] at hl; cases hl
            | ok b env4 =>
              rw [q4] at hl
              intro F4 H4 E4 s4
              have hD4 : H4 Dl = some (.lst accV) := (E4.out Dl (.inr rfl)).trans hD2
              have nF4 : ¬ F4 Dl := fun z => nF' (E4.outF Dl (.inr rfl) z)
              have EO : ∀ a, O a → O' a := fun a h => .inl h
              cases b with
              | false =>
                refine iteF ?_
                have s5 := s4.wiped vs
                rw [hw2] at s5
                exact ⟨F4, wipeD env4 vs, accD, accV, (E'.trans (E2.mono EO)).trans (E4.mono EO), s5, hD4, RepL.ext E4 accD accV rl2, nF4, wipeD_none, hl⟩
              | true =>
                refine iteT ?_
                refine ⟨O', F4, env4, s4, ?_⟩
                simp only [] at hl
                cases q5 : me env4 with
                | bad => rw [q5] at hl; cases hl
                | err x e => rw [q5] at hl; cases hl
                | ok r env5 =>
                  rw [q5] at hl
                  simp only [] at hl
                  intro F5 H5 v E5 s5 r5
                  split at hl
                  · rename_i hsz
                    obtain ⟨F6, E6, s6, r6⟩ := freeze s5 r5
                    have hD5 : H5 Dl = some (.lst accV) := (E5.out Dl (.inr rfl)).trans hD4
                    have nF6 : ¬ F6 Dl := fun z => nF4 (E5.outF Dl (.inr rfl) (E6.outF Dl (.inr rfl) z))
                    have rl6 : RepL X.K F6 H5 accD accV := RepL.ext (E4.trans (E5.trans E6)) accD accV rl2
                    have hlen : accV.length = accD.length := rl6.length
                    obtain ⟨s7, E7⟩ := s6.outw (ws := accV ++ [v]) (.inr rfl) nF6 hD5
                    have E7' := E7 O fun a h z => nO (z ▸ h)
                    have s8 := s7.wiped vs
                    rw [hw2] at s8
                    have rl8 : RepL X.K F6 (upd H5 Dl (.lst (accV ++ [v]))) (accD ++ [r.d]) (accV ++ [v]) := RepL.ext E7' _ _ (rl6.append (RepL.cons r6 RepL.nil))
                    refine ⟨accV, hD5, by rw [hlen]; exact hsz, F6, wipeD env5 vs, accD ++ [r.d], accV ++ [v], ?_, s8, upd_same, rl8, nF6, wipeD_none, hl⟩
                    exact (((E'.trans (E2.mono EO)).trans (E4.mono EO)).trans ((E5.trans E6).mono EO)).trans E7'
                  · cases hl
/-- the block's context -/
abbrev InBlk (X : Cx) (scope : Scope) (P : Cx → Prop) : Prop := ∀ (s : Shared) (H : Hp) (C : Addr) (cl : List (Str × Addr)) (fp : List Addr), P (X.blk s H scope (compEnvC scope cl C X.env) fp)
abbrev W0 : WX := fun _ _ _ _ => False
theorem e_comp {elt tg iter : Expr} {scope : Scope} {own : List (Str × Nat)} {vs : List Nat} {pos : Pos} {mi : DI} {g : DG} {me : DE} (hc : X.calm = true) (hN : X.N.Nodup) (ok : BlkOk X.N X.env.scope scope own) (hi : DIt X W tg iter mi)
    (hg : InBlk X scope fun Y => DTg Y (notIn vs) tg g) (he : InBlk X scope fun Y => DEv Y W0 elt me) (hs : ∀ x, foldedSetIterable iter X.env x = pure x := by intro _; rfl) (hvs : own.map (·.2) = vs := by rfl) :
    DEv X W (.ListComp elt [⟨tg, iter, [], 0⟩] scope pos) (dComp vs mi g dYes me) := by
  subst hvs
  obtain ⟨wi, p, s⟩ := hi
  refine ⟨_, pe_lc hc hN p ok (fun s H C cl fp => (hg s H C cl fp).pg) (tt := tOfT X W0 dYes) (fun s H C cl fp => ?_) (fun s H C cl fp => (he s H C cl fp).pe) hs, sem_comp s⟩
  exact ⟨fun pins s0 σ H' Q I ⟨O, F, env, st, g0⟩ => pts_nil.run pins s0 σ H' Q I (g0 F H' Ext.refl st)⟩
theorem e_compIf {elt tg iter cond : Expr} {scope : Scope} {own : List (Str × Nat)} {vs : List Nat} {pos : Pos} {mi : DI} {g : DG} {mc : DT} {me : DE} (hc : X.calm = true) (hN : X.N.Nodup) (ok : BlkOk X.N X.env.scope scope own) (hi : DIt X W tg iter mi)
    (hg : InBlk X scope fun Y => DTg Y (notIn vs) tg g) (ht : InBlk X scope fun Y => DTst Y W0 cond mc) (he : InBlk X scope fun Y => DEv Y W0 elt me) (hs : ∀ x, foldedSetIterable iter X.env x = pure x := by intro _; rfl) (hvs : own.map (·.2) = vs := by rfl) :
    DEv X W (.ListComp elt [⟨tg, iter, [cond], 0⟩] scope pos) (dComp vs mi g mc me) := by
  subst hvs
  obtain ⟨wi, p, s⟩ := hi
  exact ⟨_, pe_lc hc hN p ok (fun s H C cl fp => (hg s H C cl fp).pg) (fun s H C cl fp => pts_one (ht s H C cl fp).pt) (fun s H C cl fp => (he s H C cl fp).pe) hs, sem_comp s⟩
/-- name = [..] -/
theorem s_setComp (i : Nat) {y : Str} {py : Pos} {elt tg iter : Expr} {scope : Scope} {own : List (Str × Nat)} {vs : List Nat} {pos spos : Pos} {mi : DI} {g : DG} {me : DE} (hc : X.calm = true) (hN : X.N.Nodup) (ok : BlkOk X.N X.env.scope scope own) (hi : DIt X W tg iter mi)
    (hg : InBlk X scope fun Y => DTg Y (notIn vs) tg g) (he : InBlk X scope fun Y => DEv Y W0 elt me)
    (hsw : swapsWith (.ListComp elt [⟨tg, iter, [], 0⟩] scope pos) (some (.Name y py)) spos.line X.env = pure true)
    (hy : X.N[i]? = some y := by rfl) (hyl : X.env.scope.names.lookup y = some .local := by rfl) (hB : B i = false := by rfl) (hs : ∀ x, foldedSetIterable iter X.env x = pure x := by intro _; rfl) (hvs : own.map (·.2) = vs := by rfl) :
    DSt X W B (.Assign [.Name y py] (.ListComp elt [⟨tg, iter, [], 0⟩] scope pos) spos) (dSet i (dComp vs mi g dYes me)) := by
  subst hvs
  obtain ⟨wi, p, s⟩ := hi
  refine ⟨_, ps_setLc hc hN hy hyl hsw p ok (fun s H C cl fp => (hg s H C cl fp).pg) (tt := tOfT X W0 dYes) (fun s H C cl fp => ?_) (fun s H C cl fp => (he s H C cl fp).pe) hs, sem_set (sem_comp s) hB⟩
  exact ⟨fun pins s0 σ H' Q I ⟨O, F, env, st, g0⟩ => pts_nil.run pins s0 σ H' Q I (g0 F H' Ext.refl st)⟩
theorem s_setCompIf (i : Nat) {y : Str} {py : Pos} {elt tg iter cond : Expr} {scope : Scope} {own : List (Str × Nat)} {vs : List Nat} {pos spos : Pos} {mi : DI} {g : DG} {mc : DT} {me : DE} (hc : X.calm = true) (hN : X.N.Nodup) (ok : BlkOk X.N X.env.scope scope own) (hi : DIt X W tg iter mi)
    (hg : InBlk X scope fun Y => DTg Y (notIn vs) tg g) (ht : InBlk X scope fun Y => DTst Y W0 cond mc) (he : InBlk X scope fun Y => DEv Y W0 elt me)
    (hsw : swapsWith (.ListComp elt [⟨tg, iter, [cond], 0⟩] scope pos) (some (.Name y py)) spos.line X.env = pure true)
    (hy : X.N[i]? = some y := by rfl) (hyl : X.env.scope.names.lookup y = some .local := by rfl) (hB : B i = false := by rfl) (hs : ∀ x, foldedSetIterable iter X.env x = pure x := by intro _; rfl) (hvs : own.map (·.2) = vs := by rfl) :
    DSt X W B (.Assign [.Name y py] (.ListComp elt [⟨tg, iter, [cond], 0⟩] scope pos) spos) (dSet i (dComp vs mi g mc me)) := by
  subst hvs
  obtain ⟨wi, p, s⟩ := hi
  exact ⟨_, ps_setLc hc hN hy hyl hsw p ok (fun s H C cl fp => (hg s H C cl fp).pg) (fun s H C cl fp => pts_one (ht s H C cl fp).pt) (fun s H C cl fp => (he s H C cl fp).pe) hs, sem_set (sem_comp s) hB⟩
end
end DL
/-! DLG: the layer's promises where it is known besides that nothing is being written out (repr) around. -/
namespace DL
open PySem PySem.Spec PyProof.Rows L2

structure GRoom (k : Nat) (A : Around) : Prop where
  room : Room k A
  gd : A.guards = some []
theorem GRoom.mono {j k : Nat} {A : Around} (r : GRoom k A) (h : j ≤ k) : GRoom j A := ⟨r.room.mono h, r.gd⟩
theorem GRoom.deeper {k : Nat} {A : Around} (r : GRoom (k + 1) A) (env : Env) : GRoom k (A.deeper env) := ⟨r.room.deeper env, r.gd⟩

/-- a def of the text, with defaults or none -/
structure FunV (K : PySem.W.Frag) (x qual : Str) (st : Stmt) (f : Addr) (fd : FuncData) : Prop where
  ex : ∃ (oc : Value) (od : Option Addr) (dV kV doc pm : Value) (an : Option Addr) (cdv ct : Value) (osl : Array (Option Value)),
    fd = PySem.W.fnOf x qual (defArgs st) (defBody st) (defScope st) dV kV doc pm an cdv ct ∧ K.lookup f = some ⟨oc, od, .func fd, osl⟩ ∧ PySem.W.codeIn K cdv qual = true
  kp : PySem.W.keepIn K (.ref f) = true
theorem L2Fun.v {K : PySem.W.Frag} {x qual : Str} {st : Stmt} {f : Addr} {fd : FuncData} (F : Fun K x qual st f fd) : FunV K x qual st f fd := by
  obtain ⟨oc, od, kV, doc, pm, an, cdv, ct, osl, e, lk, hcd⟩ := F.ex
  exact ⟨⟨oc, od, .none, kV, doc, pm, an, cdv, ct, osl, e, lk, hcd⟩, F.kp⟩
theorem funv_mk {K : PySem.W.Frag} {x qual : Str} {st : Stmt} {f : Addr} {oc : Value} {od an : Option Addr} {osl : Array (Option Value)} {dV kV doc pm cdv ct : Value} (l : K.lookup f = some ⟨oc, od, .func (PySem.W.fnOf x qual (defArgs st) (defBody st) (defScope st) dV kV doc pm an cdv ct), osl⟩)
    (c : PySem.W.codeIn K cdv qual = true) (k : PySem.W.keepIn K (.ref f) = true) : FunV K x qual st f (PySem.W.fnOf x qual (defArgs st) (defBody st) (defScope st) dV kV doc pm an cdv ct) := ⟨⟨oc, od, dV, kV, doc, pm, an, cdv, ct, osl, rfl, l, c⟩, k⟩
theorem FunV.binds {K : PySem.W.Frag} {x qual : Str} {st : Stmt} {f : Addr} {fd : FuncData} {ps : List Str} (F : FunV K x qual st f fd)
    (h : ∀ (dV kV doc pm : Value) (an : Option Addr) (cdv ct : Value) (us : List Value), us.length = ps.length → bindArgs (PySem.W.fnOf x qual (defArgs st) (defBody st) (defScope st) dV kV doc pm an cdv ct) ⟨us, []⟩ = pure (ps.zip us)) : Binds K fd ps [] := by
  obtain ⟨oc, od, dV, kV, doc, pm, an, cdv, ct, osl, rfl, lk, hcd⟩ := F.ex
  exact .all (h dV kV doc pm an cdv ct)
/-- a def with defaults, all its arguments written -/
theorem bindsF {K : PySem.W.Frag} {x qual : Str} {st : Stmt} {T : Addr} {o : Obj} {its : Array Value} {n : Nat} {kV doc pm : Value} {an : Option Addr} {cdv ct : Value} {ps : List Str} (lT : K.lookup T = some o) (oT : o.data = .seq its n)
    (h : ∀ us : List Value, us.length = ps.length → ∃ k, bindArgs (PySem.W.fnOf x qual (defArgs st) (defBody st) (defScope st) (.ref T) kV doc pm an cdv ct) ⟨us, []⟩ = seqItems? (.ref T) >>= k ∧ k (some its) = pure (ps.zip us)) : Binds K (PySem.W.fnOf x qual (defArgs st) (defBody st) (defScope st) (.ref T) kV doc pm an cdv ct) ps [] := fun s us X hlen => by
  rw [List.append_nil] at hlen
  obtain ⟨k, e1, e2⟩ := h us hlen
  refine BindsTo.of_looks fun M => ?_
  rw [e1, List.append_nil]
  exact looks_items X lT oT (.of_pure e2)
/-- a def keeps a promise, called where nothing is being written out -/
structure GOk (P : Program) (w : World) (K : PySem.W.Frag) (mg : Str → Option Value) (base : Heap) (k : Nat) (f : Addr) (fd : FuncData) (ps : List Str) (sp : Sp) : Prop where
  len : ∀ vs H Q E, sp vs H Q E → vs.length = ps.length
  run : ∀ (A : Around) (outer : List Env) (s : Shared) (H : Hp) (args : Args) (us : List Value) (vs : List V) (Q : VK) (E : XK), GRoom k A → Env0 P w K mg base A outer s H → BindsTo s fd args (ps.zip us) → Vals vs us → sp vs H Q E →
    codeAny (model P w) A (.call (.ref f) args) (CR (L2.CX P w) outer P w H s Q E) s
section
variable {P : Program} {w : World} {K : PySem.W.Frag} {mg : Str → Option Value} {base : Heap}
theorem GOk.mono {j k : Nat} {f : Addr} {fd : FuncData} {ps : List Str} {sp : Sp} (F : GOk P w K mg base j f fd ps sp) (h : j ≤ k) : GOk P w K mg base k f fd ps sp :=
  ⟨F.len, fun A outer s H args us vs Q E hr => F.run A outer s H args us vs Q E (hr.mono h)⟩
/-- by the body -/
theorem GOk.of {x qual : Str} {st : Stmt} {f : Addr} {fd : FuncData} {N ps : List Str} {k : Nat} {sp : Sp} (Fn : FunV K x qual st f fd) (S : FnScope N ps (defScope st)) (len : ∀ vs H Q E, sp vs H Q E → vs.length = ps.length)
    (hbody : ∀ (cdv : Value) (A : Around) (outer : List Env) (s : Shared) (H : Hp) (vs : List V) (Q : VK) (E : XK), GRoom k (A.deeper (envOfC qual (defScope st) s.heap.objs.size f cdv)) → sp vs H Q E →
      ∃ t, PSs (cxOf (L2.CX P w) P w K mg base N qual (defScope st) f cdv A outer s H E) (defBody st) t ∧ t { nx := fun _ H' => Q .non H', rt := Q } (L2.start N vs) H) : GOk P w K mg base (k + 1) f fd ps sp := by
  obtain ⟨oc, od, dV, kV, doc, pm, an, cdv, ct, osl, rfl, lk, hcd⟩ := Fn.ex
  refine ⟨len, fun A outer s H args us vs Q E hr e0 hb r hsp => ?_⟩
  have keep : ∀ b o, base.get? b = some o → s.heap.get? b = some o := fun b o e => (e0.bs b o e).1
  have KX : K.In s.heap := e0.mod.kin.keeps keep
  refine codeAny_call_function hr.room.depth (KX _ _ lk) rfl S.co S.gen rfl (PySem.W.codeRec_of KX hcd) (hb _ _ _ _ ?_)
  refine wpAny_newFunctionEnv_cells S.kind (fun ⟨n, v⟩ hy => ?_) fun env he s1 x => ?_
  · have hn := S.par n (List.of_mem_zip hy).1
    exact hn.imp id fun q => ⟨q, PySem.W.cellsFrom_some _ _ _ (.inl q)⟩
  · subst he
    refine ⟨(e0.mod.nolimit.keeps keep).keeps x.toInCall.keep, codeAny_func ?_⟩
    obtain ⟨t, ht, hq⟩ := hbody cdv A outer s H vs Q E (hr.deeper _) hsp
    have I := inv_start (CX := L2.CX P w) (E := E) S hr.room.hd e0 (len _ _ _ _ hsp) r x
    refine wpAny_mono (ht.run [] s1 (L2.start N vs) H _ I hq) (fun fl s' hs => ?_) fun e s' hs => hs
    cases fl with
    | ret u => exact let ⟨v, _, H', J, rv, q⟩ := hs; ⟨v, H', J.os, J.bare, J.base, J.hok, rv, q⟩
    | next => exact let ⟨_, H', J, q⟩ := hs; ⟨V.non, H', J.os, J.bare, J.base, J.hok, rfl, q⟩
    | brk => exact let ⟨_, _, _, q⟩ := hs; q.elim
    | cont => exact let ⟨_, _, _, q⟩ := hs; q.elim
end

section
variable {X : Cx} {W : WX}
/-- the callee runs; what it lets out is taken as W says -/
theorem g_run {k : Nat} {f : Addr} {fd : FuncData} {ps : List Str} {sp : Sp} {pins : List (Addr × Obj)} {σ : L2.St} {H : Hp} {s : Shared} {Q : VK} {us : List Value} {vs : List V} {args : Args} (F : GOk X.prog X.w X.K X.mg X.base k f fd ps sp) (hr : GRoom k X.A) (tk : Takes X W)
    (I : L2.Inv X pins σ H s) (hb : BindsTo s fd args (ps.zip us)) (r : Vals vs us) (h : sp vs H Q (WE W σ)) : codeAny (model X.prog X.w) X.A (.call (.ref f) args) (fun res s' => match res with
      | .ok (.ret u) => EP X pins σ Q u s'
      | .ok _ => False
      | .error e => X.xe e s') s := by
  refine codeAny_mono (F.run X.A X.stack s H args us vs Q (WE W σ) hr I.env0 hb r h) fun res s' hq => ?_
  match res, hq with
  | .error e, hq => exact passAt tk σ pins H s e s' I hq
  | .ok (.ret u), hq => exact I.after hq
end

/-! ### the law's own call -/

section
open Classical in
/-- the abstract heap at the law's entry: the script, where the module does not hold it -/
noncomputable def lawH (K : PySem.W.Frag) (a : Addr) (ob : Obj) (ns : List Int) : Hp := fun b => if b = a ∧ K.lookup a = none then some (.frz ob (.lst (ns.map V.int))) else none
theorem lawH_some {K : PySem.W.Frag} {a b : Addr} {ob : Obj} {ns : List Int} {u : HO} (h : lawH K a ob ns b = some u) : b = a ∧ K.lookup a = none ∧ u = .frz ob (.lst (ns.map V.int)) := by
  unfold lawH at h
  split at h
  · rename_i z
    cases h
    exact ⟨z.1, z.2, rfl⟩
  · cases h
theorem g_law {P : Program} {w : World} {K : PySem.W.Frag} {mg mb : Str → Option Value} {k : Nat} {fa a : Addr} {fd : FuncData} {x : Str} {sp : Sp} {s₁ : Shared} {vs : List Value} {ns : List Int}
    (KX : K.In s₁.heap) (hns : s₁.heap.Ns mainGlobals mg) (hb : s₁.heap.Ns builtinsNs mb) (hbb : ∀ x : Str, x ≠ "__name__" → mb x = bootBuiltins x) (hlim : s₁.heap.NoLimit) (hg : s₁.gens = #[])
    (ha : s₁.heap.get? a = some { cls := .type "list", data := .seq vs.toArray }) (hi : IntsAre vs ns) (hl : ns.length ≤ sizeLine) (hr : Room k callerA)
    (F : ∀ base : Heap, K.In base → base.Ns mainGlobals mg → GOk P w K mg base k fa fd [x] sp) (hbind : ∀ (s : Shared) (u : Value), BindsTo s fd ⟨[u], []⟩ [(x, u)])
    (hsp : ∀ H : Hp, SqF K H a (ns.map V.int) → sp [.ref a] H (fun v _ => v = .bl true) fun _ _ _ => False) :
    codeAny (model P w) callerA (.call (.ref fa) ⟨[.ref a], []⟩) (fun r s' => r = .ok (.ret (.bool true)) ∧ OldK s₁.heap s'.heap ∧ s'.os = s₁.os ∧ AllBare s'.gens) s₁ := by
  have rv := vals_ints hi
  have lenV := hi.length
  let ob : Obj := { cls := .type "list", data := .seq vs.toArray }
  let H := lawH K a ob ns
  have hS : SqF K H a (ns.map V.int) := by
    cases q : K.lookup a with
    | none => exact .inl ⟨ob, if_pos ⟨rfl, q⟩⟩
    | some o =>
      have e := KX a o q
      rw [ha] at e
      cases e
      exact .inr ⟨_, vs.toArray, _, q, rfl, rfl, rfl, by rw [List.size_toArray, lenV]; exact hl, by simpa using rv⟩
  have hok : HOk P w H s₁.heap := fun b u e => by
    obtain ⟨rfl, _, rfl⟩ := lawH_some e
    exact ⟨ha, by rw [List.length_map]; exact hl, vs, _, rv, ha⟩
  -- what isn't the script's list is not tracked
  have free : ∀ {b : Addr} {o : Obj}, s₁.heap.get? b = some o → (∀ its n, o.data ≠ .seq its n) → H b = none := fun {b o} e d => by
    cases q : H b with
    | none => rfl
    | some u =>
      obtain ⟨rfl, _, _⟩ := lawH_some q
      rw [ha] at e
      cases e
      exact absurd rfl (d _ _)
  have ns' : ∀ {b : Addr} {m : Str → Option Value}, s₁.heap.Ns b m → (hidT s₁.heap H).Ns b m := fun {b m} ⟨o, es, ep, e, d, r⟩ => ⟨o, es, ep, hidT_get e (free e fun _ _ z => by rw [d] at z; cases z), d, r⟩
  have kin : K.In (hidT s₁.heap H) := fun b o e => hidT_get (KX b o e) (by
    cases q : H b with
    | none => rfl
    | some u =>
      obtain ⟨rfl, z, _⟩ := lawH_some q
      rw [z] at e
      cases e)
  obtain ⟨mc, l1, l2⟩ := hlim
  have e0 : Env0 P w K mg (hidT s₁.heap H) callerA [] s₁ H := ⟨rfl, ⟨kin, ns' hns, ⟨mb, ns' hb, hbb⟩, ⟨mc, ns' l1, l2⟩⟩, fun b o e => of_hidT e, Nat.le_of_eq (hidT_size _ _), trivial, fun b hb => (List.not_mem_nil hb).elim, hok, .of_eq hg⟩
  refine codeAny_mono ((F _ kin (ns' hns)).run callerA [] s₁ H ⟨[.ref a], []⟩ [.ref a] [.ref a] _ _ ⟨hr, rfl⟩ e0 (hbind s₁ (.ref a)) (.cons rfl .nil) (hsp H hS)) fun r s' h => ?_
  match r, h with
  | .error e, h =>
    obtain ⟨_, _, _, _, _, _, _, _, _, _, _, _, z⟩ := h
    exact z.elim
  | .ok (.ret u), h =>
    obtain ⟨v, H', os, bare, un, hok', r', q⟩ := h
    have q' : v = .bl true := q
    subst q'
    obtain rfl : u = Value.bool true := r'
    refine ⟨rfl, OldK.of_keep fun b o e => ?_, os, bare⟩
    cases q : H b with
    | none => exact un.keep b o e q List.not_mem_nil List.not_mem_nil
    | some u =>
      obtain ⟨rfl, z, rfl⟩ := lawH_some q
      obtain ⟨e2, _⟩ := hok' b _ (un.frzs b ob _ q)
      rw [ha] at e
      cases e
      exact e2
/-- the goal that k_head leaves, from the law's promise -/
theorem g_walk {l : PySem.W.OpenLaw} {n k : Nat} {q : Program} {loose : List Str} {XP : (Str → Option Value) → Heap → Prop} {YP : World → Heap → Prop} {d : DefRec} {K : Params → PySem.W.Frag} {sp : PySem.W.Frag → (Str → Option Value) → Sp} {x : Str}
    (hn : l.most = some n) (hn2 : n ≤ sizeLine) (hdf : d.params.defaults = []) (hr : Room k callerA)
    (hY : ∀ (w : World) (h : Heap), YP w h → (K w.params).In h)
    (F : ∀ (w : World) (mg : Str → Option Value) (fa : Addr) (h : Heap), (K w.params).In h → h.Ns mainGlobals mg → mg d.name = some (.ref fa) →
      ∃ fd : FuncData, (∀ (s : Shared) (u : Value), BindsTo s fd ⟨[u], []⟩ [(x, u)]) ∧
        ∀ base : Heap, (K w.params).In base → base.Ns mainGlobals mg → GOk l.prog w (K w.params) mg base k fa fd [x] (sp (K w.params) mg))
    (hsp : ∀ (K : PySem.W.Frag) (mg : Str → Option Value) (H : Hp) (a : Addr) (ns : List Int), ns.length ≤ n → SqF K H a (ns.map V.int) → sp K mg [.ref a] H (fun v _ => v = .bl true) fun _ _ _ => False) :
    PySem.W.WalkO q loose XP YP l.row.toRowW d [] (fun f vs => PySem.call f vs) := by
  refine Att.attach_call hn hdf fun w s₀ s₁ mg mb fa o pm cd doc a vs ns G Y ho hd hcd hmg hobj hints hlen hg => ?_
  have KX := hY w _ Y
  obtain ⟨fd, hb, hF⟩ := F w mg fa _ KX G.T.g hmg
  exact g_law KX G.T.g G.T.b G.T.builtins G.T.nolimit hg hobj hints (Nat.le_trans hlen hn2) hr hF hb fun H hS => hsp _ _ H a ns hlen hS
end
end DL
/-! DL6: defs and their calls. -/
namespace DL
open PySem PySem.Spec PyProof.Rows L2

/-! ### what a def is worth: br: its first argument is a list that it may change, and hands back changed -/
inductive FR where
  | ok (r : Ent) (o : D) | err (x : Xc) (o : D) | bad
abbrev DFn := List Ent → FR
def outEnv (br : Bool) (o : D) : DEnv := if br = true then [some ⟨.own, o⟩] else []
def outSt (br : Bool) (vs : List V) : L2.St := if br = true then (vs.take 1).map some else []
def FPost (K : PySem.W.Frag) (mg : Str → Option Value) (br : Bool) (O F : Fz) (H : Hp) (vs : List V) (Q : VK) (E : XK) : FR → Prop
  | .ok r o => ∀ F' H' v, Ext O F H F' H' → StOk K O F' H' (outSt br vs) (outEnv br o) → REnt K O F' H' (outSt br vs) (outEnv br o) r v → Q v H'
  | .err x o => ∀ F' H' cls d, Ext O F H F' H' → StOk K O F' H' (outSt br vs) (outEnv br o) → ExcRep mg F' H' x cls d → E cls d H'
  | .bad => False
/-- the promise -/
def spD (K : PySem.W.Frag) (mg : Str → Option Value) (br : Bool) (n : Nat) (f : DFn) : Sp := fun vs H Q E => ∃ O F args, args.length = n ∧ StOk K O F H (vs.map some) (args.map some) ∧ FPost K mg br O F H vs Q E (f args)
def outOf (br : Bool) (env : DEnv) : Option D := if br = true then (match (env[0]? : Option (Option Ent)) with
  | some (some (Ent.mk Md.own d)) => some d
  | _ => none) else some .non
def dDef (br : Bool) (n ns : Nat) (body : DS) : DFn := fun args => if args.length = n then (match body (args.map some ++ List.replicate (ns - n) none) with
  | .ok (.ret e) env => (match outOf br env with
    | some o => .ok e o
    | none => .bad)
  | .ok .nx env => (match outOf br env with
    | some o => .ok ⟨.shr, .non⟩ o
    | none => .bad)
  | .err x env => (match outOf br env with
    | some o => .err x o
    | none => .bad)
  | _ => .bad) else .bad
def BDef (br : Bool) : Bs := fun i => br && i == 0
abbrev WDef (E : XK) : WX := fun cls d _ H => E cls d H
section
variable {K : PySem.W.Frag} {O F F' : Fz} {H H' : Hp} {σ : L2.St} {env : DEnv}
theorem stOk_nil (s : StOk K O F H σ env) : StOk K O F H [] [] :=
  ⟨rfl, fun i d q => (by simp at q), fun i m d q _ => (by simp at q), fun i j a ⟨m, d, q, _⟩ => (by simp at q), s.fdom, s.odom⟩
/-- slots without a value beside -/
theorem stOk_start (s : StOk K O F H σ env) (n : Nat) : StOk K O F H (σ ++ List.replicate n none) (env ++ List.replicate n none) := by
  have g : ∀ {i : Nat} {x : Ent}, (env ++ List.replicate n none)[i]? = some (some x) → env[i]? = some (some x) := fun {i x} q => by
    by_cases h : i < env.length
    · rw [List.getElem?_append_left h] at q; exact q
    · rw [List.getElem?_append_right (by omega)] at q
      rw [List.getElem?_replicate] at q
      split at q <;> cases q
  have l : ∀ {i : Nat} {x : Ent} (_ : env[i]? = some (some x)), (σ ++ List.replicate n none)[i]? = σ[i]? := fun {i x} q => by
    have : i < env.length := (List.getElem?_eq_some_iff.mp q).1
    exact List.getElem?_append_left (by rw [s.len]; exact this)
  refine ⟨by rw [List.length_append, List.length_append, s.len, List.length_replicate, List.length_replicate], fun i d q => ?_, fun i m d q hm => ?_, fun i j a ⟨m, d, h1, h2, h3⟩ ⟨m', d', k1, k2, k3⟩ => ?_, s.fdom, s.odom⟩
  · obtain ⟨v, h1, h2⟩ := s.shr i d (g q)
    exact ⟨v, by rw [l (g q)]; exact h1, h2⟩
  · obtain ⟨a, vs, ds, h1, h2, h3⟩ := s.own i m d (g q) hm
    exact ⟨a, vs, ds, h1, by rw [l (g q)]; exact h2, h3⟩
  · exact s.inj i j a ⟨m, d, g h1, h2, by rw [← l (g h1)]; exact h3⟩ ⟨m', d', g k1, k2, by rw [← l (g k1)]; exact k3⟩
/-- at the end: what the first name owns -/
theorem stOk_out {br : Bool} {vs : List V} {o : D} {σ0 : L2.St} (s : StOk K O F H σ env) (k : Keeps (BDef br) σ0 σ) (h0 : br = true → σ0[0]? = (vs.map some)[0]?) (ho : outOf br env = some o) : StOk K O F H (outSt br vs) (outEnv br o) := by
  cases br with
  | false => exact stOk_nil s
  | true =>
    simp only [outOf, if_true] at ho
    split at ho
    · rename_i d hd
      cases ho
      obtain ⟨a, ws, ds, h1, h2, h3, h4, h5, h6⟩ := s.own 0 .own o hd nofun
      have hv : (vs.map some)[0]? = some (some (V.ref a)) := by rw [← h0 rfl, ← k.2 0 rfl]; exact h2
      cases vs with
      | nil => cases hv
      | cons v vs =>
        have hv' : v = V.ref a := by simpa using hv
        subst hv'
        refine ⟨rfl, fun i d q => ?_, fun i m d q hm => ?_, fun i j b ⟨m, d, q1, _, _⟩ ⟨m', d', q2, _, _⟩ => ?_, s.fdom, s.odom⟩
        · cases i with
          | zero => simp [outEnv] at q
          | succ i => simp [outEnv] at q
        · cases i with
          | zero =>
            simp [outEnv] at q
            obtain ⟨rfl, rfl⟩ := q
            exact ⟨a, ws, ds, h1, rfl, h3, h4, h5, h6⟩
          | succ i => simp [outEnv] at q
        · have z : ∀ {i : Nat} {x : Ent}, (outEnv true o)[i]? = some (some x) → i = 0 := fun {i x} q => by
            cases i with
            | zero => rfl
            | succ i => simp [outEnv] at q
          rw [z q1, z q2]
    · cases ho
theorem rent_out {br : Bool} {vs : List V} {o : D} {σ0 : L2.St} {e : Ent} {v : V} (s : StOk K O F H σ env) (k : Keeps (BDef br) σ0 σ) (h0 : br = true → σ0[0]? = (vs.map some)[0]?) (ho : outOf br env = some o) (r : REnt K O F H σ env e v) : REnt K O F H (outSt br vs) (outEnv br o) e v := by
  have own : (∃ a vs ds, e.d = D.lst ds ∧ v = .ref a ∧ H a = some (.lst vs) ∧ RepL K F H ds vs ∧ ¬ F a ∧ ¬ O a ∧ ∀ i, ¬ OwnAt env σ i a) → ∃ a ws ds, e.d = D.lst ds ∧ v = .ref a ∧ H a = some (.lst ws) ∧ RepL K F H ds ws ∧ ¬ F a ∧ ¬ O a ∧ ∀ i, ¬ OwnAt (outEnv br o) (outSt br vs) i a := fun ⟨a, ws, ds, e1, e2, h, rl, nF, nO, nW⟩ => by
    refine ⟨a, ws, ds, e1, e2, h, rl, nF, nO, fun i ⟨m, d, q1, q2, q3⟩ => ?_⟩
    cases br with
    | false => simp [outEnv] at q1
    | true =>
      cases i with
      | succ i => simp [outEnv] at q1
      | zero =>
        simp only [outOf, if_true] at ho
        split at ho
        · rename_i d' hd
          cases ho
          refine nW 0 ⟨.own, o, hd, nofun, ?_⟩
          rw [k.2 0 rfl, h0 rfl]
          cases vs with
          | nil => simp [outSt] at q3
          | cons v vs => simpa [outSt] using q3
        · cases ho
  obtain ⟨m, d⟩ := e
  cases m with
  | shr => exact r
  | own => exact own r
  | bor => exact own r
end

/-- THE RULE for a def: its body's worth -/
theorem def_ok {P : Program} {w : World} {K : PySem.W.Frag} {mg : Str → Option Value} {base : Heap} {name qual : Str} {st : Stmt} {f : Addr} {fd : FuncData} {N ps : List Str} {k : Nat} {br : Bool} {m : DS} (Fn : FunV K name qual st f fd) (S : FnScope N ps (defScope st)) (hbr : br = true → 0 < ps.length)
    (hbody : ∀ (cdv : Value) (A : Around) (outer : List Env) (s : Shared) (H : Hp) (E : XK), GRoom k (A.deeper (envOfC qual (defScope st) s.heap.objs.size f cdv)) →
      DSs (cxOf (L2.CX P w) P w K mg base N qual (defScope st) f cdv A outer s H E) (WDef E) (BDef br) (defBody st) m) :
    GOk P w K mg base (k + 1) f fd ps (spD K mg br ps.length (dDef br ps.length N.length m)) := by
  refine GOk.of Fn S (fun vs H Q E h => ?_) fun cdv A outer s H vs Q E hr h => ?_
  · obtain ⟨O, F, args, hl, st, _⟩ := h
    have := st.len
    rw [List.length_map, List.length_map, hl] at this
    exact this
  · obtain ⟨O, F, args, hl, st, post⟩ := h
    obtain ⟨t, p, sem⟩ := hbody cdv A outer s H E hr
    refine ⟨t, p, ?_⟩
    have lv : vs.length = ps.length := by
      have := st.len
      rw [List.length_map, List.length_map, hl] at this
      exact this
    have st0 := stOk_start st (N.length - ps.length)
    have e0 : L2.start N vs = vs.map some ++ List.replicate (N.length - ps.length) none := by unfold L2.start; rw [lv]
    rw [e0]
    have h0 : br = true → (vs.map some ++ List.replicate (N.length - ps.length) (none : Option V))[0]? = (vs.map some)[0]? := fun z => by
      cases vs with
      | nil =>
        have := hbr z
        rw [← lv] at this
        exact absurd this (Nat.lt_irrefl 0)
      | cons v vs => rfl
    refine sem O F _ H _ _ st0 ?_
    unfold dDef at post
    rw [if_pos hl] at post
    cases q : m (args.map some ++ List.replicate (N.length - ps.length) none) with
    | bad => rw [q] at post; exact post.elim
    | err x env =>
      rw [q] at post
      simp only [] at post
      cases ho : outOf br env with
      | none => rw [ho] at post; exact post.elim
      | some o =>
        rw [ho] at post
        exact fun F' H' σ' cls d E' s' k' r => post F' H' cls d E' (stOk_out s' k' h0 ho) r
    | ok fl env =>
      rw [q] at post
      cases fl with
      | brk => exact post.elim
      | cnt => exact post.elim
      | nx =>
        simp only [] at post
        cases ho : outOf br env with
        | none => rw [ho] at post; exact post.elim
        | some o =>
          rw [ho] at post
          exact fun F' H' σ' E' s' k' => post F' H' .non E' (stOk_out s' k' h0 ho) rfl
      | ret e =>
        simp only [] at post
        cases ho : outOf br env with
        | none => rw [ho] at post; exact post.elim
        | some o =>
          rw [ho] at post
          exact fun F' H' σ' v E' s' k' r => post F' H' v E' (stOk_out s' k' h0 ho) (rent_out s' k' h0 ho r)

theorem lenO : ∀ {os : List Opd} {avs : List AV} {env env1 : DEnv}, evOs os env = .ok avs env1 → avs.length = os.length
  | [], _, _, _, h => by cases h; rfl
  | .v m :: os, avs, env, env1, h => by
    unfold evOs at h
    cases q : m env with
    | bad => rw [q] at h; cases h
    | err x e => rw [q] at h; cases h
    | ok r e1 =>
      rw [q] at h
      simp only [R.bind] at h
      cases q2 : evOs os e1 with
      | bad => rw [q2] at h; cases h
      | err x e => rw [q2] at h; cases h
      | ok as e2 =>
        rw [q2] at h
        cases h
        rw [List.length_cons, List.length_cons, lenO q2]
  | .s i :: os, avs, env, env1, h => by
    unfold evOs at h
    split at h
    · cases q2 : evOs os env with
      | bad => rw [q2] at h; cases h
      | err x e => rw [q2] at h; cases h
      | ok as e2 =>
        rw [q2] at h
        cases h
        rw [List.length_cons, List.length_cons, lenO q2]
    · cases h
theorem lenG : ∀ {avs : List AV} {env : DEnv} {ds : List D}, getAVs env avs = some ds → ds.length = avs.length
  | [], _, _, h => by cases h; rfl
  | a :: as, env, ds, h => by
    unfold getAVs at h
    cases q : getAV env a with
    | none => rw [q] at h; cases h
    | some d =>
      cases q2 : getAVs env as with
      | none => rw [q, q2] at h; cases h
      | some es =>
        rw [q, q2] at h
        cases h
        rw [List.length_cons, List.length_cons, lenG q2]
theorem lenAV {os : List Opd} {avs : List AV} {env env1 : DEnv} {ds : List D} (h : evOs os env = .ok avs env1) (g : getAVs env1 avs = some ds) : ds.length = os.length := (lenG g).trans (lenO h)
/-! ### calls -/
@[simp] def shrs (ds : List D) : List Ent := ds.map fun d => ⟨.shr, d⟩
def afterC (env : DEnv) : FR → R Ent
  | .ok r _ => .ok r env
  | .err x _ => .err x env
  | .bad => .bad
def dCall (f : DFn) (os : List Opd) : DE := fun env => (evOs os env).bind fun avs env1 => match getAVs env1 avs with
  | some ds => afterC env1 (f (shrs ds))
  | none => .bad
def afterR (env : DEnv) (i : Nat) : FR → R Ent
  | .ok r o => .ok r (env.set i (some ⟨.own, o⟩))
  | .err x o => .err x (env.set i (some ⟨.own, o⟩))
  | .bad => .bad
/-- the first argument is the list that the i-th name owns: it comes back changed -/
def dCallR (f : DFn) (i : Nat) (os : List Opd) : DE := fun env => match (env[i]? : Option (Option Ent)) with
  | some (some (Ent.mk Md.own _)) => (evOs os env).bind fun avs env1 => match getAVs env1 avs, (env1[i]? : Option (Option Ent)) with
    | some ds, some (some (Ent.mk Md.own d)) => afterR env1 i (f (⟨.own, d⟩ :: shrs ds))
    | _, _ => .bad
  | _ => .bad
/-- what a caller's names own, but the i-th -/
def Oc (O : Fz) (env : DEnv) (σ : L2.St) (p : Nat → Prop) : Fz := fun a => O a ∨ ∃ j, p j ∧ OwnAt env σ j a
section
variable {K : PySem.W.Frag} {O F F' : Fz} {H H' : Hp} {σ : L2.St} {env : DEnv} {p : Nat → Prop}
theorem oc_dom (s : StOk K O F H σ env) : ∀ a, Oc O env σ p a → H a ≠ none := fun a h => by
  rcases h with h | ⟨j, _, m, d, q1, q2, q3⟩
  · exact s.odom a h
  · obtain ⟨b, vs, ds, _, e2, e3, _⟩ := s.own j m d q1 q2
    rw [q3] at e2; cases e2
    rw [e3]; exact nofun
theorem oc_nF (s : StOk K O F H σ env) {a : Addr} (h : ∃ j, p j ∧ OwnAt env σ j a) : ¬ F a := by
  obtain ⟨j, _, m, d, q1, q2, q3⟩ := h
  obtain ⟨b, vs, ds, _, e2, _, _, e5, _⟩ := s.own j m d q1 q2
  rw [q3] at e2; cases e2
  exact e5
theorem shrs_get {ds : List D} {i : Nat} {e : Ent} (h : ((shrs ds).map some)[i]? = some (some e)) : ∃ d, ds[i]? = some d ∧ e = ⟨.shr, d⟩ := by
  unfold shrs at h
  rw [List.map_map, List.getElem?_map] at h
  cases q : ds[i]? with
  | none => rw [q] at h; cases h
  | some d => rw [q] at h; cases h; exact ⟨d, rfl, rfl⟩
/-- the callee's entry -/
theorem stOk_args (s : StOk K O F H σ env) {ds : List D} {vs : List V} (r : RepL K F H ds vs) : StOk K (Oc O env σ p) F H (vs.map some) ((shrs ds).map some) := by
  refine ⟨by simp [shrs, r.length], fun i d q => ?_, fun i m d q hm => ?_, fun i j a ⟨m, d, q, hm, _⟩ => ?_, s.fdom, oc_dom s⟩
  · obtain ⟨d', h1, h2⟩ := shrs_get q
    cases h2
    obtain ⟨v, h3, h4⟩ := r.get h1
    exact ⟨v, by rw [List.getElem?_map, h3]; rfl, h4⟩
  · obtain ⟨d', h1, h2⟩ := shrs_get q
    cases h2
    exact absurd rfl hm
  · obtain ⟨d', h1, h2⟩ := shrs_get q
    cases h2
    exact absurd rfl hm
/-- the caller's names behind -/
theorem stOk_over (s : StOk K O F H σ env) (e : Ext (Oc O env σ p) F H F' H') (fd : ∀ a, F' a → H' a ≠ none) (hp : ∀ j, ¬ p j → ∀ x, env[j]? ≠ some (some x)) : StOk K O F' H' σ env := by
  refine ⟨s.len, fun i d q => let ⟨v, h1, h2⟩ := s.shr i d q; ⟨v, h1, Rep.ext e d v h2⟩, fun i m d q hm => ?_, s.inj, fd, fun a h => ?_⟩
  · obtain ⟨a, vs, ds, h1, h2, h3, h4, h5, h6⟩ := s.own i m d q hm
    have hpi : p i := Classical.byContradiction fun z => hp i z _ q
    have oa : Oc O env σ p a := .inr ⟨i, hpi, m, d, q, hm, h2⟩
    exact ⟨a, vs, ds, h1, h2, by rw [e.out a oa]; exact h3, RepL.ext e ds vs h4, fun z => h5 (e.outF a oa z), h6⟩
  · rw [e.out a (.inl h)]; exact s.odom a h
theorem oc_sub {a : Addr} (h : O a) : Oc O env σ p a := .inl h
end
section
variable {X : Cx} {W : WX} {B : Bs}
theorem call_core0 {f : DFn} {n : Nat} {O F : Fz} {H : Hp} {σ : L2.St} {env : DEnv} {ds : List D} {vs : List V} {Q : VK} (s : StOk X.K O F H σ env) (r : RepL X.K F H ds vs) (hn : ds.length = n) (g : EGoal X W O F σ H Q (afterC env (f (shrs ds)))) :
    spD X.K X.mg false n f vs H Q (WE W σ) := by
  refine ⟨Oc O env σ (fun _ => True), F, shrs ds, by simp [shrs, hn], stOk_args s r, ?_⟩
  have back : ∀ {F' H'}, Ext (Oc O env σ fun _ => True) F H F' H' → StOk X.K (Oc O env σ fun _ => True) F' H' [] [] → Ext O F H F' H' ∧ StOk X.K O F' H' σ env := fun {F' H'} e st =>
    ⟨e.mono fun a h => oc_sub h, stOk_over s e st.fdom fun j z => absurd trivial z⟩
  cases q : f (shrs ds) with
  | bad => rw [q] at g; exact g.elim
  | err x o =>
    rw [q] at g
    intro F' H' cls d e st x'
    obtain ⟨e', st'⟩ := back e st
    exact g F' H' cls d e' st' x'
  | ok r o =>
    rw [q] at g
    intro F' H' v e st rr
    obtain ⟨e', st'⟩ := back e st
    refine g F' H' v e' st' ?_
    have own : (∃ a vs ds, r.d = D.lst ds ∧ v = .ref a ∧ H' a = some (.lst vs) ∧ RepL X.K F' H' ds vs ∧ ¬ F' a ∧ ¬ Oc O env σ (fun _ => True) a ∧ ∀ i, ¬ OwnAt [] [] i a) →
        ∃ a vs ds, r.d = D.lst ds ∧ v = .ref a ∧ H' a = some (.lst vs) ∧ RepL X.K F' H' ds vs ∧ ¬ F' a ∧ ¬ O a ∧ ∀ i, ¬ OwnAt env σ i a := fun ⟨a, ws, es, h1, h2, h3, h4, h5, h6, _⟩ =>
      ⟨a, ws, es, h1, h2, h3, h4, h5, fun z => h6 (.inl z), fun i z => h6 (.inr ⟨i, trivial, z⟩)⟩
    obtain ⟨m, d⟩ := r
    cases m with
    | shr => exact rr
    | own => exact own rr
    | bor => exact own rr
def tCallG (sp : Sp) (W : WX) (t : TA) : TE := fun σ H Q => t σ H fun vs H1 => sp vs H1 Q (WE W σ)
theorem g_call {k : Nat} {f : Addr} {fd : FuncData} {ps : List Str} {sp : Sp} {x : Str} {e : Expr} {es : List Expr} {t : TA} {p pos : Pos} (F : GOk X.prog X.w X.K X.mg X.base k f fd ps sp) (hr : GRoom k X.A) (hg : Gl X x) (hm : X.mg x = some (.ref f)) (hk : PySem.W.keepIn X.K (.ref f) = true) (hb : Binds X.K fd ps []) (tk : Takes X W)
    (ha : PA X (e :: es) t) (hdb : (x == ("__debug__" : Str)) = false) (he : starEach (e :: es) X.env = (false, eval e X.env) :: starEach es X.env) (hpl : (backTo pos (starEach es X.env)).any (·.1) = false) :
    PE X (.Call (.Name x p) (e :: es) [] pos) (tCallG sp W t) := ⟨fun pins s σ H Q I h => by
  refine wpAny_Call_Name_kw (ld_glob I hg hm ?_ hdb)
  refine PySem.W.callWith_K (h₀ := X.base) I.ok.mod.kin hk (thn (ha.run pos pins s σ H _ I h) fun us s1 ⟨vs, H1, I1, r, q⟩ => ⟨I1.kIn, ?_⟩) he hpl
  have b := hb s1 us I1.kIn (by rw [List.append_nil, ← r.length]; exact F.len _ _ _ _ q)
  rw [List.append_nil] at b
  refine wpAny_call (codeAny_mono (g_run F hr tk I1 b r q) fun res s' hq => ?_)
  match res, hq with
  | .error e, hq => exact hq
  | .ok (.ret u), hq => exact hq⟩
/-- f(a, ..) -/
theorem e_call {k n : Nat} {f : Addr} {fd : FuncData} {ps : List Str} {fn : DFn} {x : Str} {e : Expr} {es : List Expr} {os : List Opd} {p pos : Pos} (F : GOk X.prog X.w X.K X.mg X.base k f fd ps (spD X.K X.mg false n fn)) (hr : GRoom k X.A) (hm : X.mg x = some (.ref f))
    (hk : PySem.W.keepIn X.K (.ref f) = true) (hb : Binds X.K fd ps []) (tk : Takes X W) (ha : DAs X W (e :: es) os) (hg : Gl X x := by rfl) (hv : allV os = true := by rfl) (hn : os.length = n := by rfl) (hdb : (x == ("__debug__" : Str)) = false := by decide)
    (he : starEach (e :: es) X.env = (false, eval e X.env) :: starEach es X.env := by rfl) (hpl : (backTo pos (starEach es X.env)).any (·.1) = false := by rfl) : DEv X W (.Call (.Name x p) (e :: es) [] pos) (dCall fn os) := by
  obtain ⟨t, h, s⟩ := ha
  refine ⟨_, g_call F hr hg hm hk hb tk h hdb he hpl, fun O F σ H env Q st g => ?_⟩
  refine s O F σ H env _ st ?_
  unfold dCall at g
  cases q : evOs os env with
  | bad => rw [q] at g; exact g.elim
  | err y e => rw [q] at g; exact g
  | ok avs env1 =>
    rw [q] at g
    simp only [R.bind] at g
    intro F1 H1 vs E1 s1 r1
    cases q2 : getAVs env1 avs with
    | none => rw [q2] at g; exact g.elim
    | some ds =>
      rw [q2] at g
      have rl := AVs.vals hv q r1 q2
      have hlen : ds.length = n := by
        rw [← hn]
        exact lenAV q q2
      exact call_core0 s1 rl hlen (EGoal.step E1 g)
end
end DL
/-! DL7: calls that change their first argument, calls by keywords, lists that are changed, errors raised. -/
namespace DL
open PySem PySem.Spec PyProof.Rows L2

section
variable {X : Cx} {W : WX} {B : Bs}
theorem s0v {K : PySem.W.Frag} {O F : Fz} {H : Hp} {σ : L2.St} {env : DEnv} {i : Nat} {e : Ent} (s : StOk K O F H σ env) (h : (env[i]? : Option (Option Ent)) = some (some e)) : ∃ v, σ[i]? = some (some v) ∧ RepT K F H e.d v := s.top h
theorem call_coreR {f : DFn} {n i : Nat} {O F : Fz} {H : Hp} {σ : L2.St} {env : DEnv} {ds : List D} {vs : List V} {v0 : V} {d0 : D} {Q : VK} (s : StOk X.K O F H σ env) (hi : env[i]? = some (some (Ent.mk Md.own d0))) (hv0 : σ[i]? = some (some v0)) (r : RepL X.K F H ds vs) (hn : ds.length + 1 = n)
    (g : EGoal X W O F σ H Q (afterR env i (f (⟨.own, d0⟩ :: shrs ds)))) : spD X.K X.mg true n f (v0 :: vs) H Q (WE W σ) := by
  obtain ⟨a0, ws0, es0, rfl, e2, h0, rl0, nF0, nO0⟩ := s.own i .own d0 hi nofun
  rw [hv0] at e2; cases e2
  have oi : OwnAt env σ i a0 := ⟨.own, _, hi, nofun, hv0⟩
  have nOc : ¬ Oc O env σ (fun j => j ≠ i) a0 := fun z => by
    rcases z with z | ⟨j, hj, z⟩
    · exact nO0 z
    · exact hj (s.inj j i a0 z oi)
  have sA := stOk_args (p := fun j => j ≠ i) s r
  have s1 : StOk X.K (Oc O env σ fun j => j ≠ i) F H ((V.ref a0 :: vs).map some) ((⟨.own, .lst es0⟩ :: shrs ds).map some) := by
    refine ⟨by simp [shrs, r.length], fun j d q => ?_, fun j m d q hm => ?_, fun j k a ⟨m, d, q1, q2, q3⟩ ⟨m', d', k1, k2, k3⟩ => ?_, s.fdom, sA.odom⟩
    · cases j with
      | zero => simp at q
      | succ j => exact sA.shr j d (by simpa using q)
    · cases j with
      | zero =>
        simp at q
        obtain ⟨rfl, rfl⟩ := q
        exact ⟨a0, ws0, es0, rfl, rfl, h0, rl0, nF0, nOc⟩
      | succ j => exact sA.own j m d (by simpa using q) hm
    · have z : ∀ {j : Nat} {m : Md} {d : D}, ((⟨.own, .lst es0⟩ :: shrs ds).map some)[j]? = some (some (Ent.mk m d)) → m ≠ Md.shr → j = 0 := fun {j m d} q hm => by
        cases j with
        | zero => rfl
        | succ j =>
          have q' : ((shrs ds).map some)[j]? = some (some (Ent.mk m d)) := by simpa using q
          obtain ⟨d', _, h2⟩ := shrs_get q'
          cases h2
          exact absurd rfl hm
      rw [z q1 q2, z k1 k2]
  refine ⟨_, F, ⟨.own, .lst es0⟩ :: shrs ds, by simp [shrs, hn], s1, ?_⟩
  have back : ∀ {F' H' o}, Ext (Oc O env σ fun j => j ≠ i) F H F' H' → StOk X.K (Oc O env σ fun j => j ≠ i) F' H' (outSt true (V.ref a0 :: vs)) (outEnv true o) → Ext O F H F' H' ∧ StOk X.K O F' H' σ (env.set i (some ⟨.own, o⟩)) := fun {F' H' o} e st => by
    refine ⟨e.mono fun a h => oc_sub h, ?_⟩
    obtain ⟨a, vs', es', rfl, k2, k3, k4, k5, k6⟩ := st.own 0 .own o rfl nofun
    cases k2
    have sd : StOk X.K O F H σ (env.set i none) := s.drop
    have e' : Ext (Oc O (env.set i none) σ fun j => j ≠ i) F H F' H' := e.mono fun a h => by
      rcases h with h | ⟨j, hj, m, d, q1, q2, q3⟩
      · exact .inl h
      · rw [List.getElem?_set_ne (Ne.symm hj)] at q1
        exact .inr ⟨j, hj, m, d, q1, q2, q3⟩
    have s2 : StOk X.K O F' H' σ (env.set i none) := stOk_over sd e' st.fdom fun j hj x q => by
      have : j = i := Classical.byContradiction fun z => hj z
      subst this
      have hl : j < env.length := (List.getElem?_eq_some_iff.mp hi).1
      rw [List.getElem?_set_self hl] at q; cases q
    have hl : i < σ.length := (List.getElem?_eq_some_iff.mp hv0).1
    have s3 := StOk.set (e := ⟨.own, .lst es'⟩) (v := .ref a0) (i := i) s2 ⟨a0, vs', es', rfl, rfl, k3, k4, k5, fun z => k6 (.inl z), fun j ⟨m, d, q1, q2, q3⟩ => by
      by_cases hj : j = i
      · subst hj
        have hl : j < env.length := (List.getElem?_eq_some_iff.mp hi).1
        rw [List.getElem?_set_self hl] at q1; cases q1
      · rw [List.getElem?_set_ne (Ne.symm hj)] at q1
        exact hj (s.inj j i a0 ⟨m, d, q1, q2, q3⟩ oi)⟩ hl
    rw [List.set_set] at s3
    have e3 : σ.set i (some (.ref a0)) = σ := by
      apply List.ext_getElem?
      intro j
      by_cases hj : j = i
      · subst hj; rw [List.getElem?_set_self hl, hv0]
      · rw [List.getElem?_set_ne (Ne.symm hj)]
    rw [e3] at s3
    exact s3
  cases q : f (⟨.own, .lst es0⟩ :: shrs ds) with
  | bad => rw [q] at g; exact g.elim
  | err x o =>
    rw [q] at g
    intro F' H' cls d e st x'
    obtain ⟨e', st'⟩ := back e st
    exact g F' H' cls d e' st' x'
  | ok r o =>
    rw [q] at g
    intro F' H' v e st rr
    obtain ⟨e', st'⟩ := back e st
    refine g F' H' v e' st' ?_
    have own : (∃ a vs1 ds, r.d = D.lst ds ∧ v = .ref a ∧ H' a = some (.lst vs1) ∧ RepL X.K F' H' ds vs1 ∧ ¬ F' a ∧ ¬ Oc O env σ (fun j => j ≠ i) a ∧ ∀ j, ¬ OwnAt (outEnv true o) (outSt true (V.ref a0 :: vs)) j a) →
        ∃ a vs ds, r.d = D.lst ds ∧ v = .ref a ∧ H' a = some (.lst vs) ∧ RepL X.K F' H' ds vs ∧ ¬ F' a ∧ ¬ O a ∧ ∀ j, ¬ OwnAt (env.set i (some ⟨.own, o⟩)) σ j a := fun ⟨a, ws, es, h1, h2, h3, h4, h5, h6, h7⟩ => by
      refine ⟨a, ws, es, h1, h2, h3, h4, h5, fun z => h6 (.inl z), fun j ⟨m, d, q1, q2, q3⟩ => ?_⟩
      by_cases hj : j = i
      · subst hj
        rw [hv0] at q3
        cases q3
        exact h7 0 ⟨.own, o, rfl, nofun, rfl⟩
      · rw [List.getElem?_set_ne (Ne.symm hj)] at q1
        exact h6 (.inr ⟨j, hj, m, d, q1, q2, q3⟩)
    obtain ⟨m, d⟩ := r
    cases m with
    | shr => exact rr
    | own => exact own rr
    | bor => exact own rr
/-- f(x, ..), x the list that a name owns, which f may change -/
theorem e_callR (i : Nat) {k n : Nat} {f : Addr} {fd : FuncData} {ps : List Str} {fn : DFn} {x y : Str} {es : List Expr} {os : List Opd} {p py pos : Pos} (F : GOk X.prog X.w X.K X.mg X.base k f fd ps (spD X.K X.mg true n fn)) (hr : GRoom k X.A) (hm : X.mg x = some (.ref f))
    (hk : PySem.W.keepIn X.K (.ref f) = true) (hb : Binds X.K fd ps []) (tk : Takes X W) (ha : DAs X W es os) (hg : Gl X x := by rfl) (hv : allV os = true := by rfl) (hn : os.length + 1 = n := by rfl) (hdb : (x == ("__debug__" : Str)) = false := by decide)
    (hN : X.N[i]? = some y := by rfl) (hvis : Vis X.env.scope y := by first | exact Or.inl rfl | exact Or.inr (Or.inl rfl) | exact Or.inr (Or.inr rfl)) (hd : (y == ("__debug__" : Str)) = false := by decide)
    (hcd : (y == ("__classdict__" : Str)) = false := by decide)
    (he : starEach (.Name y py :: es) X.env = (false, eval (.Name y py) X.env) :: starEach es X.env := by rfl) (hpl : (backTo pos (starEach es X.env)).any (·.1) = false := by rfl) : DEv X W (.Call (.Name x p) (.Name y py :: es) [] pos) (dCallR fn i os) := by
  obtain ⟨t, h, s⟩ := ha
  refine ⟨_, g_call F hr hg hm hk hb tk (pa_cons (pe_var hN hvis hd hcd) h he) hdb he hpl, fun O F σ H env Q st g => ?_⟩
  unfold dCallR at g
  split at g
  · rename_i d00 hi0
    obtain ⟨v0, hv0, _⟩ := s0v st hi0
    refine ⟨v0, hv0, s O F σ H env _ st ?_⟩
    cases q : evOs os env with
    | bad => rw [q] at g; exact g.elim
    | err y' e => rw [q] at g; exact g
    | ok avs env1 =>
      rw [q] at g
      simp only [R.bind] at g
      intro F1 H1 vs E1 s1 r1
      cases q2 : getAVs env1 avs with
      | none => rw [q2] at g; exact g.elim
      | some ds =>
        rw [q2] at g
        split at g
        · rename_i ds' d0 e1 hi1
          cases e1
          exact call_coreR s1 hi1 hv0 (AVs.vals hv q r1 q2) (by rw [← hn, lenAV q q2]) (EGoal.step E1 g)
        · exact g.elim
  · exact g.elim

/-! ### calls by keywords -/
@[simp] def pick {α : Type} (perm : List Nat) (l : List α) : List α := perm.filterMap fun i => l[i]?
theorem vals_pick {vs : List V} {us : List Value} (r : Vals vs us) : ∀ perm : List Nat, Vals (pick perm vs) (pick perm us)
  | [] => .nil
  | i :: perm => by
    have ih := vals_pick r perm
    unfold pick at ih ⊢
    rw [List.filterMap_cons, List.filterMap_cons]
    cases q : vs[i]? with
    | none => rw [r.none_of q]; exact ih
    | some v =>
      obtain ⟨u, h1, h2⟩ := r.get q
      rw [h1]
      exact .cons h2 ih
theorem repL_pick {K : PySem.W.Frag} {F : Fz} {H : Hp} {ds : List D} {vs : List V} (r : RepL K F H ds vs) : ∀ perm : List Nat, RepL K F H (pick perm ds) (pick perm vs)
  | [] => RepL.nil
  | i :: perm => by
    have ih := repL_pick r perm
    unfold pick at ih ⊢
    rw [List.filterMap_cons, List.filterMap_cons]
    cases q : vs[i]? with
    | none =>
      have : ds[i]? = none := by
        cases q2 : ds[i]? with
        | none => rfl
        | some d => obtain ⟨v, z, _⟩ := r.get q2; rw [q] at z; cases z
      rw [this]; exact ih
    | some v =>
      obtain ⟨d, h1, h2⟩ := r.get' q
      rw [h1]
      exact RepL.cons h2 ih
/-- n values by place, the names ks: in the parameters' order -/
structure KwB (fd : FuncData) (ps : List Str) (n : Nat) (ks : List Str) (perm : List Nat) : Prop where
  to : ∀ (us ws : List Value), us.length = n → ws.length = ks.length → bindArgs fd ⟨us, ks.zip ws⟩ = pure (ps.zip (pick perm (us ++ ws)))
def DKs (X : Cx) (W : WX) (kws : List Keyword) (os : List Opd) : Prop := ∃ t, PK X kws t ∧ ASem X W t os
theorem k_nil : DKs X W [] [] := ⟨_, pk_nil, asem_nil⟩
theorem k_cons {nm : Option Str} {e : Expr} {kpos : Pos} {kws : List Keyword} {o : Opd} {os : List Opd} (ho : DOp X W e o) (ht : DKs X W kws os) : DKs X W (⟨nm, e, kpos⟩ :: kws) (o :: os) := by
  obtain ⟨te, he, se⟩ := ho
  obtain ⟨t, h, s⟩ := ht
  exact ⟨_, pk_cons he h, asem_cons se s⟩
theorem evOs_app : ∀ (os os' : List Opd) (env : DEnv), evOs (os ++ os') env = (evOs os env).bind fun a e1 => (evOs os' e1).bind fun b e2 => .ok (a ++ b) e2
  | [], os', env => by
    show evOs os' env = (evOs os' env).bind fun b e2 => .ok b e2
    cases evOs os' env <;> rfl
  | .v m :: os, os', env => by
    show (m env).bind _ = ((m env).bind _).bind _
    cases m env with
    | bad => rfl
    | err x e => rfl
    | ok r e1 =>
      simp only [R.bind]
      have ih : evOs (os.append os') e1 = _ := evOs_app os os' e1
      rw [ih]
      cases evOs os e1 with
      | bad => rfl
      | err x e => rfl
      | ok a e2 =>
        simp only [R.bind]
        cases evOs os' e2 <;> rfl
  | .s i :: os, os', env => by
    have ih := evOs_app os os' env
    show evOs (.s i :: (os ++ os')) env = (evOs (.s i :: os) env).bind _
    simp only [evOs]
    split
    · rw [ih]
      cases evOs os env with
      | bad => rfl
      | err x e => rfl
      | ok a e2 =>
        simp only [R.bind]
        cases evOs os' e2 <;> rfl
    · rfl
theorem allV_app : ∀ {os os' : List Opd}, allV os = true → allV os' = true → allV (os ++ os') = true
  | [], _, _, h => h
  | .v _ :: os, _, h, h' => allV_app (os := os) h h'
theorem AVs.app {K : PySem.W.Frag} {F : Fz} {H : Hp} {σ : L2.St} : ∀ {as bs : List AV} {vs ws : List V}, AVs K F H σ as vs → AVs K F H σ bs ws → AVs K F H σ (as ++ bs) (vs ++ ws)
  | [], _, _, _, h, k => by rw [show _ = ([] : List V) from h]; exact k
  | .d x :: as, bs, vs, ws, ⟨v, r, e1, h1, h2⟩, k => ⟨v, r ++ ws, by rw [e1]; rfl, h1, AVs.app h2 k⟩
  | .s i :: as, bs, vs, ws, ⟨v, r, e1, h1, h2⟩, k => ⟨v, r ++ ws, by rw [e1]; rfl, h1, AVs.app h2 k⟩
theorem AVs.length {K : PySem.W.Frag} {F : Fz} {H : Hp} {σ : L2.St} : ∀ {as : List AV} {vs : List V}, AVs K F H σ as vs → vs.length = as.length
  | [], _, h => by rw [show _ = ([] : List V) from h]; rfl
  | .d x :: as, vs, ⟨v, r, e1, h1, h2⟩ => by rw [e1, List.length_cons, List.length_cons, AVs.length h2]
  | .s i :: as, vs, ⟨v, r, e1, h1, h2⟩ => by rw [e1, List.length_cons, List.length_cons, AVs.length h2]
/-- the arguments by place, then the keywords' -/
def tKw (n m : Nat) (t tk : TA) (r : List V → Hp → VK → L2.St → Prop) : TE := fun σ H Q => t σ H fun vs H1 => tk σ H1 fun zs H2 => vs.length = n ∧ zs.length = m ∧ r (vs ++ zs) H2 Q σ
theorem run_kw {k : Nat} {f : Addr} {fd : FuncData} {ps ks : List Str} {n : Nat} {perm : List Nat} {sp : Sp} {pins : List (Addr × Obj)} {σ : L2.St} {H : Hp} {s : Shared} {Q : VK} {us ws : List Value} {vs zs : List V} (F : GOk X.prog X.w X.K X.mg X.base k f fd ps sp) (hr : GRoom k X.A)
    (hb : KwB fd ps n ks perm) (tk : Takes X W) (I : L2.Inv X pins σ H s) (r : Vals vs us) (rz : Vals zs ws) (h1 : vs.length = n) (h2 : zs.length = ks.length) (h : sp (pick perm (vs ++ zs)) H Q (WE W σ)) :
    wpAny (model X.prog X.w) X.A (call (.ref f) us (ks.zip ws)) (EP X pins σ Q) X.xe s := by
  have r2 := vals_pick (r.append rz) perm
  refine wpAny_call (codeAny_mono (g_run (args := ⟨us, ks.zip ws⟩) F hr tk I (.of_eq (hb.to us ws (by rw [← r.length]; exact h1) (by rw [← rz.length]; exact h2))) r2 h) fun res s' hq => ?_)
  match res, hq with
  | .error e, hq => exact hq
  | .ok (.ret u), hq => exact hq
theorem sem_kw {t tk : TA} {os os' : List Opd} {fn : DFn} {n m nn : Nat} {perm : List Nat} (s1 : ASem X W t os) (s2 : ASem X W tk os') (hn : os.length = n) (hm : os'.length = m) (hv : allV (os ++ os') = true) (hp : perm.length = nn) (hlt : ∀ i ∈ perm, i < n + m) :
    ESem X W (tKw n m t tk fun vs H Q σ => spD X.K X.mg false nn fn (pick perm vs) H Q (WE W σ)) (dCall (fun args => fn (pick perm args)) (os ++ os')) := fun O F σ H env Q st g => by
  refine s1 O F σ H env _ st ?_
  unfold dCall at g
  rw [evOs_app] at g
  cases q : evOs os env with
  | bad => rw [q] at g; exact g.elim
  | err y e => rw [q] at g; exact g
  | ok a env1 =>
    rw [q] at g
    simp only [R.bind] at g
    intro F1 H1 vs E1 st1 r1
    refine s2 O F1 σ H1 env1 _ st1 ?_
    cases q2 : evOs os' env1 with
    | bad => rw [q2] at g; exact g.elim
    | err y e => rw [q2] at g; exact fun F' H' c d e' s' r => g F' H' c d (E1.trans e') s' r
    | ok b env2 =>
      rw [q2] at g
      simp only [] at g
      intro F2 H2 zs E2 st2 r2
      have r12 := (r1.ext E2).app r2
      refine ⟨by rw [AVs.length r1, lenO q, hn], by rw [AVs.length r2, lenO q2, hm], ?_⟩
      have full : evOs (os ++ os') env = .ok (a ++ b) env2 := by rw [evOs_app, q]; simp only [R.bind]; rw [q2]
      cases q3 : getAVs env2 (a ++ b) with
      | none => rw [q3] at g; exact g.elim
      | some ds =>
        rw [q3] at g
        have rl := AVs.vals hv full r12 q3
        have hlen : ds.length = n + m := by rw [lenAV full q3, List.length_append, hn, hm]
        have pk : pick perm (shrs ds) = shrs (pick perm ds) := by
          unfold pick shrs
          rw [List.map_filterMap]
          congr 1
          funext i
          rw [List.getElem?_map]
        have pl : (pick perm ds).length = nn := by
          rw [← hp]
          clear g pk rl full q3 r12 hp
          induction perm with
          | nil => rfl
          | cons i perm ih =>
            unfold pick at ih ⊢
            rw [List.filterMap_cons]
            have hi : i < ds.length := by rw [hlen]; exact hlt i (by simp)
            rw [List.getElem?_eq_getElem hi]
            simp only [List.length_cons]
            rw [ih fun j hj => hlt j (List.mem_cons_of_mem _ hj)]
        simp only [] at g
        rw [pk] at g
        exact call_core0 st2 (repL_pick rl perm) pl (EGoal.step (E1.trans E2) g)
/-- f(a, .., k = v, ..) -/
theorem e_callK {k nn n m : Nat} {f : Addr} {fd : FuncData} {ps ks : List Str} {perm : List Nat} {fn : DFn} {x : Str} {e : Expr} {es : List Expr} {kws : List Keyword} {os os' : List Opd} {p pos : Pos} (F : GOk X.prog X.w X.K X.mg X.base k f fd ps (spD X.K X.mg false nn fn)) (hr : GRoom k X.A) (hm : X.mg x = some (.ref f))
    (hk : PySem.W.keepIn X.K (.ref f) = true) (hb : KwB fd ps n ks perm) (tk : Takes X W) (ha : DAs X W (e :: es) os) (hkw : DKs X W kws os') (hg : Gl X x := by rfl) (hn : os.length = n := by rfl) (hm' : os'.length = ks.length := by rfl) (hv : allV (os ++ os') = true := by rfl) (hp : perm.length = nn := by rfl) (hlt : ∀ i ∈ perm, i < n + ks.length := by decide)
    (hall : (backToKw pos (keywordEach kws X.env)).all (·.1.isSome) = true := by rfl) (hks : (backToKw pos (keywordEach kws X.env)).filterMap (·.1) = ks := by rfl)
    (hdb : (x == ("__debug__" : Str)) = false := by decide) (he : starEach (e :: es) X.env = (false, eval e X.env) :: starEach es X.env := by rfl)
    (hpl : ((backTo pos (starEach (e :: es) X.env)).any (·.1) || (backToKw pos (keywordEach kws X.env)).any (·.1.isNone)) = false := by rfl) :
    DEv X W (.Call (.Name x p) (e :: es) kws pos) (dCall (fun args => fn (pick perm args)) (os ++ os')) := by
  obtain ⟨t, h, s⟩ := ha
  obtain ⟨t2, h2, s2⟩ := hkw
  refine ⟨_, ⟨fun pins s0 σ H Q I h0 => ?_⟩, sem_kw s s2 hn hm' hv hp hlt⟩
  refine wpAny_Call_Name_kw (ld_glob I hg hm ?_ hdb)
  refine PySem.W.callWith_KW (h₀ := X.base) I.ok.mod.kin hk hall (thn (h.run pos pins s0 σ H _ I h0) fun us s1 ⟨vs, H1, I1, r, q⟩ => ?_) hpl he
  refine thn (h2.run pos pins s1 σ H1 _ I1 q) fun ws s2 ⟨zs, H2, I2, rz, q2⟩ => ⟨I2.kIn, ?_⟩
  rw [hks]
  exact run_kw F hr hb tk I2 r rz q2.1 q2.2.1 q2.2.2
/-- f(k = v, ..) -/
theorem e_callK0 {k nn : Nat} {f : Addr} {fd : FuncData} {ps ks : List Str} {perm : List Nat} {fn : DFn} {x : Str} {kws : List Keyword} {os' : List Opd} {p pos : Pos} (F : GOk X.prog X.w X.K X.mg X.base k f fd ps (spD X.K X.mg false nn fn)) (hr : GRoom k X.A) (hm : X.mg x = some (.ref f))
    (hk : PySem.W.keepIn X.K (.ref f) = true) (hb : KwB fd ps 0 ks perm) (tk : Takes X W) (hkw : DKs X W kws os') (hg : Gl X x := by rfl) (hm' : os'.length = ks.length := by rfl) (hv : allV os' = true := by rfl) (hp : perm.length = nn := by rfl) (hlt : ∀ i ∈ perm, i < 0 + ks.length := by decide)
    (hall : (backToKw pos (keywordEach kws X.env)).all (·.1.isSome) = true := by rfl) (hks : (backToKw pos (keywordEach kws X.env)).filterMap (·.1) = ks := by rfl)
    (hdb : (x == ("__debug__" : Str)) = false := by decide)
    (hpl : ((backTo pos (starEach [] X.env)).any (·.1) || (backToKw pos (keywordEach kws X.env)).any (·.1.isNone)) = false := by rfl) :
    DEv X W (.Call (.Name x p) [] kws pos) (dCall (fun args => fn (pick perm args)) os') := by
  obtain ⟨t2, h2, s2⟩ := hkw
  refine ⟨_, ⟨fun pins s0 σ H Q I h0 => ?_⟩, sem_kw (os := []) asem_nil s2 rfl hm' hv hp hlt⟩
  refine wpAny_Call_Name_kw (ld_glob I hg hm ?_ hdb)
  refine PySem.W.callWith_KW0 (h₀ := X.base) I.ok.mod.kin hk hall ?_ hpl
  refine thn (h2.run pos pins s0 σ H _ I h0) fun ws s2 ⟨zs, H2, I2, rz, q2⟩ => ⟨I2.kIn, ?_⟩
  rw [hks]
  exact run_kw (us := []) F hr hb tk I2 .nil rz q2.1 q2.2.1 q2.2.2
end
end DL
/-! DL8: lists that are changed; errors raised. -/
namespace DL
open PySem PySem.Spec PyProof.Rows L2

/-- extend by a tuple -/
theorem ext_tuple (l : Addr) (items : Array Value) (n : Nat) (b : Addr) (items2 : Array Value) (n2 : Nat) (dd : Option Addr) (sl : Array (Option Value)) (hs0 : ¬(!items.isEmpty && Builtin.List.listTooLong (items.size + items2.size)) = true) (hs1 : items.size ≤ sizeLine) (hs2 : items.size + items2.size ≤ sizeLine + 1) :
    Meets (Builtin.«list.extend» ⟨[.ref l, .ref b], []⟩) (fun _ R s => s.heap.get? l = some { cls := .type "list", dict := none, data := .seq items n, slots := #[] } ∧ s.heap.get? b = some { cls := .type "tuple", dict := dd, data := .seq items2 n2, slots := sl } ∧ R (.ok (.ret Value.none)) { s with heap := s.heap.update l (Obj.mapSeq fun x => x ++ items2), toks := s.toks }) :=
  .of_wp fun prog w A R s h => by
    obtain ⟨hp, g, d, tk, os⟩ := s
    obtain ⟨hl, hb, h⟩ := h
    have f3 := AutoSeq1.sub_list_list
    have f4 := AutoSeq1.sub_tuple_list
    have f2 := AutoSeq1.sub_tuple_tuple
    have f5 := AutoSeq1.sub_list_tuple
    have hz' : (items ++ items2).size ≤ sizeLine + 1 := by rw [Array.size_append]; exact hs2
    wp_walk using (wpAny_updateSeq hl rfl (hz := hs1) (_hz' := hz')), wpAny_loadPart' hl, wpAny_loadPart' hb
    exact ⟨_, rfl, h⟩

section
variable {X : Cx} {W : WX} {B : Bs}
def rExtT (K : PySem.W.Frag) : V → List V → Hp → VK → Prop := fun x vs H Q => ∃ l b xs zs, x = .ref l ∧ vs = [.ref b] ∧ H l = some (.lst xs) ∧ SqT K H b zs ∧ xs.length + zs.length ≤ sizeLine ∧ Q .non (upd H l (.lst (xs ++ zs)))
theorem mt_extT : MtR X "list.extend" (rExtT X.K) := by
  intro pins s σ H x vs v us Q I rx rv h
  obtain ⟨l, b, xs, zs, rfl, rfl, hH, hB, hz, q⟩ := h
  cases rx
  obtain ⟨u, rfl, ru⟩ := rv.one
  cases ru
  obtain ⟨z, its, n, r, hl, e⟩ := I.lstM hH
  obtain ⟨its2, r2, ⟨o2, e2, c2, n2, d2⟩, _⟩ := I.tuple hB
  have hl2 := r2.length
  have hsz : its.length + its2.length ≤ sizeLine := by omega
  have hlong : ¬ (!its.toArray.isEmpty && Builtin.List.listTooLong (its.toArray.size + its2.toArray.size)) = true := by
    rw [notLongL (by simpa using hsz), Bool.and_false]
    exact Bool.false_ne_true
  obtain ⟨oc, od, odat, osl⟩ := o2
  subst c2 d2
  refine call_meets F.slot_list_extend ⟨_, e, rfl⟩ F.entry_list_extend (F.args_list_extend_2 _ _)
    (ext_tuple l its.toArray n b its2.toArray n2 od osl hlong (by simp; omega) (by simp; omega)) ⟨e, e2, ?_⟩
  refine ⟨.non, _, I.lset (its' := its ++ its2) hH e (by simp) (r.append r2) ?_, rfl, q⟩
  rw [List.length_append]
  omega

/-! ### a method that changes the list that a name owns -/
/-- op: from the list and the argument to the list behind and the answer -/
def dMut (op : List D → List D → Option (List D × D)) (i : Nat) (os : List Opd) : DE := fun env => match (env[i]? : Option (Option Ent)) with
  | some (some (Ent.mk Md.own (.lst _))) => (evOs os env).bind fun avs env1 => match getAVs env1 avs, (env1[i]? : Option (Option Ent)) with
    | some ds, some (some (Ent.mk Md.own (.lst xs))) => (match op xs ds with
      | some (ys, r) => .ok ⟨.shr, r⟩ (env1.set i (some ⟨.own, .lst ys⟩))
      | none => .bad)
    | _, _ => .bad
  | _ => .bad
/-- the rule of the values -/
def MutR (K : PySem.W.Frag) (op : List D → List D → Option (List D × D)) (r : V → List V → Hp → VK → Prop) : Prop := ∀ (F : Fz) (H : Hp) (a : Addr) (xs : List D) (us : List V) (ds : List D) (vs : List V) (ys : List D) (d : D) (Q : VK),
  H a = some (.lst us) → RepL K F H xs us → RepL K F H ds vs → op xs ds = some (ys, d) →
  (∀ ws v, RepL K F H ys ws → Rep K F H d v → Q v (upd H a (.lst ws))) → r (.ref a) vs H Q
theorem sem_mut {i : Nat} {os : List Opd} {t : TA} {op : List D → List D → Option (List D × D)} {r : V → List V → Hp → VK → Prop} (s : ASem X W t os) (hv : allV os = true) (hr : MutR X.K op r) :
    ESem X W (fun σ H Q => ∃ v, σ[i]? = some (some v) ∧ (tyV X.K "list" v H ∧ t σ H fun xs H2 => r v xs H2 Q)) (dMut op i os) := fun O F σ H env Q st g => by
  unfold dMut at g
  split at g
  · rename_i l0 hi0
    obtain ⟨a, us0, es0, e0, hσ, hH, _, _, _⟩ := st.own i .own _ hi0 nofun
    refine ⟨.ref a, hσ, .inl ⟨rfl, us0, .inl (.inl hH)⟩, s O F σ H env _ st ?_⟩
    cases q : evOs os env with
    | bad => rw [q] at g; exact g.elim
    | err y' e => rw [q] at g; exact g
    | ok avs env1 =>
      rw [q] at g
      simp only [R.bind] at g
      intro F1 H1 vs E1 s1 r1
      cases q2 : getAVs env1 avs with
      | none => rw [q2] at g; exact g.elim
      | some ds =>
        rw [q2] at g
        split at g
        · rename_i ds' xs e1 hi1
          cases e1
          cases q3 : op xs ds with
          | none => rw [q3] at g; exact g.elim
          | some yr =>
            obtain ⟨ys, d⟩ := yr
            rw [q3] at g
            obtain ⟨a', us, es, e2, hσ', hH1, rl, nF, nO⟩ := s1.own i .own _ hi1 nofun
            cases e2
            rw [hσ] at hσ'
            cases hσ'
            refine hr F1 H1 a xs us ds vs ys d Q hH1 rl (AVs.vals hv q r1 q2) q3 fun ws v rw' rd => ?_
            obtain ⟨s2, E2⟩ := s1.write hi1 nofun hσ hH1 nF nO rw'
            exact g F1 _ v (E1.trans E2) s2 (Rep.ext E2 d v rd)
        · exact g.elim
  · exact g.elim
def mApp : List D → List D → Option (List D × D) := fun xs ds => match ds with
  | [d] => if xs.length < sizeLine then some (xs ++ [d], .non) else none
  | _ => none
def mExt : List D → List D → Option (List D × D) := fun xs ds => match ds with
  | [.lst ys] => if xs.length + ys.length ≤ sizeLine then some (xs ++ ys, .non) else none
  | [.tup ys] => if xs.length + ys.length ≤ sizeLine then some (xs ++ ys, .non) else none
  | _ => none
def mPop : List D → List D → Option (List D × D) := fun xs ds => match ds, xs[xs.length - 1]? with
  | [], some d => some (xs.dropLast, d)
  | _, _ => none
theorem mr_app {K : PySem.W.Frag} : MutR K mApp rAppend := fun F H a xs us ds vs ys d Q h r rd e q => by
  unfold mApp at e
  split at e
  · split at e
    · rename_i x hl
      cases e
      obtain ⟨v, _, rfl, h1, rfl⟩ := rd
      exact ⟨a, us, v, rfl, rfl, h, by rw [r.length]; exact hl, q _ _ (r.append (RepL.cons h1 RepL.nil)) rfl⟩
    · cases e
  · cases e
theorem mr_ext {K : PySem.W.Frag} : MutR K mExt (fun x xs H Q => rExtend x xs H Q ∨ rExtT K x xs H Q) := fun F H a xs us ds vs ys d Q h r rd e q => by
  unfold mExt at e
  split at e
  · split at e
    · rename_i x hl
      cases e
      obtain ⟨v, _, rfl, ⟨b, ws, rfl, fb, hb, rb⟩, rfl⟩ := rd
      exact .inl ⟨a, b, us, ws, rfl, rfl, h, hb, by rw [r.length, rb.length]; exact hl, q _ _ (r.append rb) rfl⟩
    · cases e
  · split at e
    · rename_i x hl
      cases e
      obtain ⟨v, _, rfl, ⟨b, ws, rfl, hb, rb⟩, rfl⟩ := rd
      exact .inr ⟨a, b, us, ws, rfl, rfl, h, hb.sq, by rw [r.length, rb.length]; exact hl, q _ _ (r.append rb) rfl⟩
    · cases e
  · cases e
theorem mr_pop {K : PySem.W.Frag} : MutR K mPop rPop := fun F H a xs us ds vs ys d Q h r rd e q => by
  unfold mPop at e
  split at e
  · rename_i d' hx
    cases e
    obtain ⟨v, hv, rv⟩ := r.get hx
    obtain rfl : vs = [] := rd
    exact ⟨a, us, v, rfl, rfl, h, by rw [r.length]; exact hv, q _ _ r.dropLast rv⟩
  · cases e
/-- what pe_bm asks of the arguments' number -/
abbrev Few (X : Cx) (e : Expr) (cpos : Pos) : Prop := ((backTo cpos (starEach (e :: []) X.env)).all (fun x => !x.1) && (backToKw cpos (keywordEach [] X.env)).all (fun x => x.1.isSome) && decide ((e :: ([] : List Expr)).length + ([] : List Keyword).length + (if ([] : List Keyword).isEmpty then 0 else 1) < 30)) = true
/-- x.m(e), x a name that owns its list -/
theorem e_mut (i : Nat) {op : List D → List D → Option (List D × D)} {r : V → List V → Hp → VK → Prop} {name : Str} {id : String} {y : Str} {e : Expr} {os : List Opd} {py apos cpos : Pos} (hr : MutR X.K op r) (slot : Slot "list" name id) (hty : typeOf (.builtin id) = pure (.type "method_descriptor")) (hm : MtR X id r) (ha : DAs X W [e] os) (hv : allV os = true := by rfl)
    (hN : X.N[i]? = some y := by rfl) (hvis : Vis X.env.scope y := by first | exact Or.inl rfl | exact Or.inr (Or.inl rfl) | exact Or.inr (Or.inr rfl)) (hd : (y == ("__debug__" : Str)) = false := by decide) (hcd : (y == ("__classdict__" : Str)) = false := by decide)
    (hb : attributeBase (.Name y py) name X.env (eval (.Name y py) X.env) = eval (.Name y py) X.env := by rfl) (hf : Few X e cpos := by rfl) (hl : (apos.endLine == cpos.line) = true := by rfl)
    (he : starEach (e :: []) X.env = (false, eval e X.env) :: starEach [] X.env := by rfl) (hpl : (backTo cpos (starEach [] X.env)).any (·.1) = false := by rfl) : DEv X W (.Call (.Attribute (.Name y py) name apos) [e] [] cpos) (dMut op i os) := by
  obtain ⟨t, h, s⟩ := ha
  exact ⟨_, pe_bm (cpos := cpos) (apos := apos) PySem.F.plainAttrs_list slot hty hm (pe_var (pos := py) hN hvis hd hcd) h hb hf hl he hpl, sem_mut s hv hr⟩
theorem e_mut0 (i : Nat) {op : List D → List D → Option (List D × D)} {r : V → List V → Hp → VK → Prop} {name : Str} {id : String} {y : Str} {py apos cpos : Pos} (hr : MutR X.K op r) (slot : Slot "list" name id) (hty : typeOf (.builtin id) = pure (.type "method_descriptor")) (hm : MtR X id r)
    (hN : X.N[i]? = some y := by rfl) (hvis : Vis X.env.scope y := by first | exact Or.inl rfl | exact Or.inr (Or.inl rfl) | exact Or.inr (Or.inr rfl)) (hd : (y == ("__debug__" : Str)) = false := by decide) (hcd : (y == ("__classdict__" : Str)) = false := by decide)
    (hb : attributeBase (.Name y py) name X.env (eval (.Name y py) X.env) = eval (.Name y py) X.env := by rfl) (hl : (apos.endLine == cpos.line) = true := by rfl) : DEv X W (.Call (.Attribute (.Name y py) name apos) [] [] cpos) (dMut op i []) :=
  ⟨_, pe_bm0 (cpos := cpos) (apos := apos) PySem.F.plainAttrs_list slot hty hm (pe_var (pos := py) hN hvis hd hcd) hb hl, sem_mut (os := []) asem_nil rfl hr⟩
theorem MtR.orM {id : String} {r r' : V → List V → Hp → VK → Prop} (h : MtR X id r) (h' : MtR X id r') : MtR X id (fun x xs H Q => r x xs H Q ∨ r' x xs H Q) := h.or h'
theorem e_append (i : Nat) {y : Str} {e : Expr} {os : List Opd} {py apos cpos : Pos} (ha : DAs X W [e] os) (hv : allV os = true := by rfl)
    (hN : X.N[i]? = some y := by rfl) (hvis : Vis X.env.scope y := by first | exact Or.inl rfl | exact Or.inr (Or.inl rfl) | exact Or.inr (Or.inr rfl)) (hd : (y == ("__debug__" : Str)) = false := by decide) (hcd : (y == ("__classdict__" : Str)) = false := by decide)
    (hb : attributeBase (.Name y py) "append" X.env (eval (.Name y py) X.env) = eval (.Name y py) X.env := by rfl) (hf : Few X e cpos := by rfl) (hl : (apos.endLine == cpos.line) = true := by rfl)
    (he : starEach (e :: []) X.env = (false, eval e X.env) :: starEach [] X.env := by rfl) (hpl : (backTo cpos (starEach [] X.env)).any (·.1) = false := by rfl) : DEv X W (.Call (.Attribute (.Name y py) "append" apos) [e] [] cpos) (dMut mApp i os) :=
  e_mut i mr_app PySem.F.slot_list_append PySem.F.type_list_append mt_append ha hv hN hvis hd hcd hb hf hl he hpl
theorem e_extend (i : Nat) {y : Str} {e : Expr} {os : List Opd} {py apos cpos : Pos} (ha : DAs X W [e] os) (hv : allV os = true := by rfl)
    (hN : X.N[i]? = some y := by rfl) (hvis : Vis X.env.scope y := by first | exact Or.inl rfl | exact Or.inr (Or.inl rfl) | exact Or.inr (Or.inr rfl)) (hd : (y == ("__debug__" : Str)) = false := by decide) (hcd : (y == ("__classdict__" : Str)) = false := by decide)
    (hb : attributeBase (.Name y py) "extend" X.env (eval (.Name y py) X.env) = eval (.Name y py) X.env := by rfl) (hf : Few X e cpos := by rfl) (hl : (apos.endLine == cpos.line) = true := by rfl)
    (he : starEach (e :: []) X.env = (false, eval e X.env) :: starEach [] X.env := by rfl) (hpl : (backTo cpos (starEach [] X.env)).any (·.1) = false := by rfl) : DEv X W (.Call (.Attribute (.Name y py) "extend" apos) [e] [] cpos) (dMut mExt i os) :=
  e_mut i mr_ext PySem.F.slot_list_extend PySem.F.type_list_extend (MtR.orM mt_extend mt_extT) ha hv hN hvis hd hcd hb hf hl he hpl
theorem e_pop (i : Nat) {y : Str} {py apos cpos : Pos}
    (hN : X.N[i]? = some y := by rfl) (hvis : Vis X.env.scope y := by first | exact Or.inl rfl | exact Or.inr (Or.inl rfl) | exact Or.inr (Or.inr rfl)) (hd : (y == ("__debug__" : Str)) = false := by decide) (hcd : (y == ("__classdict__" : Str)) = false := by decide)
    (hb : attributeBase (.Name y py) "pop" X.env (eval (.Name y py) X.env) = eval (.Name y py) X.env := by rfl) (hl : (apos.endLine == cpos.line) = true := by rfl) : DEv X W (.Call (.Attribute (.Name y py) "pop" apos) [] [] cpos) (dMut mPop i []) :=
  e_mut0 i mr_pop PySem.F.slot_list_pop PySem.F.type_list_pop mt_pop hN hvis hd hcd hb hl

/-! ### x[k] = e -/
def dSetIx (i : Nat) (os : List Opd) (m : DE) : DS := fun env => (m env).bind fun r env1 => match (env1[i]? : Option (Option Ent)) with
  | some (some (Ent.mk Md.own (.lst _))) => (evOs os env1).bind fun avs env2 => match getAVs env2 avs, (env2[i]? : Option (Option Ent)) with
    | some [.int k], some (some (Ent.mk Md.own (.lst xs))) => (match ixN xs.length k with
      | some j => .ok .nx (env2.set i (some ⟨.own, .lst (xs.set j r.d)⟩))
      | none => .bad)
    | _, _ => .bad
  | _ => .bad
theorem s_setIx (i : Nat) {y : Str} {idx e : Expr} {m : DE} {o : Opd} {py tpos pos : Pos} (hm : DEv X W e m) (hx : DOp X W idx o)
    (hN : X.N[i]? = some y := by rfl) (hvis : Vis X.env.scope y := by first | exact Or.inl rfl | exact Or.inr (Or.inl rfl) | exact Or.inr (Or.inr rfl)) (hd : (y == ("__debug__" : Str)) = false := by decide) (hcd : (y == ("__classdict__" : Str)) = false := by decide)
    (hs : swapsWithSole [.Subscript (.Name y py) idx tpos] e pos.line X.env = pure false := by rfl) (hw : swappedStores [.Subscript (.Name y py) idx tpos] e X.env = pure none := by rfl)
    (hasg : ∀ v, assign (.Subscript (.Name y py) idx tpos) X.env v = (do
      let ov ← holding [v] (eval (.Name y py) X.env)
      let iv ← holding [v, ov] (eval idx X.env)
      standAt tpos
      holding [v, ov, iv] (setItem ov iv v)
      release [v, ov, iv] []) := by intro _; rfl) :
    DSt X W B (.Assign [.Subscript (.Name y py) idx tpos] e pos) (dSetIx i [o] m) := by
  obtain ⟨te, h1, s1⟩ := hm
  obtain ⟨ti, h2, s2⟩ := hx
  refine ⟨_, ps_asg h1 (pg_sub (pe_var hN hvis hd hcd) h2 set_list hasg) hs hw, fun O F σ H env Dn st g => ?_⟩
  refine s1 O F σ H env _ st ?_
  unfold dSetIx at g
  cases q : m env with
  | bad => rw [q] at g; exact g.elim
  | err y' e => rw [q] at g; exact fun F' H' c d e' s' r => g F' H' σ c d e' s' Keeps.refl r
  | ok r env1 =>
    rw [q] at g
    simp only [R.bind] at g
    intro F1 H1 v E1 st1 r1
    obtain ⟨F2, E2, st2, r2⟩ := freeze st1 r1
    split at g
    · rename_i l0 hi0
      obtain ⟨a, us0, es0, e0, hσ, hH, _, _, _⟩ := st2.own i .own _ hi0 nofun
      refine ⟨.ref a, hσ, ?_⟩
      have m2 := asem1 s2 O F2 σ H1 env1 (fun vs H4 => match vs with
        | [w'] => rSetL (.ref a) w' v H4 fun H6 => Dn.nx σ H6
        | _ => False) st2
      refine m2 ?_
      clear m2
      cases q4 : evOs [o] env1 with
      | bad => rw [q4] at g; exact g.elim
      | err x e => rw [q4] at g; exact fun F' H' c d e' s' r => g F' H' σ c d ((E1.trans E2).trans e') s' Keeps.refl r
      | ok avs env4 =>
        rw [q4] at g
        simp only [] at g
        intro F5 H5 vs5 E5 st5 r5
        split at g
        · rename_i k xs hk hi5
          have tops := AVs.tops st5 r5 hk
          obtain ⟨w, _, rfl, rw', rfl⟩ := tops
          cases rw'
          obtain ⟨a', us, es, e2, hσ', hH5, rl, nF, nO⟩ := st5.own i .own _ hi5 nofun
          cases e2
          rw [hσ] at hσ'
          cases hσ'
          cases hj : ixN xs.length k with
          | none => rw [hj] at g; exact g.elim
          | some j =>
            rw [hj] at g
            obtain ⟨st6, E6⟩ := st5.write hi5 nofun hσ hH5 nF nO (RepL.set (Rep.ext E5 _ _ r2) j rl)
            exact ⟨a, us, k, j, rfl, rfl, hH5, by rw [rl.length]; exact hj, g F5 _ σ (((E1.trans E2).trans E5).trans E6) st6 Keeps.refl⟩
        · exact g.elim
    · exact g.elim

/-! ### x += e, numbers -/
def dAug (i : Nat) (f : Int → Int → Int) (m : DE) : DS := fun env => match (env[i]? : Option (Option Ent)) with
  | some (some (Ent.mk Md.shr (.int a))) => (m env).bind fun r env1 => match r with
    | ⟨.shr, .int b⟩ => .ok .nx (env1.set i (some ⟨.shr, .int (f a b)⟩))
    | _ => .bad
  | _ => .bad
theorem s_aug (i : Nat) {f : Int → Int → Int} {op : Operator} {x : Str} {e : Expr} {m : DE} {pos' pos : Pos} (hN : X.N.Nodup) (ho : PIp X op (ipI f)) (hm : DEv X W e m) (hi : X.N[i]? = some x := by rfl) (hx : Loc X.env.scope x := by first | exact Or.inl rfl | exact Or.inr rfl) (hB : B i = false := by rfl)
    (hf : X.fn x = true ∨ X.env.scope.names.lookup x = some .local := by first | exact .inl rfl | exact .inr rfl | assumption) : DSt X W B (.AugAssign (.Name x pos') op e pos) (dAug i f m) := by
  obtain ⟨te, h1, s1⟩ := hm
  refine ⟨_, ps_aug hN hi hx h1 ho hf, fun O F σ H env Dn st g => ?_⟩
  unfold dAug at g
  split at g
  · rename_i a ha
    obtain ⟨v, hv, rv⟩ := st.shr i _ ha
    cases rv
    refine ⟨_, hv, s1 O F σ H env _ st ?_⟩
    cases q : m env with
    | bad => rw [q] at g; exact g.elim
    | err y' e => rw [q] at g; exact fun F' H' c d e' s' r => g F' H' σ c d e' s' Keeps.refl r
    | ok r env1 =>
      rw [q] at g
      simp only [R.bind] at g
      intro F1 H1 v E1 st1 r1
      split at g
      · rename_i b
        cases r1
        exact ⟨a, b, rfl, rfl, g F1 H1 _ E1 (st1.store (e := ⟨.shr, .int (f a b)⟩) rfl) (keeps_set hB)⟩
      · exact g.elim
  · exact g.elim

/-! ### raise X('..') -/
def dRaise (c : Str) : DS := fun env => .err ⟨c, []⟩ env
theorem s_raise {x : Str} {C : Addr} {m : Str} {j : Nat} {p p2 cp pos : Pos} (hc : X.calm = true) (tk : Takes X W) (q : PySem.W.excIn X.K C [.type "ValueError", .type "Exception", .type "BaseException", .type "object"] "ValueError.__new__" = true) (gC : X.mg x = some (.ref C)) (kC : PySem.W.keepIn X.K (.ref C) = true)
    (r1 : PySem.W.subIn X.K (.ref C) (.type "BaseException") = some true) (r2 : PySem.W.typeIn X.K (.ref C) = some (.type "type")) (hg : Gl X x := by rfl) (hdb : (x == ("__debug__" : Str)) = false := by decide) :
    DSt X W B (.Raise (some (.Call (.Name x p) [.Constant (.str m) j p2] [] cp)) none pos) (dRaise x) :=
  ⟨_, ps_raise hc tk (pmk_own PySem.F.excBase_ValueError q gC kC (raises_own r1 r2) hg hdb), fun O F σ H env Dn st g => g F H σ (.ref C) none Ext.refl st Keeps.refl ⟨C, gC, rfl, rfl, rfl⟩⟩
end
end DL
/-! DL9: the operations on data, each with its rule. -/
namespace DL
open PySem PySem.Spec PyProof.Rows L2

/-! ### data as the library's data -/
mutual
def toP : D → PyData
  | .non => .none
  | .bl b => .bool b
  | .int i => .int i
  | .str x => .str x
  | .lst ds => .list (toPs ds)
  | .tup ds => .tuple (toPs ds)
  | .fz ds => .list (toPs ds)
  | .exc _ _ => .none
  | .pr _ _ => .none
  | .rng _ _ => .none
def toPs : List D → List PyData
  | [] => []
  | d :: ds => toP d :: toPs ds
end
mutual
def plain : D → Bool
  | .lst ds => plains ds
  | .tup ds => plains ds
  | .fz ds => plains ds
  | .exc _ _ => false
  | .pr _ _ => false
  | .rng _ _ => false
  | _ => true
def plains : List D → Bool
  | [] => true
  | d :: ds => plain d && plains ds
end
mutual
theorem dp_of {K : PySem.W.Frag} {F : Fz} {H : Hp} : ∀ (d : D) (v : V), plain d = true → Rep K F H d v → Dp K H v (toP d)
  | .non, v, _, h => by rw [show v = V.non from h]; exact .non
  | .bl b, v, _, h => by rw [show v = V.bl b from h]; exact .bl b
  | .int i, v, _, h => by rw [show v = V.int i from h]; exact .int i
  | .str x, v, _, h => by rw [show v = V.str x from h]; exact .str x
  | .lst ds, v, p, h => by
    obtain ⟨a, vs, rfl, _, ha, r⟩ := h
    exact .lst (SqL.of ha) (dps_of ds vs p r)
  | .tup ds, v, p, h => by
    obtain ⟨a, vs, rfl, ha, r⟩ := h
    exact .tup ha.sq (dps_of ds vs p r)
  | .fz ds, v, p, h => by
    obtain ⟨a, vs, rfl, ha, r⟩ := h
    exact .lst ha.sq (dps_of ds vs p r)
  | .exc _ _, _, p, _ => by cases p
  | .pr _ _, _, p, _ => by cases p
  | .rng _ _, _, p, _ => by cases p
theorem dps_of {K : PySem.W.Frag} {F : Fz} {H : Hp} : ∀ (ds : List D) (vs : List V), plains ds = true → RepL K F H ds vs → DpAll K H vs (toPs ds)
  | [], vs, _, h => by rw [show vs = [] from h]; exact .nil
  | d :: ds, vs, p, h => by
    obtain ⟨v, r, rfl, h1, h2⟩ := h
    have q := Bool.and_eq_true_iff.mp (show (plain d && plains ds) = true from p)
    exact .cons (dp_of d v q.1 h1) (dps_of ds r q.2 h2)
end
theorem dp_top {K : PySem.W.Frag} {F : Fz} {H : Hp} {d : D} {v : V} (p : plain d = true) (h : RepT K F H d v) : Dp K H v (toP d) := by
  cases d with
  | lst ds =>
    obtain ⟨a, vs, rfl, ha, r⟩ := h
    exact .lst (SqL.of ha) (dps_of ds vs p r)
  | non => exact dp_of (F := F) _ _ p h
  | bl b => exact dp_of (F := F) _ _ p h
  | int i => exact dp_of (F := F) _ _ p h
  | str x => exact dp_of (F := F) _ _ p h
  | tup ds => exact dp_of (F := F) _ _ p h
  | fz ds => exact dp_of (F := F) _ _ p h
  | exc c fs => exact dp_of (F := F) _ _ p h
  | pr x y => exact dp_of (F := F) _ _ p h
  | rng x y => exact dp_of (F := F) _ _ p h
def okD (d : D) : Bool := plain d && SeqAt.shaped (toP d)
def deq (a b : D) : Bool := PyData.eqv (toP a) (toP b)

section
variable {X : Cx} {W : WX}
/-! ### whole numbers -/
def pInt2 (f : Int → Int → Option D) : Pr := fun ds => match ds with
  | [.int a, .int b] => (f a b).map PR.d
  | _ => none
theorem pr_int2 {K : PySem.W.Frag} {f : Int → Int → Option D} {r : R2} (h : ∀ a b d H (Q : VK), f a b = some d → (∀ v, (∀ K F H, Rep K F H d v) → Q v H) → r (.int a) (.int b) H Q) : PrimR K (pInt2 f) (two r) := fun F H ds vs Q pr fd rt e q => by
  unfold pInt2 at e
  split at e
  · rename_i a b
    obtain ⟨v, _, rfl, h1, w, _, rfl, h2, rfl⟩ := rt
    cases h1
    cases h2
    cases hf : f a b with
    | none => rw [hf] at e; cases e
    | some d =>
      rw [hf] at e
      cases e
      exact h a b d H Q hf fun v hv => q H v (Same.refl _) (hv _ _ _)
  · cases e
def pSub : Pr := pInt2 fun a b => some (.int (a - b))
theorem pr_sub {K : PySem.W.Frag} : PrimR K pSub (two (rI0 fun i j => .int (i - j))) := pr_int2 fun a b d H Q e q => by cases e; exact ⟨a, b, rfl, rfl, q _ fun _ _ _ => rfl⟩
def wideMul (a b : Int) : Bool := decide (a.natAbs.log2 + b.natAbs.log2 < 1000000)
def pFdiv : Pr := pInt2 fun a b => if 0 < b ∧ b.natAbs.log2 < 9000 then some (.int (a / b)) else none
theorem pr_fdiv {K : PySem.W.Frag} : PrimR K pFdiv (two (rI CDivW fun i j => .int (i / j))) := pr_int2 fun a b d H Q e q => by
  split at e
  · rename_i hb
    cases e
    exact ⟨a, b, rfl, rfl, hb, q _ fun _ _ _ => rfl⟩
  · cases e
def pMod : Pr := pInt2 fun a b => if 0 < b then some (.int (a % b)) else none
theorem pr_mod {K : PySem.W.Frag} : PrimR K pMod (two (rI (fun _ j => 0 < j) fun i j => .int (i % j))) := pr_int2 fun a b d H Q e q => by
  split at e
  · rename_i hb
    cases e
    exact ⟨a, b, rfl, rfl, hb, q _ fun _ _ _ => rfl⟩
  · cases e
def pPow : Pr := pInt2 fun a b => if 0 ≤ b ∧ b ≤ 1000000 ∧ a.natAbs < 2 ^ 64 then some (.int (a ^ b.toNat)) else none
theorem pr_pow {K : PySem.W.Frag} : PrimR K pPow (two (rI CPow fun i j => .int (i ^ j.toNat))) := pr_int2 fun a b d H Q e q => by
  split at e
  · rename_i hb
    cases e
    exact ⟨a, b, rfl, rfl, hb, q _ fun _ _ _ => rfl⟩
  · cases e
def pCmp (p : Int → Int → Bool) : Pr := pInt2 fun a b => some (.bl (p a b))
abbrev pLt : Pr := pCmp fun a b => decide (a < b)
abbrev pLe : Pr := pCmp fun a b => decide (a ≤ b)
abbrev pGt : Pr := pCmp fun a b => decide (b < a)
abbrev pGe : Pr := pCmp fun a b => decide (b ≤ a)
theorem pr_cmp {K : PySem.W.Frag} {p : Int → Int → Bool} : PrimR K (pCmp p) (two (rI0 fun i j => .bl (p i j))) := pr_int2 fun a b d H Q e q => by cases e; exact ⟨a, b, rfl, rfl, q _ fun _ _ _ => rfl⟩
def pNeg : Pr := fun ds => match ds with
  | [.int a] => some (.d (.int (-a)))
  | _ => none
theorem pr_neg {K : PySem.W.Frag} : PrimR K pNeg (one (rU fun i => .int (-i))) := fun F H ds vs Q pr fd rt e q => by
  unfold pNeg at e
  split at e
  · rename_i a
    obtain ⟨v, _, rfl, h1, rfl⟩ := rt
    cases h1
    cases e
    exact ⟨a, rfl, q H _ (Same.refl _) rfl⟩
  · cases e

/-! ### + -/
def pAdd : Pr := fun ds => match ds with
  | [.int a, .int b] => some (.d (.int (a + b)))
  | [.str a, .str b] => if a.length + b.length ≤ sizeLine then some (.d (.str (a ++ b))) else none
  | [.tup a, .tup b] => if a.length + b.length ≤ sizeLine then some (.d (.tup (a ++ b))) else none
  | [.lst a, .lst b] => if a.length + b.length ≤ sizeLine then some (.nl (a ++ b)) else none
  | _ => none
def rAddS : R2 := fun x y H Q => ∃ i j, x = .str i ∧ y = .str j ∧ i.length + j.length ≤ sizeLine ∧ Q (.str (i ++ j)) H
def rAddAll (K : PySem.W.Frag) : R2 := fun x y H Q => (rI0 fun i j => .int (i + j)) x y H Q ∨ rAddS x y H Q ∨ rCatL K x y H Q ∨ rCat x y H Q
theorem op_addAll : OpR X (binaryOp .Add) (rAddAll X.K) := op_add.or (OpR.or op_add_str (op_catL.or op_cat))
theorem pr_add {K : PySem.W.Frag} : PrimR K pAdd (two (rAddAll K)) := fun F H ds vs Q pr fd rt e q => by
  unfold pAdd at e
  split at e
  · rename_i a b
    obtain ⟨v, _, rfl, h1, w, _, rfl, h2, rfl⟩ := rt
    cases h1
    cases h2
    cases e
    exact .inl ⟨a, b, rfl, rfl, q H _ (Same.refl _) rfl⟩
  · rename_i a b
    obtain ⟨v, _, rfl, h1, w, _, rfl, h2, rfl⟩ := rt
    cases h1
    cases h2
    split at e
    · rename_i hl
      cases e
      exact .inr (.inl ⟨a, b, rfl, rfl, hl, q H _ (Same.refl _) rfl⟩)
    · cases e
  · rename_i a b
    obtain ⟨v, _, rfl, ⟨p, us, rfl, hp, r1⟩, w, _, rfl, ⟨p2, ws, rfl, hp2, r2⟩, rfl⟩ := rt
    split at e
    · rename_i hl
      cases e
      refine .inr (.inr (.inl ⟨p, p2, us, ws, rfl, rfl, hp.sq, hp2.sq, by rw [r1.length, r2.length]; exact hl, fun z => ?_, fun _ z => ?_, fun _ _ c o hd hc => ?_⟩))
      · subst z
        have : a = [] := List.eq_nil_of_length_eq_zero (by rw [← r1.length]; rfl)
        subst this
        exact q H _ (Same.refl _) ⟨p2, ws, rfl, hp2, r2⟩
      · subst z
        have : b = [] := List.eq_nil_of_length_eq_zero (by rw [← r2.length]; rfl)
        subst this
        refine q H _ (Same.refl _) ⟨p, us, rfl, hp, ?_⟩
        rw [List.append_nil]
        exact r1
      · exact q _ _ (same_new hc) ⟨c, us ++ ws, rfl, ⟨o, hd, upd_same⟩, repL_same (same_new hc) (r1.append r2)⟩
    · cases e
  · rename_i a b
    obtain ⟨v, _, rfl, ⟨p, us, rfl, hp, r1⟩, w, _, rfl, ⟨p2, ws, rfl, hp2, r2⟩, rfl⟩ := rt
    split at e
    · rename_i hl
      cases e
      refine .inr (.inr (.inr ⟨p, p2, us, ws, rfl, rfl, hp, hp2, by rw [r1.length, r2.length]; exact hl, fun c hc => ?_⟩))
      exact q _ _ (same_new hc) ⟨c, us ++ ws, rfl, hc, upd_same, repL_same (same_new hc) (r1.append r2)⟩
    · cases e
  · cases e
/-! ### * -/
def pMul : Pr := fun ds => match ds with
  | [.int a, .int b] => if wideMul a b = true then some (.d (.int (a * b))) else none
  | [.lst a, .int k] => if -(2 ^ 63) ≤ k ∧ k < 2 ^ 63 ∧ a.length * k.toNat ≤ sizeLine then some (.nl (List.replicate k.toNat a).flatten) else none
  | [.tup a, .int k] => if a ≠ [] ∧ 0 ≤ k ∧ k ≤ 1000 ∧ a.length ≤ 1000 then some (.d (.tup (List.replicate k.toNat a).flatten)) else none
  | _ => none
def rMulAll (K : PySem.W.Frag) : R2 := fun x y H Q => (rI CMulW fun i j => .int (i * j)) x y H Q ∨ rRep x y H Q ∨ rRepL K x y H Q
theorem op_mulAll : OpR X (binaryOp .Mult) (rMulAll X.K) := op_mulW.or (OpR.or op_rep op_repL)
theorem pr_mul {K : PySem.W.Frag} : PrimR K pMul (two (rMulAll K)) := fun F H ds vs Q pr fd rt e q => by
  unfold pMul at e
  split at e
  · rename_i a b
    obtain ⟨v, _, rfl, h1, w, _, rfl, h2, rfl⟩ := rt
    cases h1
    cases h2
    split at e
    · rename_i hw
      cases e
      exact .inl ⟨a, b, rfl, rfl, (show a.natAbs.log2 + b.natAbs.log2 < 1000000 by unfold wideMul at hw; exact of_decide_eq_true hw), q H _ (Same.refl _) rfl⟩
    · cases e
  · rename_i a k
    obtain ⟨v, _, rfl, ⟨p, us, rfl, hp, r1⟩, w, _, rfl, h2, rfl⟩ := rt
    cases h2
    split at e
    · rename_i hl
      cases e
      refine .inr (.inl ⟨p, k, us, rfl, rfl, hp, hl.1, hl.2.1, by rw [r1.length]; exact hl.2.2, fun c hc => ?_⟩)
      exact q _ _ (same_new hc) ⟨c, _, rfl, hc, upd_same, repL_same (same_new hc) (r1.rep k.toNat)⟩
    · cases e
  · rename_i a k
    obtain ⟨v, _, rfl, ⟨p, us, rfl, hp, r1⟩, w, _, rfl, h2, rfl⟩ := rt
    cases h2
    split at e
    · rename_i hl
      cases e
      refine .inr (.inr ⟨p, k, us, rfl, rfl, hp.sq, fun z => ?_, hl.2.1, hl.2.2.1, by rw [r1.length]; exact hl.2.2.2, fun hk => ?_, fun _ c o hd hc => ?_⟩)
      · subst z
        exact hl.1 (List.eq_nil_of_length_eq_zero (by rw [← r1.length]; rfl))
      · subst hk
        refine q H _ (Same.refl _) ⟨p, us, rfl, hp, ?_⟩
        have := r1.rep 1
        simpa using this
      · exact q _ _ (same_new hc) ⟨c, _, rfl, ⟨o, hd, upd_same⟩, repL_same (same_new hc) (r1.rep k.toNat)⟩
    · cases e
  · cases e
/-! ### ==, != of data; is -/
def pEq : Pr := fun ds => match ds with
  | [a, b] => if (okD a && okD b) = true then some (.d (.bl (deq a b))) else none
  | _ => none
def pNe : Pr := fun ds => match ds with
  | [a, b] => if (okD a && okD b) = true then some (.d (.bl (!deq a b))) else none
  | _ => none
theorem okD_and {a b : D} (h : (okD a && okD b) = true) : (plain a = true ∧ SeqAt.shaped (toP a) = true) ∧ plain b = true ∧ SeqAt.shaped (toP b) = true := by
  have h1 := Bool.and_eq_true_iff.mp h
  exact ⟨Bool.and_eq_true_iff.mp h1.1, Bool.and_eq_true_iff.mp h1.2⟩
theorem pr_eq {K : PySem.W.Frag} : PrimR K pEq (two (rEqD K)) := fun F H ds vs Q pr fd rt e q => by
  unfold pEq at e
  split at e
  · rename_i a b
    obtain ⟨v, _, rfl, h1, w, _, rfl, h2, rfl⟩ := rt
    split at e
    · rename_i hk
      cases e
      obtain ⟨⟨p1, s1⟩, p2, s2⟩ := okD_and hk
      exact ⟨toP a, toP b, dp_top p1 h1, dp_top p2 h2, s1, s2, q H _ (Same.refl _) rfl⟩
    · cases e
  · cases e
theorem pr_ne {K : PySem.W.Frag} : PrimR K pNe (two (rNeD K)) := fun F H ds vs Q pr fd rt e q => by
  unfold pNe at e
  split at e
  · rename_i a b
    obtain ⟨v, _, rfl, h1, w, _, rfl, h2, rfl⟩ := rt
    split at e
    · rename_i hk
      cases e
      obtain ⟨⟨p1, s1⟩, p2, s2⟩ := okD_and hk
      exact ⟨toP a, toP b, dp_top p1 h1, dp_top p2 h2, s1, s2, q H _ (Same.refl _) rfl⟩
    · cases e
  · cases e
def isNonD : D → Bool
  | .non => true
  | _ => false
@[simp] theorem isNonD_non : isNonD .non = true := rfl
@[simp] theorem isNonD_bl (b : Bool) : isNonD (.bl b) = false := rfl
@[simp] theorem isNonD_int (b : Int) : isNonD (.int b) = false := rfl
@[simp] theorem isNonD_str (b : Str) : isNonD (.str b) = false := rfl
@[simp] theorem isNonD_lst (b : List D) : isNonD (.lst b) = false := rfl
@[simp] theorem isNonD_tup (b : List D) : isNonD (.tup b) = false := rfl
@[simp] theorem isNonD_fz (b : List D) : isNonD (.fz b) = false := rfl
theorem isNonD_v {K : PySem.W.Frag} {F : Fz} {H : Hp} : ∀ {d : D} {v : V}, RepT K F H d v → decide (v = V.non) = isNonD d
  | .non, _, h => by rw [show _ = V.non from h]; rfl
  | .bl b, _, h => by rw [show _ = V.bl b from h]; exact decide_eq_false nofun
  | .int b, _, h => by rw [show _ = V.int b from h]; exact decide_eq_false nofun
  | .str b, _, h => by rw [show _ = V.str b from h]; exact decide_eq_false nofun
  | .lst _, _, ⟨a, _, e, _⟩ => by rw [e]; exact decide_eq_false nofun
  | .tup _, _, ⟨a, _, e, _⟩ => by rw [e]; exact decide_eq_false nofun
  | .pr _ _, _, ⟨a, _, _, e, _⟩ => by rw [e]; exact decide_eq_false nofun
  | .rng _ _, _, ⟨a, _, e, _⟩ => by rw [e]; exact decide_eq_false nofun
  | .fz _, _, ⟨a, _, e, _⟩ => by rw [e]; exact decide_eq_false nofun
  | .exc _ _, _, h => h.elim
def pIsN : Pr := fun ds => match ds with
  | [a, .non] => some (.d (.bl (isNonD a)))
  | _ => none
def pNotN : Pr := fun ds => match ds with
  | [a, .non] => some (.d (.bl (!isNonD a)))
  | _ => none
def rIsN0 : R2 := fun x y H Q => y = .non ∧ Q (.bl (decide (x = .non))) H
def rNotN0 : R2 := fun x y H Q => y = .non ∧ Q (.bl (!decide (x = .non))) H
theorem pr_isN {K : PySem.W.Frag} : PrimR K pIsN (two rIsN0) := fun F H ds vs Q pr fd rt e q => by
  unfold pIsN at e
  split at e
  · rename_i a
    obtain ⟨v, _, rfl, h1, w, _, rfl, h2, rfl⟩ := rt
    cases h2
    cases e
    refine ⟨rfl, ?_⟩
    rw [isNonD_v h1]
    exact q H _ (Same.refl _) rfl
  · cases e
theorem pr_notN {K : PySem.W.Frag} : PrimR K pNotN (two rNotN0) := fun F H ds vs Q pr fd rt e q => by
  unfold pNotN at e
  split at e
  · rename_i a
    obtain ⟨v, _, rfl, h1, w, _, rfl, h2, rfl⟩ := rt
    cases h2
    cases e
    refine ⟨rfl, ?_⟩
    rw [isNonD_v h1]
    exact q H _ (Same.refl _) rfl
  · cases e
def pIsB : Pr := fun ds => match ds with
  | [.bl a, .bl b] => some (.d (.bl (decide (a = b))))
  | _ => none
def pNotB : Pr := fun ds => match ds with
  | [.bl a, .bl b] => some (.d (.bl (!decide (a = b))))
  | _ => none
theorem pr_isB {K : PySem.W.Frag} : PrimR K pIsB (two rIsB) := fun F H ds vs Q pr fd rt e q => by
  unfold pIsB at e
  split at e
  · rename_i a b
    obtain ⟨v, _, rfl, h1, w, _, rfl, h2, rfl⟩ := rt
    cases h1
    cases h2
    cases e
    exact ⟨a, b, rfl, rfl, q H _ (Same.refl _) rfl⟩
  · cases e
theorem pr_notB {K : PySem.W.Frag} : PrimR K pNotB (two rNotB) := fun F H ds vs Q pr fd rt e q => by
  unfold pNotB at e
  split at e
  · rename_i a b
    obtain ⟨v, _, rfl, h1, w, _, rfl, h2, rfl⟩ := rt
    cases h1
    cases h2
    cases e
    exact ⟨a, b, rfl, rfl, q H _ (Same.refl _) rfl⟩
  · cases e
/-! ### in, not in: flat things -/
def flatD : D → Bool
  | .non => true
  | .bl _ => true
  | .int _ => true
  | .str _ => true
  | _ => false
theorem flatD_v {K : PySem.W.Frag} {F : Fz} {H : Hp} : ∀ {d : D} {v : V}, Rep K F H d v → flatD d = true → flatV v = true
  | .non, _, h, _ => by rw [show _ = V.non from h]; rfl
  | .bl b, _, h, _ => by rw [show _ = V.bl b from h]; rfl
  | .int b, _, h, _ => by rw [show _ = V.int b from h]; rfl
  | .str b, _, h, _ => by rw [show _ = V.str b from h]; rfl
  | .lst _, _, _, f => by cases f
  | .tup _, _, _, f => by cases f
  | .fz _, _, _, f => by cases f
  | .exc _ _, _, _, f => by cases f
  | .pr _ _, _, _, f => by cases f
  | .rng _ _, _, _, f => by cases f
theorem eqV_d {K : PySem.W.Frag} {F : Fz} {H : Hp} {a b : D} {v w : V} (fa : flatD a = true) (fb : flatD b = true) (ha : Rep K F H a v) (hb : Rep K F H b w) : eqV v w = deq a b := by
  cases a with
  | lst _ => cases fa
  | tup _ => cases fa
  | fz _ => cases fa
  | exc _ _ => cases fa
  | pr _ _ => cases fa
  | rng _ _ => cases fa
  | _ =>
    cases b with
    | lst _ => cases fb
    | tup _ => cases fb
    | fz _ => cases fb
    | exc _ _ => cases fb
    | pr _ _ => cases fb
    | rng _ _ => cases fb
    | _ =>
      cases ha
      cases hb
      first | rfl | simp [eqV, deq, toP, PyData.eqv]
def inD (x : D) (xs : List D) : Bool := xs.any fun y => deq y x
theorem inV_d {K : PySem.W.Frag} {F : Fz} {H : Hp} {x : D} {v : V} (fx : flatD x = true) (hx : Rep K F H x v) : ∀ {xs : List D} {vs : List V}, xs.all flatD = true → RepL K F H xs vs → inV v vs = inD x xs ∧ vs.all flatV = true
  | [], vs, _, h => by rw [show vs = [] from h]; exact ⟨rfl, rfl⟩
  | d :: ds, vs, f, h => by
    obtain ⟨w, r, rfl, h1, h2⟩ := h
    have q := Bool.and_eq_true_iff.mp (show (flatD d && ds.all flatD) = true from f)
    obtain ⟨i1, i2⟩ := inV_d fx hx q.2 h2
    refine ⟨?_, ?_⟩
    · show (eqV w v || inV v r) = (deq d x || inD x ds)
      rw [eqV_d q.1 fx h1 hx, i1]
    · show (flatV w && r.all flatV) = true
      rw [flatD_v h1 q.1, i2]
      rfl
def flat_all (x : D) (xs : List D) : Bool := flatD x && xs.all flatD
def pInN (neg : Bool) : Pr := fun ds => match ds with
  | [x, .lst xs] => if flat_all x xs = true then some (.d (.bl (if neg then !inD x xs else inD x xs))) else none
  | [x, .tup xs] => if flat_all x xs = true then some (.d (.bl (if neg then !inD x xs else inD x xs))) else none
  | _ => none
theorem repT_flat {K : PySem.W.Frag} {F : Fz} {H : Hp} {x : D} {v : V} (h : RepT K F H x v) (f : flatD x = true) : Rep K F H x v := by
  cases x with
  | lst _ => cases f
  | _ => exact h
theorem pr_in {K : PySem.W.Frag} {neg : Bool} : PrimR K (pInN neg) (two (rIn K neg)) := fun F H ds vs Q pr fd rt e q => by
  unfold pInN at e
  split at e
  · rename_i x xs
    obtain ⟨v, _, rfl, h1, w, _, rfl, ⟨p, us, rfl, hp, r1⟩, rfl⟩ := rt
    split at e
    · rename_i hf
      cases e
      have qf := Bool.and_eq_true_iff.mp hf
      obtain ⟨i1, i2⟩ := inV_d qf.1 (repT_flat h1 qf.1) qf.2 r1
      refine ⟨p, us, rfl, .inl (SqL.of hp), flatD_v (repT_flat h1 qf.1) qf.1, i2, ?_⟩
      rw [i1]
      exact q H _ (Same.refl _) rfl
    · cases e
  · rename_i x xs
    obtain ⟨v, _, rfl, h1, w, _, rfl, ⟨p, us, rfl, hp, r1⟩, rfl⟩ := rt
    split at e
    · rename_i hf
      cases e
      have qf := Bool.and_eq_true_iff.mp hf
      obtain ⟨i1, i2⟩ := inV_d qf.1 (repT_flat h1 qf.1) qf.2 r1
      refine ⟨p, us, rfl, .inr (hp.sq), flatD_v (repT_flat h1 qf.1) qf.1, i2, ?_⟩
      rw [i1]
      exact q H _ (Same.refl _) rfl
    · cases e
  · cases e
/-! ### items -/
def pIx : Pr := fun ds => match ds with
  | [.lst xs, .int i] => (atI xs i).map PR.d
  | [.tup xs, .int i] => (atI xs i).map PR.d
  | [.fz xs, .int i] => (atI xs i).map PR.d
  | [.str z, .int i] => if z.length ≤ sizeLine then (atI z.cps.toList i).map fun c => PR.d (.str ⟨#[c]⟩) else none
  | _ => none
theorem repL_at {K : PySem.W.Frag} {F : Fz} {H : Hp} {xs : List D} {vs : List V} {i : Int} {d : D} (r : RepL K F H xs vs) (h : atI xs i = some d) : ∃ v, atI vs i = some v ∧ Rep K F H d v := by
  unfold atI at h ⊢
  rw [r.length]
  cases q : ixN xs.length i with
  | none => rw [q] at h; cases h
  | some j =>
    rw [q] at h
    exact r.get h
theorem pr_ix {K : PySem.W.Frag} : PrimR K pIx (two (rIx K)) := fun F H ds vs Q pr fd rt e q => by
  unfold pIx at e
  split at e
  · rename_i xs i
    obtain ⟨v, _, rfl, ⟨p, us, rfl, hp, r1⟩, w, _, rfl, h2, rfl⟩ := rt
    cases h2
    cases hx : atI xs i with
    | none => rw [hx] at e; cases e
    | some d =>
      rw [hx] at e
      cases e
      obtain ⟨u, hu, ru⟩ := repL_at r1 hx
      exact .inl ⟨p, us, i, u, rfl, rfl, SqL.of hp, hu, q H _ (Same.refl _) ru⟩
  · rename_i xs i
    obtain ⟨v, _, rfl, ⟨p, us, rfl, hp, r1⟩, w, _, rfl, h2, rfl⟩ := rt
    cases h2
    cases hx : atI xs i with
    | none => rw [hx] at e; cases e
    | some d =>
      rw [hx] at e
      cases e
      obtain ⟨u, hu, ru⟩ := repL_at r1 hx
      exact .inr (.inl ⟨p, us, i, u, rfl, rfl, hp.sq, hu, q H _ (Same.refl _) ru⟩)
  · rename_i xs i
    obtain ⟨v, _, rfl, ⟨p, us, rfl, hp, r1⟩, w, _, rfl, h2, rfl⟩ := rt
    cases h2
    cases hx : atI xs i with
    | none => rw [hx] at e; cases e
    | some d =>
      rw [hx] at e
      cases e
      obtain ⟨u, hu, ru⟩ := repL_at r1 hx
      exact .inl ⟨p, us, i, u, rfl, rfl, hp.sq, hu, q H _ (Same.refl _) ru⟩
  · rename_i z i
    obtain ⟨v, _, rfl, h1, w, _, rfl, h2, rfl⟩ := rt
    cases h1
    cases h2
    split at e
    · rename_i hz
      cases hx : atI z.cps.toList i with
      | none => rw [hx] at e; cases e
      | some c =>
        rw [hx] at e
        cases e
        exact .inr (.inr ⟨z, i, c, rfl, rfl, hz, hx, q H _ (Same.refl _) rfl⟩)
    · cases e
  · cases e
/-! ### built-ins -/
def pLen : Pr := fun ds => match ds with
  | [.lst xs] => some (.d (.int xs.length))
  | [.tup xs] => some (.d (.int xs.length))
  | [.fz xs] => some (.d (.int xs.length))
  | [.str z] => if z.length ≤ sizeLine then some (.d (.int z.length)) else none
  | _ => none
def rLen1 (K : PySem.W.Frag) : Rl := fun xs H Q => ∃ x n, xs = [x] ∧ LenV K x H n ∧ Q (.int n) H
theorem pr_len {K : PySem.W.Frag} : PrimR K pLen (rLen1 K) := fun F H ds vs Q pr fd rt e q => by
  unfold pLen at e
  split at e
  · obtain ⟨v, _, rfl, ⟨p, us, rfl, hp, r1⟩, rfl⟩ := rt
    cases e
    exact ⟨.ref p, us.length, rfl, .inl ⟨us, SqL.of hp, rfl⟩, by rw [r1.length]; exact q H _ (Same.refl _) rfl⟩
  · obtain ⟨v, _, rfl, ⟨p, us, rfl, hp, r1⟩, rfl⟩ := rt
    cases e
    exact ⟨.ref p, us.length, rfl, .inr ⟨us, hp.sq, rfl⟩, by rw [r1.length]; exact q H _ (Same.refl _) rfl⟩
  · obtain ⟨v, _, rfl, ⟨p, us, rfl, hp, r1⟩, rfl⟩ := rt
    cases e
    exact ⟨.ref p, us.length, rfl, .inl ⟨us, hp.sq, rfl⟩, by rw [r1.length]; exact q H _ (Same.refl _) rfl⟩
  · rename_i z
    obtain ⟨v, _, rfl, h1, rfl⟩ := rt
    cases h1
    split at e
    · rename_i hz
      cases e
      exact ⟨.str z, z.length, rfl, ⟨hz, rfl⟩, q H _ (Same.refl _) rfl⟩
    · cases e
  · cases e
def pIntOf : Pr := fun ds => match ds with
  | [.int a] => some (.d (.int a))
  | [.bl b] => some (.d (.int (if b then 1 else 0)))
  | _ => none
def rInt1 : Rl := fun xs H Q => (∃ i, xs = [.int i] ∧ Q (.int i) H) ∨ ∃ k, xs = [.bl k] ∧ Q (.int (if k then 1 else 0)) H
theorem pr_intOf {K : PySem.W.Frag} : PrimR K pIntOf rInt1 := fun F H ds vs Q pr fd rt e q => by
  unfold pIntOf at e
  split at e
  · obtain ⟨v, _, rfl, h1, rfl⟩ := rt
    cases h1
    cases e
    exact .inl ⟨_, rfl, q H _ (Same.refl _) rfl⟩
  · obtain ⟨v, _, rfl, h1, rfl⟩ := rt
    cases h1
    cases e
    exact .inr ⟨_, rfl, q H _ (Same.refl _) rfl⟩
  · cases e
def pMax : Pr := fun ds => match ds with
  | [.int i, .int j] => some (.d (.int (if j > i then j else i)))
  | _ => none
def pMin : Pr := fun ds => match ds with
  | [.int i, .int j] => some (.d (.int (if j < i then j else i)))
  | _ => none
def rMax2' : Rl := fun xs H Q => ∃ i j, xs = [.int i, .int j] ∧ Q (.int (if j > i then j else i)) H
def rMin2' : Rl := fun xs H Q => ∃ i j, xs = [.int i, .int j] ∧ Q (.int (if j < i then j else i)) H
theorem pr_max {K : PySem.W.Frag} : PrimR K pMax rMax2' := fun F H ds vs Q pr fd rt e q => by
  unfold pMax at e
  split at e
  · obtain ⟨v, _, rfl, h1, w, _, rfl, h2, rfl⟩ := rt
    cases h1
    cases h2
    cases e
    exact ⟨_, _, rfl, q H _ (Same.refl _) rfl⟩
  · cases e
theorem pr_min {K : PySem.W.Frag} : PrimR K pMin rMin2' := fun F H ds vs Q pr fd rt e q => by
  unfold pMin at e
  split at e
  · obtain ⟨v, _, rfl, h1, w, _, rfl, h2, rfl⟩ := rt
    cases h1
    cases h2
    cases e
    exact ⟨_, _, rfl, q H _ (Same.refl _) rfl⟩
  · cases e
def pTupOf : Pr := fun ds => match ds with
  | [.lst xs] => some (.d (.tup xs))
  | [.tup xs] => some (.d (.tup xs))
  | _ => none
theorem pr_tupOf {K : PySem.W.Frag} : PrimR K pTupOf (rTupOfL K) := fun F H ds vs Q pr fd rt e q => by
  unfold pTupOf at e
  split at e
  · obtain ⟨v, _, rfl, ⟨p, us, rfl, hp, r1⟩, rfl⟩ := rt
    cases e
    exact ⟨p, us, rfl, .inl ⟨SqL.of hp, fun c o hd hc => q _ _ (same_new hc) ⟨c, us, rfl, ⟨o, hd, upd_same⟩, repL_same (same_new hc) r1⟩⟩⟩
  · obtain ⟨v, _, rfl, ⟨p, us, rfl, hp, r1⟩, rfl⟩ := rt
    cases e
    exact ⟨p, us, rfl, .inr ⟨hp.sq, q H _ (Same.refl _) ⟨p, us, rfl, hp, r1⟩⟩⟩
  · cases e
def pLstOf : Pr := fun ds => match ds with
  | [.lst xs] => some (.nl xs)
  | [.tup xs] => some (.nl xs)
  | [.fz xs] => some (.nl xs)
  | _ => none
def rLstOf (K : PySem.W.Frag) : Rl := fun xs H Q => ∃ p ys, xs = [.ref p] ∧ (SqL K H p ys ∨ SqT K H p ys) ∧ ∀ l, H l = none → Q (.ref l) (upd H l (.lst ys))
theorem pr_lstOf {K : PySem.W.Frag} : PrimR K pLstOf (rLstOf K) := fun F H ds vs Q pr fd rt e q => by
  unfold pLstOf at e
  split at e
  · obtain ⟨v, _, rfl, ⟨p, us, rfl, hp, r1⟩, rfl⟩ := rt
    cases e
    exact ⟨p, us, rfl, .inl (SqL.of hp), fun c hc => q _ _ (same_new hc) ⟨c, us, rfl, hc, upd_same, repL_same (same_new hc) r1⟩⟩
  · obtain ⟨v, _, rfl, ⟨p, us, rfl, hp, r1⟩, rfl⟩ := rt
    cases e
    exact ⟨p, us, rfl, .inr hp.sq, fun c hc => q _ _ (same_new hc) ⟨c, us, rfl, hc, upd_same, repL_same (same_new hc) r1⟩⟩
  · obtain ⟨v, _, rfl, ⟨p, us, rfl, hp, r1⟩, rfl⟩ := rt
    cases e
    exact ⟨p, us, rfl, .inl (hp.sq), fun c hc => q _ _ (same_new hc) ⟨c, us, rfl, hc, upd_same, repL_same (same_new hc) r1⟩⟩
  · cases e
def blsOf : List D → Option (List Bool)
  | [] => some []
  | .bl b :: ds => (blsOf ds).map (b :: ·)
  | _ :: _ => none
theorem blsOf_v {K : PySem.W.Frag} {F : Fz} {H : Hp} : ∀ {ds : List D} {vs : List V} {bs : List Bool}, RepL K F H ds vs → blsOf ds = some bs → vs = bs.map V.bl
  | [], vs, bs, h, e => by cases e; exact h
  | d :: ds, vs, bs, h, e => by
    obtain ⟨v, r, rfl, h1, h2⟩ := h
    cases d with
    | bl b =>
      cases q : blsOf ds with
      | none => simp [blsOf, q] at e
      | some cs =>
        simp [blsOf, q] at e
        subst e
        rw [show v = V.bl b from h1, blsOf_v h2 q]
        rfl
    | _ => cases e
def pAll : Pr := fun ds => match ds with
  | [.lst xs] => (blsOf xs).map fun bs => PR.d (.bl (bs.all id))
  | _ => none
def pAny : Pr := fun ds => match ds with
  | [.lst xs] => (blsOf xs).map fun bs => PR.d (.bl (bs.any id))
  | _ => none
theorem pr_all {K : PySem.W.Frag} : PrimR K pAll (rAll K) := fun F H ds vs Q pr fd rt e q => by
  unfold pAll at e
  split at e
  · rename_i xs
    obtain ⟨v, _, rfl, ⟨p, us, rfl, hp, r1⟩, rfl⟩ := rt
    cases hb : blsOf xs with
    | none => rw [hb] at e; cases e
    | some bs =>
      rw [hb] at e
      cases e
      have := blsOf_v r1 hb
      subst this
      exact ⟨p, bs, rfl, SqL.of hp, q H _ (Same.refl _) rfl⟩
  · cases e
theorem pr_any {K : PySem.W.Frag} : PrimR K pAny (rAny K) := fun F H ds vs Q pr fd rt e q => by
  unfold pAny at e
  split at e
  · rename_i xs
    obtain ⟨v, _, rfl, ⟨p, us, rfl, hp, r1⟩, rfl⟩ := rt
    cases hb : blsOf xs with
    | none => rw [hb] at e; cases e
    | some bs =>
      rw [hb] at e
      cases e
      have := blsOf_v r1 hb
      subst this
      exact ⟨p, bs, rfl, SqL.of hp, q H _ (Same.refl _) rfl⟩
  · cases e
def intsOf : List D → Option (List Int)
  | [] => some []
  | .int b :: ds => (intsOf ds).map (b :: ·)
  | _ :: _ => none
theorem intsOf_v {K : PySem.W.Frag} {F : Fz} {H : Hp} : ∀ {ds : List D} {vs : List V} {bs : List Int}, RepL K F H ds vs → intsOf ds = some bs → vs = bs.map V.int
  | [], vs, bs, h, e => by cases e; exact h
  | d :: ds, vs, bs, h, e => by
    obtain ⟨v, r, rfl, h1, h2⟩ := h
    cases d with
    | int b =>
      cases q : intsOf ds with
      | none => simp [intsOf, q] at e
      | some cs =>
        simp [intsOf, q] at e
        subst e
        rw [show v = V.int b from h1, intsOf_v h2 q]
        rfl
    | _ => cases e
def pSum : Pr := fun ds => match ds with
  | [.lst xs] => (intsOf xs).map fun bs => PR.d (.int bs.sum)
  | _ => none
theorem pr_sum {K : PySem.W.Frag} : PrimR K pSum (rSum K) := fun F H ds vs Q pr fd rt e q => by
  unfold pSum at e
  split at e
  · rename_i xs
    obtain ⟨v, _, rfl, ⟨p, us, rfl, hp, r1⟩, rfl⟩ := rt
    cases hb : intsOf xs with
    | none => rw [hb] at e; cases e
    | some bs =>
      rw [hb] at e
      cases e
      have := intsOf_v r1 hb
      subst this
      exact ⟨p, bs, rfl, SqL.of hp, q H _ (Same.refl _) rfl⟩
  · cases e
end
end DL
/-! DL10: kinds of values, repr, slices; the rules by name. -/
namespace DL
open PySem PySem.Spec PyProof.Rows L2

section
variable {X : Cx} {W : WX} {B : Bs}
/-! ### isinstance of a built-in class; type(x) == T -/
def tyOf : D → Option String
  | .non => some "NoneType"
  | .bl _ => some "bool"
  | .int _ => some "int"
  | .str _ => some "str"
  | .lst _ => some "list"
  | .fz _ => none
  | .tup _ => some "tuple"
  | .exc _ _ => none
  | .pr _ _ => none
  | .rng _ _ => none
theorem tyX_of {K : PySem.W.Frag} {F : Fz} {H : Hp} : ∀ {d : D} {v : V} {n : String}, RepT K F H d v → tyOf d = some n → TyX K H v (.type n)
  | .non, _, _, h, e => by cases e; rw [show _ = V.non from h]; exact .base .non
  | .bl b, _, _, h, e => by cases e; rw [show _ = V.bl b from h]; exact .base (.bl b)
  | .int b, _, _, h, e => by cases e; rw [show _ = V.int b from h]; exact .base (.int b)
  | .str b, _, _, h, e => by cases e; rw [show _ = V.str b from h]; exact .base (.str b)
  | .lst _, _, _, h, e => by
    cases e
    obtain ⟨a, vs, rfl, ha, _⟩ := h
    exact .base (.lst ha)
  | .tup _, _, _, h, e => by
    cases e
    obtain ⟨a, vs, rfl, ⟨o, _, ha⟩, _⟩ := h
    exact .fTuple ha
  | .fz _, _, _, _, e => by cases e
  | .exc _ _, _, _, _, e => by cases e
  | .pr _ _, _, _, _, e => by cases e
  | .rng _ _, _, _, _, e => by cases e
def pIsI (T : String) : Pr := fun ds => match ds with
  | [d] => ((tyOf d).bind fun a => kitB a T).map fun b => PR.d (.bl b)
  | _ => none
def rIsI1 (K : PySem.W.Frag) (T : String) : Rl := fun vs H Q => match vs with
  | [x] => rIsi K [x, .ty T] H Q
  | _ => False
theorem pr_isI {K : PySem.W.Frag} {T : String} : PrimR K (pIsI T) (rIsI1 K T) := fun F H ds vs Q pr fd rt e q => by
  unfold pIsI at e
  split at e
  · rename_i d
    obtain ⟨v, _, rfl, h1, rfl⟩ := rt
    cases ht : tyOf d with
    | none => rw [ht] at e; cases e
    | some a =>
      rw [ht] at e
      cases hk : kitB a T with
      | none => simp [hk] at e
      | some b =>
        simp [hk] at e
        subst e
        exact ⟨v, .ty T, .type a, .type T, b, rfl, .ty T, tyX_of h1 ht, kit_ty hk, q H _ (Same.refl _) rfl⟩
  · cases e
theorem e_isI {T : String} {y : Str} {e : Expr} {o : Opd} {p py pos : Pos} (ha : DOp X W e o) (hm : X.mg "isinstance" = none) (hm2 : X.mg y = none) (hv2 : bootBuiltins y = some (.type T)) (hg : Gl X "isinstance" := by rfl) (hg2 : Gl X y := by rfl)
    (hn : y ≠ "__name__" := by decide) (hd : (y == ("__debug__" : Str)) = false := by decide)
    (h1 : starEach [e, .Name y py] X.env = (false, eval e X.env) :: starEach [.Name y py] X.env := by rfl) (h2 : starEach [.Name y py] X.env = (false, eval (.Name y py) X.env) :: starEach [] X.env := by rfl)
    (hpl : (backTo pos (starEach [.Name y py] X.env)).any (·.1) = false := by rfl) : DEv X W (.Call (.Name "isinstance" p) [e, .Name y py] [] pos) (dPrim (pIsI T) [o]) := by
  obtain ⟨t, h, s⟩ := ha
  refine ⟨_, pe_callB call_isi hg hm (by decide +kernel) (pa_cons h (pa_cons (pe_bltn (v := .ty T) hg2 hm2 hv2 rfl hn hd) pa_nil h2) h1) (he := h1) (hpl := hpl), ?_⟩
  exact fun O F σ H env Q st g => sem_prim (asem1 s) (pr_isI (T := T)) O F σ H env Q st g
/-- the built-in classes that == tells apart -/
def metaN : List String := ["NoneType", "bool", "int", "str", "list", "tuple"]
theorem meta_of {n : String} (h : metaN.contains n = true) : ∀ s' : Shared, s'.TypeIs (.type n) "type" := by
  have h' : n ∈ metaN := by simpa using h
  simp only [metaN, List.mem_cons, List.not_mem_nil, or_false] at h'
  rcases h' with rfl | rfl | rfl | rfl | rfl | rfl
  · exact PySem.TypeEq.meta_NoneType
  · exact PySem.TypeEq.meta_bool
  · exact PySem.TypeEq.meta_int
  · exact PySem.TypeEq.meta_str
  · exact PySem.TypeEq.meta_list
  · exact PySem.TypeEq.meta_tuple
def rTyEq : R2 := fun x y H Q => ∃ m n, x = .ty m ∧ y = .ty n ∧ metaN.contains m = true ∧ metaN.contains n = true ∧ Q (.bl (decide (m = n))) H
theorem op_tyEq : OpR X (compareOp .Eq) rTyEq := by
  intro pins s σ H x y v u Q I rx ry h
  obtain ⟨m, n, rfl, rfl, h1, h2, q⟩ := h
  cases (show v = Value.type m from rx)
  cases (show u = Value.type n from ry)
  by_cases e : m = n
  · subst e
    rw [decide_eq_true rfl] at q
    exact PySem.TypeEq.eq_type_same (meta_of h1) ⟨.bl true, H, I, rfl, q⟩
  · rw [decide_eq_false e] at q
    exact PySem.TypeEq.eq_type_other (meta_of h1) (meta_of h2) (by rw [ty_beq]; exact decide_eq_false e) ⟨.bl false, H, I, rfl, q⟩
def pTyIs (T : String) : Pr := fun ds => match ds with
  | [d] => if metaN.contains T = true then (tyOf d).map fun a => PR.d (.bl (decide (a = T))) else none
  | _ => none
theorem tyOf_meta : ∀ {d : D} {n : String}, tyOf d = some n → metaN.contains n = true
  | .non, _, e => by cases e; decide
  | .bl b, _, e => by cases e; decide
  | .int b, _, e => by cases e; decide
  | .str b, _, e => by cases e; decide
  | .lst _, _, e => by cases e; decide
  | .tup _, _, e => by cases e; decide
  | .fz _, _, e => by cases e
  | .exc _ _, _, e => by cases e
  | .pr _ _, _, e => by cases e
  | .rng _ _, _, e => by cases e
theorem tyB_of {K : PySem.W.Frag} {F : Fz} {H : Hp} : ∀ {d : D} {v : V} {n : String}, RepT K F H d v → tyOf d = some n → TyB K H v n
  | .non, _, _, h, e => by cases e; rw [show _ = V.non from h]; exact .non
  | .bl b, _, _, h, e => by cases e; rw [show _ = V.bl b from h]; exact .bl b
  | .int b, _, _, h, e => by cases e; rw [show _ = V.int b from h]; exact .int b
  | .str b, _, _, h, e => by cases e; rw [show _ = V.str b from h]; exact .str b
  | .lst _, _, _, h, e => by
    cases e
    obtain ⟨a, vs, rfl, ha, _⟩ := h
    exact .lst (SqL.of ha)
  | .tup _, _, _, h, e => by
    cases e
    obtain ⟨a, vs, rfl, ha, _⟩ := h
    exact .tup ha.sq
  | .fz _, _, _, _, e => by cases e
  | .exc _ _, _, _, _, e => by cases e
  | .pr _ _, _, _, _, e => by cases e
  | .rng _ _, _, _, _, e => by cases e
def rTyIs (K : PySem.W.Frag) (T : String) : Rl := fun vs H Q => rTyp K vs H fun x H' => rTyEq x (.ty T) H' Q
theorem pr_tyIs {K : PySem.W.Frag} {T : String} : PrimR K (pTyIs T) (rTyIs K T) := fun F H ds vs Q pr fd rt e q => by
  unfold pTyIs at e
  split at e
  · rename_i d
    obtain ⟨v, _, rfl, h1, rfl⟩ := rt
    split at e
    · rename_i hT
      cases ht : tyOf d with
      | none => rw [ht] at e; cases e
      | some a =>
        rw [ht] at e
        cases e
        exact ⟨_, a, rfl, tyB_of h1 ht, a, T, rfl, rfl, tyOf_meta ht, hT, q H _ (Same.refl _) rfl⟩
    · cases e
  · cases e
theorem e_tyIs {T : String} {y : Str} {e : Expr} {o : Opd} {p py cp pos : Pos} (ha : DOp X W e o) (hm : X.mg "type" = none) (hm2 : X.mg y = none) (hv2 : bootBuiltins y = some (.type T)) (hg : Gl X "type" := by rfl) (hg2 : Gl X y := by rfl)
    (hn : y ≠ "__name__" := by decide) (hd : (y == ("__debug__" : Str)) = false := by decide)
    (h1 : starEach [e] X.env = (false, eval e X.env) :: starEach [] X.env := by rfl) : DEv X W (.Compare (.Call (.Name "type" p) [e] [] cp) [.Eq] [.Name y py] pos) (dPrim (pTyIs T) [o]) := by
  obtain ⟨t, h, s⟩ := ha
  refine ⟨_, pe_cmpR op_tyEq (pe_callTy call_type1 hg hm (by decide +kernel) (pa_cons h pa_nil h1) (by decide) (by decide) h1 (by rfl)) (pe_bltn (v := .ty T) hg2 hm2 hv2 rfl hn hd) (nomark _), ?_⟩
  exact fun O F σ H env Q st g => sem_prim (asem1 s) (pr_tyIs (T := T)) O F σ H env Q st g
theorem t_tyIs {T : String} {y : Str} {e : Expr} {o : Opd} {p py cp pos : Pos} (ha : DOp X W e o) (hm : X.mg "type" = none) (hm2 : X.mg y = none) (hv2 : bootBuiltins y = some (.type T)) (hg : Gl X "type" := by rfl) (hg2 : Gl X y := by rfl)
    (hn : y ≠ "__name__" := by decide) (hd : (y == ("__debug__" : Str)) = false := by decide)
    (h1 : starEach [e] X.env = (false, eval e X.env) :: starEach [] X.env := by rfl) : DTst X W (.Compare (.Call (.Name "type" p) [e] [] cp) [.Eq] [.Name y py] pos) (dTst (dPrim (pTyIs T) [o])) := by
  obtain ⟨t, h, s⟩ := ha
  refine ⟨_, pt_cmpR op_tyEq (pe_callTy call_type1 hg hm (by decide +kernel) (pa_cons h pa_nil h1) (by decide) (by decide) h1 (by rfl)) (pe_bltn (v := .ty T) hg2 hm2 hv2 rfl hn hd) (nomark _), ?_⟩
  exact sem_tst (t := tOp rTyEq (tCB (rTyp X.K) (tCons t tNil)) (tC (.ty T))) (fun O F σ H env Q st g => sem_prim (asem1 s) (pr_tyIs (T := T)) O F σ H env Q st g) fun σ H Q q => q

/-! ### repr -/
def okR (d : D) : Bool := plain d && SeqAt.shaped (toP d) && (toP d).showable && decide ((toP d).shown.length ≤ sizeLine)
def pRepr : Pr := fun ds => match ds with
  | [d] => if okR d = true then some (.d (.str (toP d).shown)) else none
  | _ => none
def rRepr (K : PySem.W.Frag) : Rl := fun vs H Q => ∃ x d, vs = [x] ∧ Dp K H x d ∧ SeqAt.shaped d = true ∧ d.showable = true ∧ d.shown.length ≤ sizeLine ∧ Q (.str d.shown) H
theorem pr_repr {K : PySem.W.Frag} : PrimR K pRepr (rRepr K) := fun F H ds vs Q pr fd rt e q => by
  unfold pRepr at e
  split at e
  · rename_i d
    obtain ⟨v, _, rfl, h1, rfl⟩ := rt
    split at e
    · rename_i hk
      cases e
      have k1 := Bool.and_eq_true_iff.mp hk
      have k2 := Bool.and_eq_true_iff.mp k1.1
      have k3 := Bool.and_eq_true_iff.mp k2.1
      exact ⟨v, toP d, rfl, dp_top k3.1 h1, k3.2, k2.2, of_decide_eq_true k1.2, q H _ (Same.refl _) rfl⟩
    · cases e
  · cases e
theorem call_repr {k : Nat} (hr : GRoom k X.A) : CallR X (.builtin "repr") (rRepr X.K) := by
  intro pins s σ H xs us Q I r h
  obtain ⟨x, d, rfl, dp, sh, sw, sz, q⟩ := h
  obtain ⟨u, rfl, ru⟩ := vals1 r
  have fin : ∀ (h' : Heap) (y : Tok) (tk : Nat), (∀ b o, s.heap.get? b = some o → h'.get? b = some o) → EP X pins σ Q (.str d.shown y) { s with heap := h', toks := tk } := fun h' y tk hk => ⟨.str d.shown, H, I.kept (t' := tk) hk, ⟨y, rfl⟩, q⟩
  have fin0 : ∀ (y : Tok) (tk : Nat), EP X pins σ Q (.str d.shown y) { s with toks := tk } := fun y tk => fin s.heap y tk fun _ _ e => e
  obtain ⟨as, rd⟩ := Dp.reads I d x u dp ru
  cases dp with
  | non => cases ru; exact PySem.P.repr_of_none (fin0 _ _)
  | bl b => cases ru; exact PySem.P.repr_of_bool (fin0 _ _)
  | int i =>
    obtain ⟨t, rfl⟩ := ru
    exact PySem.P.repr_of_int (by simpa [PyData.showable] using sw) (fin0 _ _)
  | str x =>
    obtain ⟨t, rfl⟩ := ru
    exact PySem.P.repr_of_str (fin0 _ _) sz
  | lst hs ha =>
    cases ru
    have hd := SeqAt.depth_of_shaped sh
    refine repr_of_reads' rd sw (PyData.noDict_hsm (PyData.hasDict_of_canLay _ (SeqAt.canLay_of_shaped sh))) hr.gd ?_ (fun _ _ e => e) (fun h' y tk hk => fin h' y tk hk) sz
    have := hr.room.un
    omega
  | tup hs ha =>
    cases ru
    have hd := SeqAt.depth_of_shaped sh
    refine repr_of_reads' rd sw (PyData.noDict_hsm (PyData.hasDict_of_canLay _ (SeqAt.canLay_of_shaped sh))) hr.gd ?_ (fun _ _ e => e) (fun h' y tk hk => fin h' y tk hk) sz
    have := hr.room.un
    omega

/-! ### slices -/
def dPart (m : Option DE) : DEnv → R (Option Int) := fun env => match m with
  | none => .ok none env
  | some m => (m env).bind fun r env1 => match r with
    | ⟨.shr, .int i⟩ => .ok (some i) env1
    | _ => .bad
def PoSem (X : Cx) (W : WX) (t : TO) (m : Option DE) : Prop := ∀ O F σ H env (Q : Option Int → Hp → Prop), StOk X.K O F H σ env → (match dPart m env with
  | .ok o env' => ∀ F' H', Ext O F H F' H' → StOk X.K O F' H' σ env' → Q o H'
  | .err x env' => ∀ F' H' cls d, Ext O F H F' H' → StOk X.K O F' H' σ env' → ExcRep X.mg F' H' x cls d → W cls d σ H'
  | .bad => False) → t σ H Q
def DPo (X : Cx) (W : WX) (e : Option Expr) (m : Option DE) : Prop := ∃ t, PO X e t ∧ PoSem X W t m
theorem p_none : DPo X W none none := ⟨_, po_none, fun O F σ H env Q st g => g F H Ext.refl st⟩
theorem p_some {e : Expr} {m : DE} (h : DEv X W e m) : DPo X W (some e) (some m) := by
  obtain ⟨t, p, s⟩ := h
  refine ⟨_, po_some p, fun O F σ H env Q st g => s O F σ H env _ st ?_⟩
  simp only [dPart] at g
  cases q : m env with
  | bad => rw [q] at g; exact g.elim
  | err x e => rw [q] at g; exact g
  | ok r env1 =>
    rw [q] at g
    simp only [R.bind] at g
    intro F1 H1 v E1 s1 r1
    obtain ⟨md, d⟩ := r
    cases md with
    | shr =>
      cases d with
      | int i => exact ⟨i, r1, g F1 H1 E1 s1⟩
      | _ => exact g.elim
    | _ => exact g.elim
abbrev Ps := D → Option Int → Option Int → Option PR
def dSlice (p : Ps) (o : Opd) (lo hi : Option DE) : DE := fun env => (evOs [o] env).bind fun avs env1 => (dPart lo env1).bind fun l env2 => (dPart hi env2).bind fun u env3 => match getAVs env3 avs with
  | some [d] => (match p d l u with
    | some r => .ok r.ent env3
    | none => .bad)
  | _ => .bad
def SliceR (K : PySem.W.Frag) (p : Ps) (r : V → Option Int → Option Int → Hp → VK → Prop) : Prop := ∀ (F : Fz) (H : Hp) (d : D) (v : V) (l u : Option Int) (Q : VK) (pr : PR), (∀ a, F a → H a ≠ none) → RepT K F H d v → p d l u = some pr → (∀ H' v, Same H H' → PRep K F H H' pr v → Q v H') → r v l u H Q
theorem e_slice {p : Ps} {r : V → Option Int → Option Int → Hp → VK → Prop} {e : Expr} {lo hi : Option Expr} {o : Opd} {ml mh : Option DE} {p2 pos : Pos} (hr : SlR X r) (hp : SliceR X.K p r) (he : DOp X W e o) (hl : DPo X W lo ml) (hh : DPo X W hi mh) : DEv X W (.Subscript e (.Slice lo hi none p2) pos) (dSlice p o ml mh) := by
  obtain ⟨te, h1, s1⟩ := he
  obtain ⟨tl, h2, s2⟩ := hl
  obtain ⟨th, h3, s3⟩ := hh
  refine ⟨_, pe_slice hr h1 h2 h3, fun O F σ H env Q st g => ?_⟩
  have main := asem1 s1 O F σ H env (fun vs H1 => match vs with
    | [x] => tl σ H1 fun l H2 => th σ H2 fun u H3 => r x l u H3 Q
    | _ => False) st
  refine main ?_
  clear main
  unfold dSlice at g
  cases q : evOs [o] env with
  | bad => rw [q] at g; exact g.elim
  | err x e => rw [q] at g; exact g
  | ok avs env1 =>
    rw [q] at g
    simp only [R.bind] at g
    intro F1 H1 vs E1 st1 r1
    have lv : vs.length = 1 := by rw [AVs.length r1, lenO q]; rfl
    obtain ⟨v, rfl⟩ : ∃ v, vs = [v] := by
      cases vs with
      | nil => cases lv
      | cons v r =>
        cases r with
        | nil => exact ⟨v, rfl⟩
        | cons _ _ => simp at lv
    refine s2 O F1 σ H1 env1 _ st1 ?_
    cases q2 : dPart ml env1 with
    | bad => rw [q2] at g; exact g.elim
    | err x e => rw [q2] at g; exact fun F' H' c d e' s' r => g F' H' c d (E1.trans e') s' r
    | ok l env2 =>
      rw [q2] at g
      simp only [] at g
      intro F2 H2 E2 st2
      refine s3 O F2 σ H2 env2 _ st2 ?_
      cases q3 : dPart mh env2 with
      | bad => rw [q3] at g; exact g.elim
      | err x e => rw [q3] at g; exact fun F' H' c d e' s' r => g F' H' c d ((E1.trans E2).trans e') s' r
      | ok u env3 =>
        rw [q3] at g
        simp only [] at g
        intro F3 H3 E3 st3
        have r3 := (r1.ext E2).ext E3
        split at g
        · rename_i d hd
          obtain ⟨_, _, e1, rt, e2⟩ := AVs.tops st3 r3 hd
          cases e1
          split at g
          · rename_i pr hpr
            exact hp F3 H3 d v l u Q pr st3.fdom rt hpr fun H' w sm pv => g F3 H' w (((E1.trans E2).trans E3).trans (Ext.same sm st3.odom)) (st3.same sm) (prep_ent st3 pv)
          · exact g.elim
        · exact g.elim
/-- the part of a list of data -/
def cutD (xs : List D) (lo hi : Option Int) : List D := (xs.drop (HT.sIx xs.length 0 lo)).take (HT.sIx xs.length xs.length hi - HT.sIx xs.length 0 lo)
theorem cutD_v {K : PySem.W.Frag} {F : Fz} {H : Hp} {xs : List D} {vs : List V} (r : RepL K F H xs vs) (lo hi : Option Int) : RepL K F H (cutD xs lo hi) (cutV vs lo hi) := by
  unfold cutD cutV
  rw [r.length]
  exact (r.drop _).take _
def pSlice : Ps := fun d l u => match d with
  | .lst xs => some (.nl (cutD xs l u))
  | .fz xs => some (.nl (cutD xs l u))
  | .tup xs => some (.d (.tup (cutD xs l u)))
  | _ => none
def rSlAll (K : PySem.W.Frag) : V → Option Int → Option Int → Hp → VK → Prop := fun x lo hi H Q => rSlL K x lo hi H Q ∨ rSlTL K x lo hi H Q
theorem sl_all : SlR X (rSlAll X.K) := sl_list.or sl_tupL
theorem sr_all {K : PySem.W.Frag} : SliceR K pSlice (rSlAll K) := fun F H d v l u Q pr fd rt e q => by
  unfold pSlice at e
  split at e
  · rename_i xs
    cases e
    obtain ⟨a, vs, rfl, ha, r⟩ := rt
    exact .inl ⟨a, vs, rfl, SqL.of ha, fun c hc => q _ _ (same_new hc) ⟨c, _, rfl, hc, upd_same, repL_same (same_new hc) (cutD_v r l u)⟩⟩
  · rename_i xs
    cases e
    obtain ⟨a, vs, rfl, ha, r⟩ := rt
    exact .inl ⟨a, vs, rfl, ha.sq, fun c hc => q _ _ (same_new hc) ⟨c, _, rfl, hc, upd_same, repL_same (same_new hc) (cutD_v r l u)⟩⟩
  · rename_i xs
    cases e
    obtain ⟨a, vs, rfl, ha, r⟩ := rt
    refine .inr ⟨a, vs, rfl, ha.sq, fun z => ?_, fun _ c o hd hc => q _ _ (same_new hc) ⟨c, _, rfl, ⟨o, hd, upd_same⟩, repL_same (same_new hc) (cutD_v r l u)⟩⟩
    refine q H _ (Same.refl _) ⟨a, vs, rfl, ha, ?_⟩
    have hw : cutD xs l u = xs := by
      unfold cutD
      rw [r.length] at z
      rw [z.1, z.2, List.drop_zero, Nat.sub_zero, List.take_length]
    rw [hw]
    exact r
  · cases e
end
end DL
/-! DL11: the rules by short names. -/
namespace DL
open PySem PySem.Spec PyProof.Rows L2

section
variable {X : Cx} {W : WX} {B : Bs} {a b : Expr} {oa ob : Opd} {pos : Pos}
theorem x_add (ha : DOp X W a oa) (hb : DOp X W b ob) : DEv X W (.BinOp a .Add b pos) (dPrim pAdd [oa, ob]) := e_op op_addAll pr_add ha hb
theorem x_sub (ha : DOp X W a oa) (hb : DOp X W b ob) : DEv X W (.BinOp a .Sub b pos) (dPrim pSub [oa, ob]) := e_op op_sub pr_sub ha hb
theorem x_mul (ha : DOp X W a oa) (hb : DOp X W b ob) : DEv X W (.BinOp a .Mult b pos) (dPrim pMul [oa, ob]) := e_op op_mulAll pr_mul ha hb
theorem x_fdiv (ha : DOp X W a oa) (hb : DOp X W b ob) : DEv X W (.BinOp a .FloorDiv b pos) (dPrim pFdiv [oa, ob]) := e_op op_fdivW pr_fdiv ha hb
theorem x_mod (ha : DOp X W a oa) (hb : DOp X W b ob) : DEv X W (.BinOp a .Mod b pos) (dPrim pMod [oa, ob]) := e_op op_mod pr_mod ha hb
theorem x_pow (ha : DOp X W a oa) (hb : DOp X W b ob) : DEv X W (.BinOp a .Pow b pos) (dPrim pPow [oa, ob]) := e_op op_pow pr_pow ha hb
theorem x_neg (ha : DOp X W a oa) : DEv X W (.UnaryOp .USub a pos) (dPrim pNeg [oa]) := e_un un_neg pr_neg ha
theorem x_lt (ha : DOp X W a oa) (hb : DOp X W b ob) : DEv X W (.Compare a [.Lt] [b] pos) (dPrim pLt [oa, ob]) := e_cmp op_lt pr_cmp ha hb (nomark _)
theorem x_le (ha : DOp X W a oa) (hb : DOp X W b ob) : DEv X W (.Compare a [.LtE] [b] pos) (dPrim pLe [oa, ob]) := e_cmp op_le pr_cmp ha hb (nomark _)
theorem x_gt (ha : DOp X W a oa) (hb : DOp X W b ob) : DEv X W (.Compare a [.Gt] [b] pos) (dPrim pGt [oa, ob]) := e_cmp op_gt pr_cmp ha hb (nomark _)
theorem x_ge (ha : DOp X W a oa) (hb : DOp X W b ob) : DEv X W (.Compare a [.GtE] [b] pos) (dPrim pGe [oa, ob]) := e_cmp op_ge pr_cmp ha hb (nomark _)
theorem y_lt (ha : DOp X W a oa) (hb : DOp X W b ob) : DTst X W (.Compare a [.Lt] [b] pos) (dTst (dPrim pLt [oa, ob])) := t_cmp op_lt pr_cmp ha hb (nomark _)
theorem y_le (ha : DOp X W a oa) (hb : DOp X W b ob) : DTst X W (.Compare a [.LtE] [b] pos) (dTst (dPrim pLe [oa, ob])) := t_cmp op_le pr_cmp ha hb (nomark _)
theorem y_gt (ha : DOp X W a oa) (hb : DOp X W b ob) : DTst X W (.Compare a [.Gt] [b] pos) (dTst (dPrim pGt [oa, ob])) := t_cmp op_gt pr_cmp ha hb (nomark _)
theorem y_ge (ha : DOp X W a oa) (hb : DOp X W b ob) : DTst X W (.Compare a [.GtE] [b] pos) (dTst (dPrim pGe [oa, ob])) := t_cmp op_ge pr_cmp ha hb (nomark _)
variable {k : Nat}
theorem units_of (hr : GRoom k X.A) : X.A.units + 64 < cLine := by have := hr.room.un; omega
theorem x_eq (hr : GRoom k X.A) (ha : DOp X W a oa) (hb : DOp X W b ob) : DEv X W (.Compare a [.Eq] [b] pos) (dPrim pEq [oa, ob]) := e_cmp (op_eqD (units_of hr)) pr_eq ha hb (nomark _)
theorem x_ne (hr : GRoom k X.A) (ha : DOp X W a oa) (hb : DOp X W b ob) : DEv X W (.Compare a [.NotEq] [b] pos) (dPrim pNe [oa, ob]) := e_cmp (op_neD (units_of hr)) pr_ne ha hb (nomark _)
theorem y_eq (hr : GRoom k X.A) (ha : DOp X W a oa) (hb : DOp X W b ob) : DTst X W (.Compare a [.Eq] [b] pos) (dTst (dPrim pEq [oa, ob])) := t_cmp (op_eqD (units_of hr)) pr_eq ha hb (nomark _)
theorem y_ne (hr : GRoom k X.A) (ha : DOp X W a oa) (hb : DOp X W b ob) : DTst X W (.Compare a [.NotEq] [b] pos) (dTst (dPrim pNe [oa, ob])) := t_cmp (op_neD (units_of hr)) pr_ne ha hb (nomark _)
theorem x_isN (ha : DOp X W a oa) (hb : DOp X W b ob) : DEv X W (.Compare a [.Is] [b] pos) (dPrim pIsN [oa, ob]) := e_cmp op_isN pr_isN ha hb (nomark _)
theorem x_notN (ha : DOp X W a oa) (hb : DOp X W b ob) : DEv X W (.Compare a [.IsNot] [b] pos) (dPrim pNotN [oa, ob]) := e_cmp op_notN pr_notN ha hb (nomark _)
theorem y_isN (ha : DOp X W a oa) (hb : DOp X W b ob) : DTst X W (.Compare a [.Is] [b] pos) (dTst (dPrim pIsN [oa, ob])) := t_cmp op_isN pr_isN ha hb (nomark _)
theorem y_notN (ha : DOp X W a oa) (hb : DOp X W b ob) : DTst X W (.Compare a [.IsNot] [b] pos) (dTst (dPrim pNotN [oa, ob])) := t_cmp op_notN pr_notN ha hb (nomark _)
theorem x_isB (ha : DOp X W a oa) (hb : DOp X W b ob) : DEv X W (.Compare a [.Is] [b] pos) (dPrim pIsB [oa, ob]) := e_cmp op_isBl pr_isB ha hb (nomark _)
theorem x_notB (ha : DOp X W a oa) (hb : DOp X W b ob) : DEv X W (.Compare a [.IsNot] [b] pos) (dPrim pNotB [oa, ob]) := e_cmp op_notBl pr_notB ha hb (nomark _)
theorem y_isB (ha : DOp X W a oa) (hb : DOp X W b ob) : DTst X W (.Compare a [.Is] [b] pos) (dTst (dPrim pIsB [oa, ob])) := t_cmp op_isBl pr_isB ha hb (nomark _)
theorem y_notB (ha : DOp X W a oa) (hb : DOp X W b ob) : DTst X W (.Compare a [.IsNot] [b] pos) (dTst (dPrim pNotB [oa, ob])) := t_cmp op_notBl pr_notB ha hb (nomark _)
theorem x_in (hm : behindInMarks .In b = false) (ha : DOp X W a oa) (hb : DOp X W b ob) : DEv X W (.Compare a [.In] [b] pos) (dPrim (pInN false) [oa, ob]) := e_cmp op_in_seq pr_in ha hb hm
theorem x_notIn (hm : behindInMarks .NotIn b = false) (ha : DOp X W a oa) (hb : DOp X W b ob) : DEv X W (.Compare a [.NotIn] [b] pos) (dPrim (pInN true) [oa, ob]) := e_cmp op_notIn_seq pr_in ha hb hm
theorem y_in (hm : behindInMarks .In b = false) (ha : DOp X W a oa) (hb : DOp X W b ob) : DTst X W (.Compare a [.In] [b] pos) (dTst (dPrim (pInN false) [oa, ob])) := t_cmp op_in_seq pr_in ha hb hm
theorem y_notIn (hm : behindInMarks .NotIn b = false) (ha : DOp X W a oa) (hb : DOp X W b ob) : DTst X W (.Compare a [.NotIn] [b] pos) (dTst (dPrim (pInN true) [oa, ob])) := t_cmp op_notIn_seq pr_in ha hb hm
theorem x_ix (ha : DOp X W a oa) (hb : DOp X W b ob) (hs : PlainIx b) : DEv X W (.Subscript a b pos) (dPrim pIx [oa, ob]) := e_ix ix_seq pr_ix ha hb hs
theorem x_slice {lo hi : Option Expr} {ml mh : Option DE} {p2 : Pos} (ha : DOp X W a oa) (hl : DPo X W lo ml) (hh : DPo X W hi mh) : DEv X W (.Subscript a (.Slice lo hi none p2) pos) (dSlice pSlice oa ml mh) := e_slice sl_all sr_all ha hl hh
variable {p : Pos} {e : Expr} {o : Opd}
/-- one argument of a built-in -/
abbrev S1 (X : Cx) (e : Expr) : Prop := starEach (e :: []) X.env = (false, eval e X.env) :: starEach [] X.env
theorem a1 (ha : DOp X W e o) (hs : S1 X e) : DAs X W [e] [o] := a_cons ha a_nil hs
theorem x_len (hm : X.mg "len" = none) (ha : DOp X W e o) (hg : Gl X "len" := by rfl) (hs : S1 X e := by rfl) (hpl : (backTo pos (starEach [] X.env)).any (·.1) = false := by rfl) : DEv X W (.Call (.Name "len" p) [e] [] pos) (dPrim pLen [o]) := e_callB call_len pr_len hg hm PySem.boot_len (a1 ha hs) (he := hs) (hpl := hpl)
theorem x_repr (hr : GRoom k X.A) (hm : X.mg "repr" = none) (ha : DOp X W e o) (hg : Gl X "repr" := by rfl) (hs : S1 X e := by rfl) (hpl : (backTo pos (starEach [] X.env)).any (·.1) = false := by rfl) : DEv X W (.Call (.Name "repr" p) [e] [] pos) (dPrim pRepr [o]) := e_callB (call_repr hr) pr_repr hg hm (by decide +kernel) (a1 ha hs) (he := hs) (hpl := hpl)
theorem x_all (hc : X.calm = true) (hm : X.mg "all" = none) (ha : DOp X W e o) (hg : Gl X "all" := by rfl) (hs : S1 X e := by rfl) (hpl : (backTo pos (starEach [] X.env)).any (·.1) = false := by rfl) : DEv X W (.Call (.Name "all" p) [e] [] pos) (dPrim pAll [o]) := e_callB (cr_all hc) pr_all hg hm (by decide +kernel) (a1 ha hs) (he := hs) (hpl := hpl)
theorem x_any (hc : X.calm = true) (hm : X.mg "any" = none) (ha : DOp X W e o) (hg : Gl X "any" := by rfl) (hs : S1 X e := by rfl) (hpl : (backTo pos (starEach [] X.env)).any (·.1) = false := by rfl) : DEv X W (.Call (.Name "any" p) [e] [] pos) (dPrim pAny [o]) := e_callB (cr_any hc) pr_any hg hm (by decide +kernel) (a1 ha hs) (he := hs) (hpl := hpl)
theorem x_sum (hc : X.calm = true) (hm : X.mg "sum" = none) (ha : DOp X W e o) (hg : Gl X "sum" := by rfl) (hs : S1 X e := by rfl) (hpl : (backTo pos (starEach [] X.env)).any (·.1) = false := by rfl) : DEv X W (.Call (.Name "sum" p) [e] [] pos) (dPrim pSum [o]) := e_callB (cr_sum hc) pr_sum hg hm (by decide +kernel) (a1 ha hs) (he := hs) (hpl := hpl)
theorem x_int (hm : X.mg "int" = none) (ha : DOp X W e o) (hg : Gl X "int" := by rfl) (hs : S1 X e := by rfl) (hpl : (backTo pos (starEach [] X.env)).any (·.1) = false := by rfl) : DEv X W (.Call (.Name "int" p) [e] [] pos) (dPrim pIntOf [o]) := e_callTy call_int1 pr_intOf hg hm (by decide +kernel) (a1 ha hs) (he := hs) (hpl := hpl)
theorem x_tuple (hm : X.mg "tuple" = none) (ha : DOp X W e o) (hg : Gl X "tuple" := by rfl) (hs : S1 X e := by rfl) (hpl : (backTo pos (starEach [] X.env)).any (·.1) = false := by rfl) : DEv X W (.Call (.Name "tuple" p) [e] [] pos) (dPrim pTupOf [o]) := e_callTy call_tuple_ofL pr_tupOf hg hm (by decide +kernel) (a1 ha hs) (he := hs) (hpl := hpl)
theorem x_list (hm : X.mg "list" = none) (ha : DOp X W e o) (hg : Gl X "list" := by rfl) (hs : S1 X e := by rfl) (hpl : (backTo pos (starEach [] X.env)).any (·.1) = false := by rfl) : DEv X W (.Call (.Name "list" p) [e] [] pos) (dPrim pLstOf [o]) := e_callTy call_list_of pr_lstOf hg hm (by decide +kernel) (a1 ha hs) (he := hs) (hpl := hpl)
theorem x_max (hc : X.calm = true) (hm : X.mg "max" = none) (ha : DAs X W [a, b] [oa, ob]) (hg : Gl X "max" := by rfl) (hs : starEach [a, b] X.env = (false, eval a X.env) :: starEach [b] X.env := by rfl) (hpl : (backTo pos (starEach [b] X.env)).any (·.1) = false := by rfl) : DEv X W (.Call (.Name "max" p) [a, b] [] pos) (dPrim pMax [oa, ob]) := e_callB (call_max2 hc) pr_max hg hm (by decide +kernel) ha (he := hs) (hpl := hpl)
theorem x_min (hc : X.calm = true) (hm : X.mg "min" = none) (ha : DAs X W [a, b] [oa, ob]) (hg : Gl X "min" := by rfl) (hs : starEach [a, b] X.env = (false, eval a X.env) :: starEach [b] X.env := by rfl) (hpl : (backTo pos (starEach [b] X.env)).any (·.1) = false := by rfl) : DEv X W (.Call (.Name "min" p) [a, b] [] pos) (dPrim pMin [oa, ob]) := e_callB (call_min2 hc) pr_min hg hm (by decide +kernel) ha (he := hs) (hpl := hpl)
/-- a target that is not a name alone -/
def dAsg (g : DG) (m : DE) : DS := fun env => (m env).bind fun r env1 => match g r.d env1 with
  | some env2 => .ok .nx env2
  | none => .bad
theorem s_asg {tg : Expr} {g : DG} {m : DE} (hm : DEv X W e m) (hg : DTg X B tg g) (hs : swapsWithSole [tg] e pos.line X.env = pure false := by rfl) (hw : swappedStores [tg] e X.env = pure none := by rfl) (hz : (assignEach [tg] X.env).map (·.2) = [assign tg X.env] := by rfl) : DSt X W B (.Assign [tg] e pos) (dAsg g m) := by
  obtain ⟨te, h1, s1⟩ := hm
  obtain ⟨tg', h2, s2⟩ := hg
  refine ⟨_, ps_asg h1 h2 hs hw hz, fun O F σ H env Dn st g0 => s1 O F σ H env _ st ?_⟩
  unfold dAsg at g0
  cases q : m env with
  | bad => rw [q] at g0; exact g0.elim
  | err x e => rw [q] at g0; exact fun F' H' c d e' s' r => g0 F' H' σ c d e' s' Keeps.refl r
  | ok r env1 =>
    rw [q] at g0
    simp only [R.bind] at g0
    intro F1 H1 v E1 st1 r1
    obtain ⟨F2, E2, st2, r2⟩ := freeze st1 r1
    cases q2 : g r.d env1 with
    | none => rw [q2] at g0; exact g0.elim
    | some env2 =>
      rw [q2] at g0
      exact s2 O F2 σ H1 env1 r.d v env2 _ st2 r2 q2 fun σ' st' k' => g0 F2 H1 σ' (E1.trans E2) st' k'
end
end DL
/-! DL12: the law's end; the data's own rules for reckoning. -/
namespace DL
open PySem PySem.Spec PyProof.Rows L2
def dInts (ns : List Int) : List D := ns.map D.int
theorem repL_ints {K : PySem.W.Frag} {F : Fz} {H : Hp} : ∀ ns : List Int, RepL K F H (dInts ns) (ns.map V.int)
  | [] => RepL.nil
  | n :: ns => RepL.cons rfl (repL_ints ns)
theorem law_end {K : PySem.W.Frag} {mg : Str → Option Value} {H : Hp} {a : Addr} {ns : List Int} {f : DFn} (hS : SqF K H a (ns.map V.int)) (h : ∃ o, f [⟨.shr, .fz (dInts ns)⟩] = .ok ⟨.shr, .bl true⟩ o) : spD K mg false 1 f [.ref a] H (fun v _ => v = .bl true) fun _ _ _ => False := by
  obtain ⟨o, h⟩ := h
  refine ⟨fun _ => False, fun _ => False, [⟨.shr, .fz (dInts ns)⟩], rfl, ⟨rfl, fun i d q => ?_, fun i m d q hm => ?_, fun i j b ⟨m, d, q, hm, _⟩ => ?_, fun _ z => z.elim, fun _ z => z.elim⟩, ?_⟩
  · cases i with
    | zero =>
      simp at q
      subst q
      exact ⟨.ref a, rfl, a, _, rfl, hS, repL_ints ns⟩
    | succ i => simp at q
  · cases i with
    | zero =>
      simp at q
      exact absurd q.1.symm hm
    | succ i => simp at q
  · cases i with
    | zero =>
      simp at q
      exact absurd q.1.symm hm
    | succ i => simp at q
  · rw [h]
    intro F' H' v _ _ r
    exact r
end DL
/-! DLS: t[::-1] of a tuple. -/
namespace DL
open PySem PySem.Spec PyProof.Rows L2
section
variable {prog : Program} {w : World} {A : Around} {E : Value → Shared → Prop} {s : Shared}
theorem places_back (n : Nat) : Builtin.Slice.slicePlaces ((n : Int) - 1) (-1) (-1) = n := by
  unfold Builtin.Slice.slicePlaces
  rw [if_neg (by omega)]
  split
  · rw [show ((n : Int) - 1 - -1 - 1) / (- -1) + 1 = (n : Int) by
      rw [show (- -1 : Int) = 1 by decide, Int.ediv_one]; omega]
    omega
  · omega
theorem applied_back {sl : Addr} {vk : Value} {n : Nat} {Q : Int × Int × Nat → Shared → Prop} (hs : s.heap.IsSliceOf sl .none .none vk) (pk : IsPart vk (some (-1))) (h : Q ((n : Int) - 1, -1, n) s) :
    wpAny (model prog w) A (Builtin.Slice.sliceApplied (.ref sl) (pure (n : Int))) Q E s := by
  obtain ⟨os, hos, hcs, hds⟩ := id hs
  unfold Builtin.Slice.sliceApplied Builtin.Slice.sliceFields
  refine wpAny_bind (wpAny_bind (wpAny_field hos hds (x := .none) rfl (wpAny_bind (wpAny_field hos hds (x := .none) rfl (wpAny_bind (wpAny_field hos hds (x := vk) rfl (wpAny_pure ?_)))))))
  refine wpAny_bind (HT.slicePart_ pk ?_)
  show wpAny _ _ (if ((-1 : Int) == 0) = true then _ else _) _ _ s
  rw [if_neg (by decide)]
  refine wpAny_bind (slicePart_none (wpAny_bind (slicePart_none (wpAny_bind (wpAny_pure ?_)))))
  show wpAny _ _ (pure ((n : Int) - 1, (-1 : Int), Builtin.Slice.slicePlaces ((n : Int) - 1) (-1) (-1))) _ _ s
  rw [places_back]
  exact wpAny_pure h
theorem pick_back (xs : Array Value) : ((List.range xs.size).filterMap fun (m : Nat) => xs[((xs.size : Int) - 1 + (m : Int) * (-1)).toNat]?).toArray = xs.toList.reverse.toArray := by
  have e : (List.range xs.size).filterMap (fun (m : Nat) => xs[((xs.size : Int) - 1 + (m : Int) * (-1)).toNat]?) = ((List.range xs.size).map (fun k => xs.size - 1 - k)).filterMap (xs[·]?) := by
    rw [List.filterMap_map]
    congr 1
    funext m
    have : ((xs.size : Int) - 1 + (m : Int) * (-1)).toNat = xs.size - 1 - m := by omega
    rw [this]
    rfl
  rw [e, PySem.W.krv_range, List.filterMap_reverse, PySem.W.krv_all]
theorem getItem_back {t sl : Addr} {items : Array Value} {vk : Value} {Q : Value → Shared → Prop} (ht : IsTup s.heap t items) (hs : s.heap.IsSliceOf sl .none .none vk) (pk : IsPart vk (some (-1)))
    (h : Q (.ref s.heap.objs.size) { s with heap := s.heap.push { cls := .type "tuple", data := .seq items.toList.reverse.toArray } })
    (hsz : items.size ≤ sizeLine) : wpAny (model prog w) A (getItem (.ref t) (.ref sl)) Q E s := by
  have htake : sizeOk (.seq items.toList.reverse.toArray) := by
    show items.toList.reverse.toArray.size ≤ sizeLine
    rw [List.size_toArray, List.length_reverse, Array.length_toList]
    exact hsz
  obtain ⟨os, hos, hcs, hds⟩ := id hs
  have hTs : s.TypeIs (.ref sl) "slice" := ⟨os, hos, hcs⟩
  unfold getItem
  try with_reducible refine wpAny_holding ?_
  first | refine wpAny_bind (wpAny_pure ?_) | skip
  refine wpAny_bind (wpAny_sequenceKey ht.typeIs (by decide) ?_)
  refine wpAny_bind (wpAny_callSpecial?_slot (name := Str.ofString "__getitem__") ht.typeIs PyProof.Rows.slot_tuple_getitem
    (wpAny_call_entry PyProof.Rows.slot_tuple_getitem ht.typeIs entry_tuple_getitem ?_ (args_tuple_getitem _ _)))
  show wpAny _ _ (Builtin.Tuple.tupleItemsOf (.ref t) >>= _) _ _ s
  refine wpAny_bind (tupleItemsOf_ ht ?_)
  refine wpAny_bind (wpAny_typeOf hTs ?_)
  rw [if_pos (by decide)]
  refine wpAny_bind (applied_back hs pk ?_)
  have hno : ¬ ((((items.size : Int) - 1 == 0) && ((-1 : Int) == 1) && (items.size == items.size)) = true) := by simp
  show wpAny _ _ (if (((items.size : Int) - 1 == 0) && ((-1 : Int) == 1) && (items.size == items.size)) = true then _ else _) _ _ s
  rw [if_neg hno, pick_back]
  first
    | exact wpAny_bind (m := Builtin.Tuple.tupleExact _) (wpAny_newObj_type (wpAny_pure ⟨_, rfl, wpAny_pure h⟩) htake)
    | exact wpAny_bind (m := Builtin.Tuple.tupleExact _) (wpAny_newObj_type (wpAny_bind (wpAny_pure (wpAny_pure ⟨_, rfl, wpAny_pure h⟩))) htake)
    | exact wpAny_bind (wpAny_bind (m := Builtin.Tuple.tupleExact _) (wpAny_newObj_type (wpAny_pure (wpAny_pure ⟨_, rfl, wpAny_pure h⟩)) htake))
    | exact wpAny_bind (wpAny_bind (m := Builtin.Tuple.tupleExact _) (wpAny_newObj_type (wpAny_pure ⟨_, rfl, wpAny_pure h⟩) htake))
end
section
variable {X : Cx} {W : WX}
/-- t[::k], k being -1 -/
def rBack (K : PySem.W.Frag) : R2 := fun x y H Q => y = .int (-1) ∧ ∃ a xs, x = .ref a ∧ SqT K H a xs ∧ NewT xs.reverse H Q
theorem pe_back {e k : Expr} {te tk : TE} {p2 pos : Pos} (he : PE X e te) (hk : PE X k tk) (hs : ∀ v u : Value, subscripted (.Slice none none (some k) p2) false v u = operate [v, u] (getItem v u)) : PE X (.Subscript e (.Slice none none (some k) p2) pos) (tOp (rBack X.K) te tk) := by
  refine ⟨fun pins s σ H Q I h => ?_⟩
  refine Subscript_ (thn (he.run pins s σ H _ I h) fun v s1 ⟨x, H1, I1, r1, q1⟩ => ?_)
  refine wpAny_Slice ?_
  refine wpAny_pure (wpAny_pure ?_)
  rw [evalPart_some]
  refine thn (hk.run pins s1 σ H1 _ I1 q1) fun u s2 ⟨y, H2, I2, r2, q2⟩ => ?_
  obtain ⟨rfl, a, xs, rfl, hx, q⟩ := q2
  obtain ⟨t, rfl⟩ := r2
  cases r1
  have I4 : Inv X pins σ H2 { s2 with heap := s2.heap.push { cls := .type "slice", data := .fields #[.none, .none, .int (-1) t] } } := I2.kept (t' := s2.toks) fun b ob q => Heap.get?_push_of_some _ q
  obtain ⟨its, r, ht, hz⟩ := I4.tuple hx
  have hg := getItem_back (prog := X.prog) (w := X.w) (A := X.A) (E := X.xe) (Q := EP X pins σ Q) ht (Heap.IsSliceOf.new ..) (.int (-1) t) (lay_tup I4 r.reverse (by rw [List.length_reverse]; exact hz) q) (by rw [List.size_toArray, ← r.length]; exact hz)
  exact tail_any (ops := [.ref a, .ref s2.heap.objs.size]) ht.typeIs PyProof.Rows.slot_tuple_getitem.lookup hg (hs _ _)
def pBack : Pr := fun ds => match ds with
  | [.tup xs, .int i] => if i = -1 then some (.d (.tup xs.reverse)) else none
  | _ => none
theorem pr_back {K : PySem.W.Frag} : PrimR K pBack (two (rBack K)) := fun F H ds vs Q pr fd rt e q => by
  unfold pBack at e
  split at e
  · split at e
    · rename_i hi
      subst hi
      obtain ⟨v, _, rfl, ⟨p, us, rfl, hp, r1⟩, v2, _, rfl, h2, rfl⟩ := rt
      cases e
      rw [show v2 = V.int (-1) from h2]
      exact ⟨rfl, p, us, rfl, hp.sq, fun c o hd hc => q _ _ (same_new hc) ⟨c, _, rfl, ⟨o, hd, upd_same⟩, repL_same (same_new hc) (RepL.reverse r1)⟩⟩
    · cases e
  · cases e
theorem e_back {a b : Expr} {oa ob : Opd} {p2 pos : Pos} (ha : DOp X W a oa) (hb : DOp X W b ob) (hs : ∀ v u : Value, subscripted (.Slice none none (some b) p2) false v u = operate [v, u] (getItem v u) := by exact fun _ _ => by with_unfolding_all rfl) : DEv X W (.Subscript a (.Slice none none (some b) p2) pos) (dPrim pBack [oa, ob]) := by
  obtain ⟨ta, h1, s1⟩ := ha
  obtain ⟨tb, h2, s2⟩ := hb
  exact ⟨_, pe_back h1 h2 hs, sem_prim (asem2 s1 s2) pr_back⟩
end
end DL
/-! DLE: enumerate(t) of a tuple. -/
namespace DL
open PySem PySem.Spec PyProof.Rows L2
/-- the tuple at a, each item in a new pair with its place -/
def EnT (K : PySem.W.Frag) (a : Addr) : It where
  go i H := ∃ (xs : List V) (x : V), SqT K H a xs ∧ xs[i]? = some x
  yld i H v H' := ∃ T x, v = .ref T ∧ H T = none ∧ H' = upd H T (.tup [.int (i : Nat), x]) ∧ ∀ xs, SqT K H a xs → xs[i]? = some x
  stop i H := ∃ xs : List V, SqT K H a xs ∧ xs.length ≤ i
section
theorem enum_new1 {v : Value} {o : Obj} {G : Heap → Prop} (B : PySem.Begins v o G) :
    Meets (Builtin.«enumerate.__new__» ⟨[.type "enumerate", v], []⟩) (fun _ R s => G s.heap ∧
      R (.ok (.ret (.ref (s.heap.push o).objs.size))) { s with heap := (s.heap.push o).push { cls := .type "enumerate", data := .fields #[.none, .bool false, .ref s.heap.objs.size, rawInt 0, .none, .none] } }) :=
  .of_wp fun prog w A R s hh => by
    obtain ⟨hp, g, d, tk, os⟩ := s
    obtain ⟨gg, hh⟩ := hh
    have sub := sub_enumerate
    have it : ∀ {A' : Around} {E' : Value → Shared → Prop} {Q' : Value → Shared → Prop}, Q' (.ref hp.objs.size) ⟨hp.push o, g, d, tk, os⟩ → wpAny (model prog w) A' (pyIter v) Q' E' ⟨hp, g, d, tk, os⟩ :=
      fun q => B.iter prog w _ _ ⟨hp, g, d, tk, os⟩ _ gg q
    wp_walk using it
    refine wpAny_stack_any fun _ => (wpAny_pure ?_)
    split
    · rename_i c _ _ _ _ _
      cases (c == Value.type "enumerate") <;> (wp_walk using it; exact ⟨_, rfl, hh⟩)
    · wp_walk using it
      exact ⟨_, rfl, hh⟩
theorem enum_call1 {prog : Program} {w : World} {A : Around} {E : Value → Shared → Prop} {s : Shared} {v : Value} {o : Obj} {G : Heap → Prop} {Q : Value → Shared → Prop} (B : PySem.Begins v o G) (g : G s.heap)
    (q : ∀ h', IsEnum h' (s.heap.objs.size + 1) s.heap.objs.size 0 .none → h'.get? s.heap.objs.size = some o → h'.objs.size = s.heap.objs.size + 2 → (∀ b z, s.heap.get? b = some z → h'.get? b = some z) → Q (.ref (s.heap.objs.size + 1)) { s with heap := h' }) :
    wpAny (model prog w) A (call (.type "enumerate") [v]) Q E s := by
  refine callType_new F.called_enumerate (by decide) (F.typeCall_enumerate_1 _) (F.newCall_enumerate_1 _) (fun obj => F.args_object_init_2 obj _) F.entry_enumerate_new (enum_new1 B) ⟨g, ?_⟩
  have sz : (s.heap.push o).objs.size = s.heap.objs.size + 1 := Heap.size_push ..
  show _ ∧ _
  rw [sz]
  have at_ : IsEnum ((s.heap.push o).push { cls := .type "enumerate", data := .fields #[.none, .bool false, .ref s.heap.objs.size, rawInt 0, .none, .none] }) (s.heap.objs.size + 1) s.heap.objs.size 0 .none := by
    have z := Heap.get?_push_size (s.heap.push o) (o := { cls := .type "enumerate", data := .fields #[.none, .bool false, .ref s.heap.objs.size, rawInt 0, .none, .none] }) rfl
    rw [sz] at z
    exact z
  exact ⟨⟨_, at_, rfl⟩, q _ at_ (Heap.get?_push_of_some _ (Heap.get?_push_size _ B.free)) (by rw [Heap.size_push, sz]) fun b z y => Heap.get?_push_of_some _ (Heap.get?_push_of_some _ y)⟩
theorem enT_turn {P : Program} {w : World} {K : PySem.W.Frag} {elts : List Expr} {kk : Nat} {tpos : Pos} (a e it : Addr) :
    Turn P w K (.Tuple elts kk tpos) (EnT K a) [e, it] e (fun i h => (∃ old, IsEnum h e it ((i : Nat) : Int) old) ∧ h.IsTupleIter it a i ∧ e ≠ it) where
  mem := by simp
  obj i h st b hb := by
    obtain ⟨⟨old, he⟩, ⟨o, ho, _, hd⟩, _⟩ := st
    have z : b = e ∨ b = it := by simpa using hb
    rcases z with rfl | rfl
    · exact ⟨_, he, fun v q => nomatch q⟩
    · exact ⟨o, ho, fun v q => by rw [hd] at q; cases q⟩
  keep i h h' st k := let ⟨⟨old, he⟩, hi, hne⟩ := st; ⟨⟨old, k e (by simp) _ he⟩, hi.at fun o q => k it (by simp) o q, hne⟩
  self A i s Q E st h := let ⟨⟨_, he⟩, _⟩ := st; wpAny_pyIter_enum he h
  item := by
    intro X eP ew eK calm i pins s σ H E I hf st go
    subst eP ew eK
    obtain ⟨⟨old, he⟩, hit, hne⟩ := st
    obtain ⟨xs, x, hq, hx⟩ := go
    obtain ⟨its, rv, p, hz⟩ := I.tuple hq
    obtain ⟨u, hu, ru⟩ := rv.get hx
    have la : a ≠ it := fun z => by
      subst z
      obtain ⟨o1, g1, c1, _⟩ := hit
      obtain ⟨o2, g2, c2, _⟩ := p
      rw [g1] at g2; cases g2
      rw [c1] at c2; exact absurd c2 (by decide)
    have lb : e ≠ a := fun z => by
      subst z
      obtain ⟨o2, g2, c2, _⟩ := p
      have he' : s.heap.get? e = _ := he
      rw [he'] at g2; cases g2
      exact absurd c2 (by simp)
    have ui : its.toArray[i]? = some u := by simpa using hu
    have il : i < its.toArray.size := (Array.getElem?_eq_some_iff.mp ui).1
    have e_lt : e < s.heap.objs.size := Heap.lt_size he
    have i_lt : it < s.heap.objs.size := by obtain ⟨_, q, _⟩ := hit; exact Heap.lt_size q
    refine wpAny_pyNext_enum_itemD (PySem.Draws.tuple (A := X.A.in1) (I.ok.hd calm) it a la its.toArray) he ⟨hit, p⟩ il hne (by simp [hne, lb]) fun y h1 tk hy out st1 hT sz k1 => ?_
    have yu : y = u := by rw [ui] at hy; exact (Option.some.inj hy).symm
    subst yu
    refine ⟨_, rfl, wpAny_letOwnedTupleGo_enum (s := { s with heap := h1, toks := tk + 1 }) out fun h2 he2 sb => ?_⟩
    have T2 : h2.get? s.heap.objs.size = some { cls := .type "tuple", data := .seq #[.int i tk, y] } := (sb.2 _ (Nat.ne_of_gt e_lt)).trans hT
    have fresh : ObjOk X.prog X.w (upd H s.heap.objs.size (.tup [.int (i : Nat), x])) h2 s.heap.objs.size (.tup [.int (i : Nat), x]) := ⟨by show 2 ≤ sizeLine; decide, [.int i tk, y], .cons ⟨_, rfl⟩ (.cons ru .nil), ⟨_, T2, rfl, _, rfl⟩⟩
    have I1 : Inv X pins σ (upd H s.heap.objs.size (.tup [.int (i : Nat), x])) { s with heap := h2, toks := tk + 1 } := I.turnedNew (ch := [e, it]) (fun b ob hb q => (sb.2 b fun z => hb (by simp [z])).trans (k1 b ob (fun z => hb (by simp [z])) (fun z => hb (by simp [z])) q)) hf (Nat.le_refl _) fresh
    refine ⟨.ref s.heap.objs.size, _, I1, rfl, ⟨_, x, rfl, I.hok.fresh (Nat.le_refl _), rfl, fun ys hy => by rw [I.tuple_inj hy hq]; exact hx⟩, ⟨⟨y, ?_⟩, st1.1.at fun o q => (sb.2 it (Ne.symm hne)).trans q, hne⟩, fun b hb => ?_⟩
    · rw [show ((i + 1 : Nat) : Int) = (i : Int) + 1 by omega]
      exact he2
    · have b_lt : b < s.heap.objs.size := by
        have z : b = e ∨ b = it := by simpa using hb
        rcases z with rfl | rfl <;> assumption
      rw [upd_ne (Nat.ne_of_lt b_lt)]
      exact (hf b hb).1
  done := by
    intro X eP ew eK calm i pins s σ H E I hf st stp
    subst eP ew eK
    obtain ⟨⟨old, he⟩, hit, hne⟩ := st
    obtain ⟨xs, hq, hx⟩ := stp
    obtain ⟨its, rv, p, hz⟩ := I.tuple hq
    have none_ : its.toArray[i]? = none := by
      have := rv.length
      simp
      omega
    obtain ⟨f0, f1, f2, f3, f4, f5⟩ := hf it (by simp)
    have D : PySem.Draws X.prog X.w X.A.in1 it [it, a] i (fun _ _ => True) (fun j h => j = i ∧ h.IsTupleIter it a i ∧ h.IsTuple a its.toArray) := {
      live := fun _ _ ⟨_, ⟨o, ho, _⟩, _⟩ => ⟨o, ho⟩
      frame := fun _ _ _ ⟨k0, k1, k2⟩ hk => ⟨k0, k1.at fun o e => hk it (by simp) o e, k2.at fun o e => hk a (by simp) o e⟩
      item := fun j s Q E lt ⟨k0, _⟩ _ => absurd k0 (by omega)
      done := fun s Q E ⟨_, k1, k2⟩ hE => wpAny_nextOf_tuple_end (I.ok.hd calm) k1 k2 none_ hE }
    exact wpAny_pyNext_enum_endD D he ⟨rfl, hit, p⟩ fun h' eb => ⟨rfl, I.turned (t' := s.toks) (fun b o hb q => eb b o hb q) f0 f1 f3 f4 f5⟩
def iEnA (K : PySem.W.Frag) (ta : TA) : TI := fun σ H R => ta σ H fun vs H1 => ∃ a xs, vs = [.ref a] ∧ ((SqT K H1 a xs ∧ R (EnT K a) H1) ∨ (SqL K H1 a xs ∧ R (Ite K a) H1))
theorem pi_enA {X : Cx} {e : Expr} {ta : TA} {p pos tpos : Pos} {elts : List Expr} {kk : Nat} (hg : Gl X "enumerate") (hm : X.mg "enumerate" = none) (ha : PA X [e] ta) (hs : starEach [e] X.env = [(false, eval e X.env)] := by rfl) :
    PI X (.Tuple elts kk tpos) (.Call (.Name "enumerate" p) [e] [] pos) (iEnA X.K ta) := by
  refine ⟨fun pins s σ H R I h => Call_ (ld_blt I hg hm boot_enumerate (PyProof.Rows.callWith_type1 (thn (ha.run pos pins s σ H _ I h) fun us s1 ⟨vs, H1, I1, r1, a, xs, ex, q⟩ => ?_) hs rfl))⟩
  subst ex
  have fpk : ∀ b ∈ [s1.heap.objs.size + 1, s1.heap.objs.size], FpOk X pins H1 b := fun b hb => by
    have le : s1.heap.objs.size ≤ b := by
      have z : b = s1.heap.objs.size + 1 ∨ b = s1.heap.objs.size := by simpa using hb
      rcases z with rfl | rfl <;> omega
    exact I1.fpOk le (I1.hok.fresh le)
  cases r1 with
  | cons r rr =>
    cases rr
    cases r
    rcases q with ⟨hq, q⟩ | ⟨hq, q⟩
    · obtain ⟨its, rv, p', hz⟩ := I1.tuple hq
      refine enum_call1 (PySem.begins_tuple a its.toArray) p' fun h' he hit sz hk => wpAny_pyIter_enum he ?_
      exact ⟨s1.heap.objs.size + 1, [s1.heap.objs.size + 1, s1.heap.objs.size], _, _, H1, rfl, I1.kept (t' := s1.toks) hk, enT_turn a (s1.heap.objs.size + 1) s1.heap.objs.size, ⟨⟨.none, he⟩, ⟨_, hit, rfl, rfl⟩, Nat.succ_ne_self _⟩, fpk, q⟩
    · obtain ⟨its, rv, p', hz⟩ := I1.list hq
      refine enum_call1 (PySem.begins_list a its.toArray) p'.isList fun h' he hit sz hk => wpAny_pyIter_enum he ?_
      exact ⟨s1.heap.objs.size + 1, [s1.heap.objs.size + 1, s1.heap.objs.size], _, _, H1, rfl, I1.kept (t' := s1.toks) hk, turn_enum a (s1.heap.objs.size + 1) s1.heap.objs.size, ⟨⟨.none, he⟩, ⟨_, hit, rfl, rfl⟩, Nat.succ_ne_self _⟩, fpk, q⟩
theorem walks_enT {K : PySem.W.Frag} {O F : Fz} {H : Hp} {a : Addr} {vs : List V} {xs : List D} (hl : TpL H a vs) (hr : RepL K F H xs vs) : Walks K O F H (EnT K a) (enumD 0 xs) := fun F' H' E od i => by
  have q : SqT K H' a vs := (tpL_ext E hl).sq
  have rl := RepL.ext E xs vs hr
  rw [enumD_get]
  cases hx' : xs[i]? with
  | none => exact ⟨fun d hx => (nomatch hx), fun _ => ⟨vs, q, by rw [hr.length]; exact List.getElem?_eq_none_iff.mp hx'⟩⟩
  | some x =>
    refine ⟨fun d hx => ?_, fun hx => (nomatch hx)⟩
    cases hx
    obtain ⟨v, hv, r⟩ := rl.get hx'
    refine ⟨⟨vs, v, q, hv⟩, fun y H'' ⟨T, v2, ey, hT, eH, hy⟩ => ?_⟩
    subst ey eH
    have e2 := hy vs q
    rw [hv] at e2
    cases e2
    refine ⟨same_new hT, T, .int (i : Nat), v, rfl, upd_same, ?_⟩
    rw [show ((0 + i : Nat) : Int) = ((i : Nat) : Int) by rw [Nat.zero_add]]
    exact ⟨rfl, rep_same (same_new hT) r⟩
def enumA (ds : List D) : Option (List D) := match ds with
  | [.tup xs] => some (enumD 0 xs)
  | [.lst xs] => some (enumD 0 xs)
  | _ => none
theorem it_enA {X : Cx} {W : WX} {e : Expr} {os : List Opd} {p pos tpos : Pos} {elts : List Expr} {kk : Nat} (hg : Gl X "enumerate") (hm : X.mg "enumerate" = none) (ha : DAs X W [e] os) (hs : starEach [e] X.env = [(false, eval e X.env)] := by rfl) (hv : allV os = true := by rfl) :
    DIt X W (.Tuple elts kk tpos) (.Call (.Name "enumerate" p) [e] [] pos) (iArgs enumA os) := by
  obtain ⟨t, h, s⟩ := ha
  refine ⟨_, pi_enA hg hm h hs, isem_vals s hv fun O F H ds vs xs R' r e k => ?_⟩
  unfold enumA at e
  split at e
  · cases e
    obtain ⟨v, _, rfl, ⟨a, ws, rfl, ha, rl⟩, rfl⟩ := r
    exact ⟨a, ws, rfl, .inl ⟨ha.sq, k _ (walks_enT ha rl)⟩⟩
  · cases e
    obtain ⟨v, _, rfl, ⟨a, ws, rfl, fa, ha, rl⟩, rfl⟩ := r
    exact ⟨a, ws, rfl, .inr ⟨SqL.of ha, k _ (walks_enum (fun F' H' E => SqL.of (E.fz a _ fa ha)) rl)⟩⟩
  · cases e
end
end DL
/-! DLP: l.pop(i). -/
namespace DL
open PySem PySem.Spec PyProof.Rows L2
theorem RepL.erase {K : PySem.W.Frag} {F : Fz} {H : Hp} : ∀ {ds : List D} {vs : List V} (k : Nat), RepL K F H ds vs → RepL K F H (ds.eraseIdx k) (vs.eraseIdx k)
  | [], _, k, h => by
    rw [show _ = ([] : List V) from h]
    exact RepL.nil
  | d :: ds, _, 0, ⟨v, r, e, h1, h2⟩ => by
    subst e
    exact h2
  | d :: ds, _, k + 1, ⟨v, r, e, h1, h2⟩ => by
    subst e
    exact RepL.cons h1 (RepL.erase k h2)
def mPopAt : List D → List D → Option (List D × D) := fun xs ds => match ds with
  | [.int i] => if small62 i = true then ((ixN xs.length i).bind fun k => (xs[k]?).map fun d => (xs.eraseIdx k, d)) else none
  | _ => none
theorem mr_popAt {K : PySem.W.Frag} : MutR K mPopAt rPopAt := fun F H a xs us ds vs ys d Q h r rd e q => by
  unfold mPopAt at e
  split at e
  · rename_i i
    split at e
    · rename_i hs
      cases hk : ixN xs.length i with
      | none => rw [hk] at e; cases e
      | some k =>
        rw [hk] at e
        cases hx : xs[k]? with
        | none => simp [hx] at e
        | some z =>
          simp [hx] at e
          obtain ⟨e1, e2⟩ := e
          subst e1 e2
          obtain ⟨v, hv, rv⟩ := r.get hx
          obtain ⟨w, _, ew, hw, er⟩ := rd
          subst ew er
          rw [show w = V.int i from hw]
          simp only [small62, Bool.and_eq_true, decide_eq_true_eq] at hs
          exact ⟨a, us, i, k, v, rfl, rfl, h, by omega, by omega, by rw [r.length]; exact (ixN_seq hk).1, hv, q _ _ (r.erase k) rv⟩
    · cases e
  · cases e
section
variable {X : Cx} {W : WX}
theorem e_popAt (i : Nat) {y : Str} {e : Expr} {os : List Opd} {py apos cpos : Pos} (ha : DAs X W [e] os) (hv : allV os = true := by rfl)
    (hN : X.N[i]? = some y := by rfl) (hvis : Vis X.env.scope y := by first | exact Or.inl rfl | exact Or.inr (Or.inl rfl) | exact Or.inr (Or.inr rfl)) (hd : (y == ("__debug__" : Str)) = false := by decide) (hcd : (y == ("__classdict__" : Str)) = false := by decide)
    (hb : attributeBase (.Name y py) "pop" X.env (eval (.Name y py) X.env) = eval (.Name y py) X.env := by rfl) (hf : Few X e cpos := by rfl) (hl : (apos.endLine == cpos.line) = true := by rfl)
    (he : starEach (e :: []) X.env = (false, eval e X.env) :: starEach [] X.env := by rfl) (hpl : (backTo cpos (starEach [] X.env)).any (·.1) = false := by rfl) : DEv X W (.Call (.Attribute (.Name y py) "pop" apos) [e] [] cpos) (dMut mPopAt i os) :=
  e_mut i mr_popAt PySem.F.slot_list_pop PySem.F.type_list_pop mt_popAt ha hv hN hvis hd hcd hb hf hl he hpl
end
end DL
/-! DLX: abs, &, divmod, op= at names and items, l += m, list(range(..)), ranges kept by a name, t.count(x). -/
namespace DL
open PySem PySem.Spec PyProof.Rows L2
section
variable {X : Cx} {W : WX} {B : Bs} {e a b : Expr} {o oa ob : Opd} {p pos : Pos}
def pAbs : Pr := fun ds => match ds with
  | [.int i] => some (.d (.int (if i < 0 then -i else i)))
  | _ => none
def rAbs1 : Rl := fun xs H Q => ∃ i, xs = [.int i] ∧ Q (.int (if i < 0 then -i else i)) H
theorem pr_abs {K : PySem.W.Frag} : PrimR K pAbs rAbs1 := fun F H ds vs Q pr fd rt e q => by
  unfold pAbs at e
  split at e
  · obtain ⟨v, _, rfl, h1, rfl⟩ := rt
    cases h1
    cases e
    exact ⟨_, rfl, q H _ (Same.refl _) rfl⟩
  · cases e
theorem x_abs (hm : X.mg "abs" = none) (ha : DOp X W e o) (hg : Gl X "abs" := by rfl) (hs : S1 X e := by rfl) (hpl : (backTo pos (starEach [] X.env)).any (·.1) = false := by rfl) : DEv X W (.Call (.Name "abs" p) [e] [] pos) (dPrim pAbs [o]) := e_callB call_abs pr_abs hg hm (by decide +kernel) (a1 ha hs) (he := hs) (hpl := hpl)
def pBand : Pr := pInt2 fun a b => some (.int (Builtin.bitAnd a b))
theorem pr_band {K : PySem.W.Frag} : PrimR K pBand (two (rI0 fun i j => .int (Builtin.bitAnd i j))) := pr_int2 fun a b d H Q e q => by cases e; exact ⟨a, b, rfl, rfl, q _ fun _ _ _ => rfl⟩
theorem x_band (ha : DOp X W a oa) (hb : DOp X W b ob) : DEv X W (.BinOp a .BitAnd b pos) (dPrim pBand [oa, ob]) := e_op op_and pr_band ha hb

/-! ### list(range(..)) -/
def rgOk (a b : Int) : Bool := decide (-(2 ^ 62) ≤ a) && decide (a < 2 ^ 62) && decide (-(2 ^ 62) ≤ b) && decide (b < 2 ^ 62) && decide ((b - a).toNat ≤ 2 ^ 24)
theorem rgOk_of {a b : Int} (h : rgOk a b = true) : RgOk a b := by
  simp only [rgOk, Bool.and_eq_true, decide_eq_true_eq] at h
  exact ⟨h.1.1.1.1, h.1.1.1.2, h.1.1.2, h.1.2, h.2⟩
theorem repL_rg {K : PySem.W.Frag} {F : Fz} {H : Hp} (a b : Int) : RepL K F H (rngD a (b - a).toNat) (rgV a b) := by
  have key : ∀ (n : Nat) (lo : Int), RepL K F H (rngD lo n) ((List.range n).map fun i => V.int (lo + (i : Nat))) := fun n => by
    induction n with
    | zero => intro lo; exact RepL.nil
    | succ n ih =>
      intro lo
      rw [List.range_succ_eq_map, List.map_cons, List.map_map, rngD]
      refine RepL.cons (by show _ = V.int lo; simp) ?_
      have := ih (lo + 1)
      have e : ((fun i : Nat => V.int (lo + (i : Nat))) ∘ Nat.succ) = fun i : Nat => V.int (lo + 1 + (i : Nat)) := by
        funext i
        show V.int (lo + ((i + 1 : Nat) : Int)) = V.int (lo + 1 + (i : Nat))
        congr 1
        omega
      rw [e]
      exact this
  exact key _ a
def pLstRg1 : Pr := fun ds => match ds with
  | [.int n] => if rgOk 0 n = true then some (.nl (rngD 0 n.toNat)) else none
  | _ => none
def rLstRg1 : Rl := one fun x H Q => ∃ n, x = .int n ∧ RgOk 0 n ∧ ∀ q, H q = none → Q (.ref q) (upd H q (.lst (rgV 0 n)))
theorem pr_lstRg1 {K : PySem.W.Frag} : PrimR K pLstRg1 rLstRg1 := fun F H ds vs Q pr fd rt e q => by
  unfold pLstRg1 at e
  split at e
  · rename_i n
    obtain ⟨v, _, rfl, h1, rfl⟩ := rt
    cases h1
    split at e
    · rename_i h
      cases e
      have r := repL_rg (K := K) (F := F) (H := H) 0 n
      rw [Int.sub_zero] at r
      exact ⟨n, rfl, rgOk_of h, fun c hc => q _ _ (same_new hc) ⟨c, _, rfl, hc, upd_same, repL_same (same_new hc) r⟩⟩
    · cases e
  · cases e
theorem x_lstRg1 {p2 pos2 : Pos} (hc : X.calm = true) (hl : X.mg "list" = none) (hm : X.mg "range" = none) (ha : DOp X W a oa) (hg : Gl X "list" := by rfl) (hg2 : Gl X "range" := by rfl) (na : starEach [a] X.env = (false, eval a X.env) :: starEach [] X.env := by rfl)
    (nb : starEach [.Call (.Name "range" p2) [a] [] pos2] X.env = (false, eval (.Call (.Name "range" p2) [a] [] pos2) X.env) :: starEach [] X.env := by rfl) :
    DEv X W (.Call (.Name "list" p) [.Call (.Name "range" p2) [a] [] pos2] [] pos) (dPrim pLstRg1 [oa]) := by
  obtain ⟨ta, h, s⟩ := ha
  refine ⟨_, pe_listRg hc hg hl (prg_1 hg2 hm h na) nb, fun O F σ H env Q st g => ?_⟩
  exact sem_prim (r := rLstRg1) (asem1 s) pr_lstRg1 O F σ H env Q st g

/-! ### a range that a name keeps -/
def tRgV (ta tb : TE) : TE := fun σ H Q => ta σ H fun x H1 => tb σ H1 fun y H2 => ∃ i j, x = .int i ∧ y = .int j ∧ ∀ p o, H2 p = none → Q (.ref p) (upd H2 p (.frz o (.rng i j)))
theorem pe_rgV {ta tb : TE} (hg : Gl X "range") (hm : X.mg "range" = none) (ha : PE X a ta) (hb : PE X b tb) (na : starEach [a, b] X.env = (false, eval a X.env) :: starEach [b] X.env := by rfl)
    (nb : starEach [b] X.env = (false, eval b X.env) :: starEach [] X.env := by rfl) (hp : (backTo pos (starEach [b] X.env)).any (·.1) = false := by rfl) : PE X (.Call (.Name "range" p) [a, b] [] pos) (tRgV ta tb) := by
  refine ⟨fun pins s σ H Q I h => ?_⟩
  refine Call_ (ld_blt I hg hm boot_range (PyProof.Rows.callWith_type1 (args_cons (thn (ha.run pins s σ H _ I h) fun v s1 ⟨x, H1, I1, r1, q1⟩ => one_arg hb I1 q1 (fun u s2 y H2 I2 r2 q => ?_) nb) na) na hp))
  obtain ⟨i, j, rfl, rfl, q⟩ := q
  obtain ⟨t, rfl⟩ := r1
  obtain ⟨t', rfl⟩ := r2
  refine call_range_2 ⟨.ref s2.heap.objs.size, upd H2 s2.heap.objs.size (.frz { cls := .type "range", data := .fields #[.int i t, .int j t', .int 1 s2.toks] } (.rng i j)), ?_, rfl, q _ _ (I2.hok.fresh (Nat.le_refl _))⟩
  exact I2.laid (o := .frz { cls := .type "range", data := .fields #[.int i t, .int j t', .int 1 s2.toks] } (.rng i j)) (fun b u e => Heap.get?_push_of_some _ e) (Nat.le_refl _) ⟨Heap.get?_push_size _ rfl, _, _, _, Heap.get?_push_size _ rfl⟩
def pRg2 : Pr := fun ds => match ds with
  | [.int i, .int j] => some (.d (.rng i j))
  | _ => none
def rRg2 : Rl := two fun x y H Q => ∃ i j, x = .int i ∧ y = .int j ∧ ∀ p o, H p = none → Q (.ref p) (upd H p (.frz o (.rng i j)))
theorem pr_rg2 {K : PySem.W.Frag} : PrimR K pRg2 rRg2 := fun F H ds vs Q pr fd rt e q => by
  unfold pRg2 at e
  split at e
  · obtain ⟨v, _, rfl, h1, w, _, rfl, h2, rfl⟩ := rt
    cases h1
    cases h2
    cases e
    exact ⟨_, _, rfl, rfl, fun c o hc => q _ _ (same_new hc) ⟨c, o, rfl, upd_same⟩⟩
  · cases e
theorem x_rg2 (hm : X.mg "range" = none) (ha : DOp X W a oa) (hb : DOp X W b ob) (hg : Gl X "range" := by rfl) (na : starEach [a, b] X.env = (false, eval a X.env) :: starEach [b] X.env := by rfl)
    (nb : starEach [b] X.env = (false, eval b X.env) :: starEach [] X.env := by rfl) (hp : (backTo pos (starEach [b] X.env)).any (·.1) = false := by rfl) : DEv X W (.Call (.Name "range" p) [a, b] [] pos) (dPrim pRg2 [oa, ob]) := by
  obtain ⟨ta, h1, s1⟩ := ha
  obtain ⟨tb, h2, s2⟩ := hb
  refine ⟨_, pe_rgV hg hm h1 h2 na nb hp, fun O F σ H env Q st g => ?_⟩
  exact sem_prim (r := rRg2) (asem2 s1 s2) pr_rg2 O F σ H env Q st g
def iRng (m : DE) : DI := fun env => (m env).bind fun r env1 => match r.d with
  | .rng lo hi => if small62 lo = true then (if small62 hi = true then .ok (rngD lo (hi - lo).toNat) env1 else .bad) else .bad
  | _ => .bad
theorem pi_rngV {tg l : Expr} {tl : TE} (hl : PE X l tl) : PI X tg l (fun σ H R => tl σ H fun x H1 => ∃ r o lo hi, x = .ref r ∧ H1 r = some (.frz o (.rng lo hi)) ∧ (-(2 ^ 62) ≤ lo ∧ lo < 2 ^ 62 ∧ -(2 ^ 62) ≤ hi ∧ hi < 2 ^ 62) ∧ R (Itr lo (hi - lo).toNat) H1) := by
  refine ⟨fun pins s σ H R I h => ?_⟩
  refine thn (hl.run pins s σ H _ I h) fun u s1 ⟨x, H1, I1, rx, r, o, lo, hi, ex, hr, ⟨h1, h2, h3, h4⟩, q⟩ => ?_
  subst ex
  have ru : u = Value.ref r := rx
  subst ru
  obtain ⟨_, t, u, v, ho⟩ := I1.hok r _ hr
  refine wpAny_pyIter_range (r := r) (a := lo) (b := hi) (c := 1) (t := t) (u := u) (v := v) ho (small_one h1 h2 h3 h4) ?_
  refine ⟨s1.heap.objs.size, [s1.heap.objs.size], _, _, H1, rfl, I1.kept (t' := s1.toks) fun b o e => Heap.get?_push_of_some _ e, turn_range _ lo (hi - lo).toNat, ?_, fun b hb => ?_, q⟩
  · have e1 : lo + ((0 : Nat) : Int) * 1 = lo := by simp
    have e2 : (((hi - lo).toNat : Nat) : Int) - ((0 : Nat) : Int) = Builtin.Range.rangeSize lo hi 1 := by rw [rangeSize_one]; split <;> omega
    show IsRangeIter _ _ (lo + ((0 : Nat) : Int) * 1) ((((hi - lo).toNat : Nat) : Int) - ((0 : Nat) : Int)) 1
    rw [e1, e2]
    exact Heap.get?_push_size _ rfl
  · have e : b = s1.heap.objs.size := by simpa using hb
    subst e
    exact I1.fpOk (Nat.le_refl _) (I1.hok.fresh (Nat.le_refl _))
theorem it_rngV {tg : Expr} {m : DE} (h : DEv X W e m) : DIt X W tg e (iRng m) := by
  obtain ⟨t, h, s⟩ := h
  refine ⟨_, pi_rngV h, fun O F σ H env R' st g => ?_⟩
  refine s O F σ H env _ st ?_
  unfold iRng at g
  cases q : m env with
  | bad => rw [q] at g; exact g.elim
  | err x e => rw [q] at g; exact g
  | ok r env1 =>
    rw [q] at g
    simp only [R.bind] at g
    intro F1 H1 v E1 st1 r1
    obtain ⟨md, d⟩ := r
    cases d with
    | rng lo hi =>
      simp only [] at g
      cases md with
      | shr =>
        obtain ⟨a, o, rfl, ha⟩ := r1
        by_cases hlo : small62 lo = true
        · rw [if_pos hlo] at g
          by_cases hhi : small62 hi = true
          · rw [if_pos hhi] at g
            obtain ⟨b1, b2⟩ := small62_of hlo
            obtain ⟨b3, b4⟩ := small62_of hhi
            exact ⟨a, o, lo, hi, rfl, ha, ⟨b1, b2, b3, b4⟩, g F1 H1 _ E1 st1 walks_rng⟩
          · rw [if_neg hhi] at g; exact g.elim
        · rw [if_neg hlo] at g; exact g.elim
      | own => obtain ⟨_, _, _, z, _⟩ := r1; cases z
      | bor => obtain ⟨_, _, _, z, _⟩ := r1; cases z
    | _ => exact g.elim

/-! ### x *= e, numbers -/
def dAugP (i : Nat) (f : Int → Int → Option Int) (m : DE) : DS := fun env => match (env[i]? : Option (Option Ent)) with
  | some (some (Ent.mk Md.shr (.int a))) => (m env).bind fun r env1 => match r with
    | ⟨.shr, .int b⟩ => (match f a b with
      | some c => .ok .nx (env1.set i (some ⟨.shr, .int c⟩))
      | none => .bad)
    | _ => .bad
  | _ => .bad
theorem s_augP (i : Nat) {f : Int → Int → Option Int} {op : Operator} {t : TIp} {x : Str} {m : DE} {pos' pos : Pos} (hN : X.N.Nodup) (ho : PIp X op t) (ht : ∀ a b c H (Q : VK), f a b = some c → Q (.int c) H → t (.int a) (.int b) H Q) (hm : DEv X W e m) (hi : X.N[i]? = some x := by rfl) (hx : Loc X.env.scope x := by first | exact Or.inl rfl | exact Or.inr rfl) (hB : B i = false := by rfl)
    (hf : X.fn x = true ∨ X.env.scope.names.lookup x = some .local := by first | exact .inl rfl | exact .inr rfl | assumption) : DSt X W B (.AugAssign (.Name x pos') op e pos) (dAugP i f m) := by
  obtain ⟨te, h1, s1⟩ := hm
  refine ⟨_, ps_aug hN hi hx h1 ho hf, fun O F σ H env Dn st g => ?_⟩
  unfold dAugP at g
  split at g
  · rename_i a ha
    obtain ⟨v, hv, rv⟩ := st.shr i _ ha
    cases rv
    refine ⟨_, hv, s1 O F σ H env _ st ?_⟩
    cases q : m env with
    | bad => rw [q] at g; exact g.elim
    | err y' e => rw [q] at g; exact fun F' H' c d e' s' r => g F' H' σ c d e' s' Keeps.refl r
    | ok r env1 =>
      rw [q] at g
      simp only [R.bind] at g
      intro F1 H1 v E1 st1 r1
      split at g
      · rename_i b
        cases r1
        cases hc : f a b with
        | none => rw [hc] at g; exact g.elim
        | some c =>
          rw [hc] at g
          exact ht a b c _ _ hc (g F1 H1 _ E1 (st1.store (e := ⟨.shr, .int c⟩) rfl) (keeps_set hB))
      · exact g.elim
  · exact g.elim
def fMul (a b : Int) : Option Int := if -(2 ^ 64) < a ∧ a < 2 ^ 64 then some (a * b) else none
theorem s_augMul (i : Nat) {x : Str} {m : DE} {pos' pos : Pos} (hN : X.N.Nodup) (hm : DEv X W e m) (hi : X.N[i]? = some x := by rfl) (hx : Loc X.env.scope x := by first | exact Or.inl rfl | exact Or.inr rfl) (hB : B i = false := by rfl)
    (hf : X.fn x = true ∨ X.env.scope.names.lookup x = some .local := by first | exact .inl rfl | exact .inr rfl | assumption) : DSt X W B (.AugAssign (.Name x pos') .Mult e pos) (dAugP i fMul m) :=
  s_augP i (t := rI CMul fun i j => .int (i * j)) hN iop_mul (fun a b c H Q h q => by
    unfold fMul at h
    split at h
    · rename_i hh
      cases h
      exact ⟨a, b, rfl, rfl, .inl hh, q⟩
    · cases h) hm hi hx hB hf

/-! ### l += m -/
def dAugL (i : Nat) (m : DE) : DS := fun env => match (env[i]? : Option (Option Ent)) with
  | some (some (Ent.mk Md.own (.lst _))) => (m env).bind fun r env1 => match r.d, (env1[i]? : Option (Option Ent)) with
    | .lst ys, some (some (Ent.mk Md.own (.lst xs))) => if xs.length + ys.length ≤ sizeLine then .ok .nx (env1.set i (some ⟨.own, .lst (xs ++ ys)⟩)) else .bad
    | _, _ => .bad
  | _ => .bad
theorem set_same {σ : L2.St} {i : Nat} {v : V} (h : σ[i]? = some (some v)) : σ.set i (some v) = σ := by
  apply List.ext_getElem?
  intro j
  by_cases hj : j = i
  · subst hj
    rw [List.getElem?_set_self (List.getElem?_eq_some_iff.mp h).1, h]
  · rw [List.getElem?_set_ne (Ne.symm hj)]
theorem s_augL (i : Nat) {x : Str} {m : DE} {pos' pos : Pos} (hN : X.N.Nodup) (hm : DEv X W e m) (hi : X.N[i]? = some x := by rfl) (hx : Loc X.env.scope x := by first | exact Or.inl rfl | exact Or.inr rfl) (hB : B i = false := by rfl)
    (hf : X.fn x = true ∨ X.env.scope.names.lookup x = some .local := by first | exact .inl rfl | exact .inr rfl | assumption) : DSt X W B (.AugAssign (.Name x pos') .Add e pos) (dAugL i m) := by
  obtain ⟨te, h1, s1⟩ := hm
  refine ⟨_, ps_aug hN hi hx h1 (iop_ext : PIp X .Add rExt2) hf, fun O F σ H env Dn st g => ?_⟩
  unfold dAugL at g
  split at g
  · rename_i l0 ha
    obtain ⟨a, us0, es0, e0, hσ, hH, _, _, _⟩ := st.own i .own _ ha nofun
    refine ⟨_, hσ, s1 O F σ H env _ st ?_⟩
    cases q : m env with
    | bad => rw [q] at g; exact g.elim
    | err y' e => rw [q] at g; exact fun F' H' c d e' s' r => g F' H' σ c d e' s' Keeps.refl r
    | ok r env1 =>
      rw [q] at g
      simp only [R.bind] at g
      intro F1 H1 v E1 st1 r1
      obtain ⟨F2, E2, st2, r2⟩ := freeze st1 r1
      split at g
      · rename_i ys xs hd hi1
        rw [hd] at r2
        obtain ⟨b, zs, rfl, fb, hb, rb⟩ := r2
        obtain ⟨a', us, es, e2, hσ', hH1, rl, nF, nO⟩ := st2.own i .own _ hi1 nofun
        cases e2
        rw [hσ] at hσ'
        cases hσ'
        split at g
        · rename_i hz
          obtain ⟨st3, E3⟩ := st2.write hi1 nofun hσ hH1 nF nO (rl.append rb)
          refine ⟨a, b, us, zs, rfl, rfl, hH1, hb, by rw [rl.length, rb.length]; exact hz, ?_⟩
          show Dn.nx (σ.set i (some (V.ref a))) _
          rw [set_same hσ]
          exact g F2 _ σ ((E1.trans E2).trans E3) st3 Keeps.refl
        · exact g.elim
      · exact g.elim
  · exact g.elim

/-! ### l[k] += e, numbers -/
theorem pget_list : PGet X (rIxL X.K) := by
  intro pins s σ H x y v u Q I rx ry h
  obtain ⟨p, xs, i, z, rfl, rfl, hq, he, q⟩ := h
  cases rx
  obtain ⟨t, rfl⟩ := ry
  obtain ⟨its, r, pl, hz⟩ := I.list hq
  obtain ⟨j, h1, h2, h3, h4, h5⟩ := atI_get he
  obtain ⟨w, ew, rw'⟩ := r.get h2
  have hl := r.length
  have hn := line63
  have fin : EP X pins σ Q w s := ⟨z, H, I, rw', q⟩
  by_cases h0 : 0 ≤ i
  · have hj : i.toNat = j := by
      rw [seqIndex_of h0 h5] at h1
      exact Option.some.inj h1
    exact wpAny_getItem_list pl.isList h0 (by omega) (by rw [hj]; simpa using ew) fin
  · have hj : (i + (its.toArray.size : Int)).toNat = j := by
      rw [seqIndex_neg (by omega) h4] at h1
      rw [List.size_toArray, ← hl]
      exact Option.some.inj h1
    exact wpAny_getItem_list_neg pl.isList (by omega) (by rw [List.size_toArray] <;> omega) (by omega) (by rw [hj]; simpa using ew) fin
/-- l[k] += n, all written -/
def dAugIx (i : Nat) (k : Int) (n : Int) : DS := fun env => match (env[i]? : Option (Option Ent)) with
  | some (some (Ent.mk Md.own (.lst xs))) => (match ixN xs.length k with
    | some j => (match xs[j]? with
      | some (.int a) => .ok .nx (env.set i (some ⟨.own, .lst (xs.set j (.int (a + n)))⟩))
      | _ => .bad)
    | none => .bad)
  | _ => .bad
theorem s_augIx (i : Nat) {y : Str} {k n : Int} {j1 j2} {py pk pn tpos pos : Pos}
    (hN : X.N[i]? = some y := by rfl) (hvis : Vis X.env.scope y := by first | exact Or.inl rfl | exact Or.inr (Or.inl rfl) | exact Or.inr (Or.inr rfl)) (hd : (y == ("__debug__" : Str)) = false := by decide) (hcd : (y == ("__classdict__" : Str)) = false := by decide)
    (ha : ∀ ov iv new, augStore (.Constant (.int k) j1 pk) ov iv new = (do holding [new, ov, iv] (setItem ov iv new); release [new, ov, iv] []; pure .next) := by intros; rfl) :
    DSt X W B (.AugAssign (.Subscript (.Name y py) (.Constant (.int k) j1 pk) tpos) .Add (.Constant (.int n) j2 pn) pos) (dAugIx i k n) := by
  refine ⟨_, ps_augS (pe_var hN hvis hd hcd) pe_int pget_list pe_int ip_add set_list ha, fun O F σ H env Dn st g => ?_⟩
  unfold dAugIx at g
  split at g
  · rename_i xs hi
    obtain ⟨a, us, es, e0, hσ, hH, rl, nF, nO⟩ := st.own i .own _ hi nofun
    cases e0
    cases hj : ixN xs.length k with
    | none => rw [hj] at g; exact g.elim
    | some j =>
      rw [hj] at g
      simp only [] at g
      split at g
      · rename_i c hx
        obtain ⟨v, hv, rv⟩ := rl.get hx
        cases rv
        have hat : atI us k = some (.int c) := by
          unfold atI
          rw [rl.length, hj]
          exact hv
        obtain ⟨st1, E1⟩ := st.write (es := xs.set j (.int (c + n))) (ws := us.set j (.int (c + n))) hi nofun hσ hH nF nO (RepL.set (d := .int (c + n)) (v := .int (c + n)) (by show V.int (c + n) = V.int (c + n); rfl) j rl)
        refine ⟨_, hσ, ⟨a, us, k, .int c, rfl, rfl, SqL.of hH, hat, c, n, rfl, rfl, a, us, k, j, rfl, rfl, hH, by rw [rl.length]; exact hj, g F _ σ E1 st1 Keeps.refl⟩⟩
      · exact g.elim
  · exact g.elim

theorem sw_cell {elt : Expr} {gs : List Comprehension} {scope : Scope} {pos py : Pos} {y : Str} {l : Nat} {env : Env} (hy : env.scope.names.lookup y = some .cell) : swapsWith (.ListComp elt gs scope pos) (some (.Name y py)) l env = pure false := by
  have ky : env.kindOf y = some .cell := hy
  unfold swapsWith
  simp only [ky]
  have h : (some NameKind.cell == some NameKind.local) = false := by decide
  simp only [h, Bool.and_false, Bool.false_and]
/-! ### t.count(x), t a name -/
def tBMT (r : V → List V → Hp → VK → Prop) (to : TE) (t : TA) : TE := fun σ H Q => to σ H fun x H1 => (∃ a vs, x = .ref a ∧ TpL H1 a vs) ∧ t σ H1 fun xs H2 => r x xs H2 Q
theorem pe_bmT {o1 e1 : Expr} {es : List Expr} {to : TE} {t : TA} {name : Str} {apos cpos : Pos} {id : String} {r : V → List V → Hp → VK → Prop} (pa : PlainAttrs "tuple") (slot : Slot "tuple" name id) (hty : typeOf (.builtin id) = pure (.type "method_descriptor")) (hm : MtR X id r) (ho : PE X o1 to) (ha : PA X (e1 :: es) t)
    (hbase : attributeBase o1 name X.env (eval o1 X.env) = eval o1 X.env := by rfl)
    (hfew : ((backTo cpos (starEach (e1 :: es) X.env)).all (fun x => !x.1) && (backToKw cpos (keywordEach [] X.env)).all (fun x => x.1.isSome)
      && decide ((e1 :: es).length + ([] : List Keyword).length + (if ([] : List Keyword).isEmpty then 0 else 1) < 30)) = true := by rfl)
    (hline : (apos.endLine == cpos.line) = true := by rfl) (hs : starEach (e1 :: es) X.env = (false, eval e1 X.env) :: starEach es X.env := by rfl) (hplain : (backTo cpos (starEach es X.env)).any (·.1) = false := by rfl) :
    PE X (.Call (.Attribute o1 name apos) (e1 :: es) [] cpos) (tBMT r to t) := by
  refine ⟨fun pins s σ H Q I h => ?_⟩
  refine wpAny_Call_method_late hbase hfew hline rfl (thn (ho.run pins s σ H _ I h) fun v s1 ⟨x, H1, I1, r1, ⟨a, vs, ex, o, hd, hx⟩, q1⟩ => ?_)
  subst ex
  cases r1
  obtain ⟨hget, _, its, _, ob, hob, hc, _⟩ := I1.hok a _ hx
  have hoo : o = ob := by rw [hget] at hob; exact Option.some.inj hob
  subst hoo
  refine ⟨"tuple", id, pa, slot, hty, ⟨o, hget, hc⟩, fun b e => ?_, ?_⟩
  · cases e
    exact ⟨o, hget, hd⟩
  have hA := ha.run cpos pins s1 σ H1 _ I1 q1
  rw [hs] at hA ⊢
  refine Calls.callWith_builtin (by show (false || (backTo cpos (starEach es X.env)).any (·.1)) = false; rw [hplain] <;> rfl) (Calls.evalArgs_plain ?_)
  exact thn hA fun us s2 ⟨vs, H2, I2, r2, q2⟩ => hm pins s2 σ H2 (.ref a) vs (.ref a) us Q I2 rfl r2 q2
def rCountT (K : PySem.W.Frag) : V → List V → Hp → VK → Prop := fun x xs H Q => ∃ (a : Addr) (y : V) (d : PyData) (ds : List PyData), x = V.ref a ∧ xs = [y] ∧ Dp K H (V.ref a) (.tuple ds) ∧ Dp K H y d ∧
  SeqAt.shaped (.tuple ds) = true ∧ SeqAt.shaped d = true ∧ Q (.int ((ds.countP fun z => PyData.eqv z d : Nat) : Int)) H
theorem mt_countT (hu : X.A.units + 65 < cLine) : MtR X "tuple.count" (rCountT X.K) := by
  intro pins s σ H x xs v us Q I rx rxs h
  obtain ⟨a, y, d, ds, rfl, rfl, hl, hy, sl, sd, q⟩ := h
  cases rx
  obtain ⟨uy, rfl, ry⟩ := rxs.one
  obtain ⟨bs, r1⟩ := Dp.reads I d y uy hy ry
  have hxs : PyData.canLayAll0 ds = true := by
    have := SeqAt.canLay_of_shaped sl
    simpa only [PyData.canLay0] using this
  cases hl with
  | tup hs ha =>
    obtain ⟨its, rv, pt, hlen⟩ := I.tuple hs
    obtain ⟨as, h4⟩ := Dp.readsAll I ds _ its ha rv
    exact SeqAt.count_tuple_data (vs := its.toArray) pt (by simpa using h4) r1 (PyData.plainAll_of_canLay0 ds hxs) (PyData.plain_of_canLay0 d (SeqAt.canLay_of_shaped sd)) (room_in_shaped sd hu) ⟨.int _, H, I.tok _, ⟨_, rfl⟩, q⟩
def pCnt : List D → List D → Option D := fun xs ds => match ds with
  | [d] => if (okD (.tup xs) && okD d) = true then some (.int (xs.countP fun y => deq y d : Nat)) else none
  | _ => none
def dCount (i : Nat) (os : List Opd) : DE := fun env => match (env[i]? : Option (Option Ent)) with
  | some (some (Ent.mk Md.shr (.tup xs))) => (evOs os env).bind fun avs env1 => match getAVs env1 avs with
    | some ds => (match pCnt xs ds with
      | some d => .ok ⟨.shr, d⟩ env1
      | none => .bad)
    | none => .bad
  | _ => .bad
theorem countP_toPs (d : D) : ∀ xs : List D, (toPs xs).countP (fun z => PyData.eqv z (toP d)) = xs.countP fun y => deq y d
  | [] => rfl
  | x :: xs => by
    simp only [toPs, List.countP_cons, countP_toPs d xs, deq]
theorem e_count {k : Nat} (hr : GRoom k X.A) (i : Nat) {y : Str} {os : List Opd} {py apos cpos : Pos} (ha : DAs X W [e] os) (hv : allV os = true := by rfl)
    (hN : X.N[i]? = some y := by rfl) (hvis : Vis X.env.scope y := by first | exact Or.inl rfl | exact Or.inr (Or.inl rfl) | exact Or.inr (Or.inr rfl)) (hd : (y == ("__debug__" : Str)) = false := by decide) (hcd : (y == ("__classdict__" : Str)) = false := by decide)
    (hb : attributeBase (.Name y py) "count" X.env (eval (.Name y py) X.env) = eval (.Name y py) X.env := by rfl) (hf : Few X e cpos := by rfl) (hl : (apos.endLine == cpos.line) = true := by rfl)
    (he : starEach (e :: []) X.env = (false, eval e X.env) :: starEach [] X.env := by rfl) (hpl : (backTo cpos (starEach [] X.env)).any (·.1) = false := by rfl) : DEv X W (.Call (.Attribute (.Name y py) "count" apos) [e] [] cpos) (dCount i os) := by
  obtain ⟨t, h, s⟩ := ha
  have hu : X.A.units + 65 < cLine := by have := hr.room.un; omega
  refine ⟨_, pe_bmT (cpos := cpos) (apos := apos) PySem.F.plainAttrs_tuple PySem.F.slot_tuple_count PySem.F.type_tuple_count (mt_countT hu) (pe_var (pos := py) hN hvis hd hcd) h hb hf hl he hpl, fun O F σ H env Q st g => ?_⟩
  unfold dCount at g
  split at g
  · rename_i xs hi
    obtain ⟨v, hv1, a, vs, rfl, ht, rl⟩ := st.shr i _ hi
    refine ⟨_, hv1, ⟨a, vs, rfl, ht⟩, s O F σ H env _ st ?_⟩
    cases q : evOs os env with
    | bad => rw [q] at g; exact g.elim
    | err x e => rw [q] at g; exact g
    | ok avs env1 =>
      rw [q] at g
      simp only [R.bind] at g
      intro F1 H1 ws E1 s1 r1
      cases q2 : getAVs env1 avs with
      | none => rw [q2] at g; exact g.elim
      | some ds =>
        rw [q2] at g
        simp only [] at g
        have rd := AVs.vals hv q r1 q2
        cases q3 : pCnt xs ds with
        | none => rw [q3] at g; exact g.elim
        | some d =>
          rw [q3] at g
          unfold pCnt at q3
          split at q3
          · rename_i x
            split at q3
            · rename_i hok
              cases q3
              obtain ⟨⟨p1, sh1⟩, p2, sh2⟩ := okD_and hok
              obtain ⟨w, _, rfl, hw, rfl⟩ := rd
              have rt : Rep X.K F1 H1 (.tup xs) (.ref a) := Rep.ext E1 _ _ ⟨a, vs, rfl, ht, rl⟩
              have d1 := dp_of (.tup xs) (.ref a) p1 rt
              have d2 := dp_of x w p2 hw
              simp only [toP] at d1 sh1
              refine ⟨a, w, toP x, toPs xs, rfl, rfl, d1, d2, sh1, sh2, ?_⟩
              rw [countP_toPs]
              exact g F1 H1 _ E1 s1 rfl
            · cases q3
          · cases q3
  · exact g.elim
end
end DL
/-! DLY: x, y = a, b stored as a pair that is never made. -/
namespace DL
open PySem PySem.Spec PyProof.Rows L2
section
variable {X : Cx} {W : WX} {B : Bs}
def dPar (i j : Nat) (os : List Opd) : DS := fun env => (evOs os env).bind fun avs env1 => match avs with
  | [.d a, .d b] => .ok .nx ((env1.set i (some ⟨.shr, a⟩)).set j (some ⟨.shr, b⟩))
  | _ => .bad
theorem s_par (i j : Nat) {x y : Str} {a b : Expr} {os : List Opd} {px py pt : Pos} {kt k2 pt2} {pos : Pos} (hN : X.N.Nodup) (ha : DAs X W [a, b] os) (hc : X.calm = true := by rfl) (hi : X.N[i]? = some x := by rfl) (hj : X.N[j]? = some y := by rfl) (hij : i ≠ j := by decide)
    (hx : X.env.scope.names.lookup x = some .local := by rfl) (hy : X.env.scope.names.lookup y = some .local := by rfl) (hB : B i = false := by rfl) (hB2 : B j = false := by rfl)
    (hw : swappedStores [.Tuple [.Name x px, .Name y py] kt pt] (.Tuple [a, b] k2 pt2) X.env = pure (some [x, y]) := by rfl)
    (hs : swapsWithSole [.Tuple [.Name x px, .Name y py] kt pt] (.Tuple [a, b] k2 pt2) pos.line X.env = pure false := by rfl) :
    DSt X W B (.Assign [.Tuple [.Name x px, .Name y py] kt pt] (.Tuple [a, b] k2 pt2) pos) (dPar i j os) := by
  obtain ⟨t, h1, s1⟩ := ha
  refine ⟨_, ps_par hc hN hi hj hij hx hy h1 hw hs, fun O F σ H env Dn s g => s1 O F σ H env _ s ?_⟩
  unfold dPar at g
  cases q : evOs os env with
  | bad => rw [q] at g; exact g.elim
  | err x e => rw [q] at g; exact fun F' H' c d e' s' r => g F' H' σ c d e' s' Keeps.refl r
  | ok avs env1 =>
    rw [q] at g
    simp only [R.bind] at g
    intro F1 H1 vs E1 st1 r1
    match avs, g, r1 with
    | [.d a, .d b], g, r1 =>
      obtain ⟨v, r, rfl, hv, w, r', rfl, hw', rfl⟩ := r1
      exact ⟨v, w, rfl, g F1 H1 _ E1 ((st1.store (e := ⟨.shr, a⟩) hv).store (e := ⟨.shr, b⟩) hw') ((keeps_set hB).trans (keeps_set hB2))⟩
    | [], g, _ => exact g.elim
    | [.d _], g, _ => exact g.elim
    | [.s _], g, _ => exact g.elim
    | .s _ :: _ :: _, g, _ => exact g.elim
    | .d _ :: .s _ :: _, g, _ => exact g.elim
    | .d _ :: .d _ :: _ :: _, g, _ => exact g.elim
end
end DL
/-! DLZ5: sorted(x) of a list of ints. -/
namespace DL
open PySem PySem.Spec PyProof.Rows L2
section
variable {X : Cx} {W : WX}
theorem srt_eq : ∀ a b : List Int, a.Perm b → a.Pairwise (· ≤ ·) → b.Pairwise (· ≤ ·) → a = b
  | [], b, h, _, _ => h.nil_eq
  | x :: a, [], h, _, _ => h.symm.nil_eq.symm
  | x :: a, y :: b, h, ha, hb => by
    have h1 : x ∈ y :: b := h.mem_iff.mp (List.mem_cons_self ..)
    have h2 : y ∈ x :: a := h.mem_iff.mpr (List.mem_cons_self ..)
    rw [List.pairwise_cons] at ha hb
    have e : x = y := by
      rcases List.mem_cons.mp h1 with h1 | h1
      · exact h1
      · rcases List.mem_cons.mp h2 with h2 | h2
        · exact h2.symm
        · have := ha.1 y h2
          have := hb.1 x h1
          omega
    subst e
    rw [srt_eq a b h.cons_inv ha.2 hb.2]
def isrt (ns : List Int) : List Int := ns.mergeSort fun a b => decide (a ≤ b)
theorem isrt_perm (ns : List Int) : (isrt ns).Perm ns := List.mergeSort_perm ns _
theorem isrt_pair (ns : List Int) : (isrt ns).Pairwise (· ≤ ·) := by
  have h := List.pairwise_mergeSort (le := fun a b : Int => decide (a ≤ b)) (fun a b c h1 h2 => decide_eq_true (by have := of_decide_eq_true h1; have := of_decide_eq_true h2; omega)) (fun a b => by
    by_cases hab : a ≤ b
    · simp [hab]
    · simp [show b ≤ a by omega]) ns
  exact h.imp fun h => of_decide_eq_true h
theorem repL_intsS {K : PySem.W.Frag} {F : Fz} {H : Hp} : ∀ ns : List Int, RepL K F H (ns.map D.int) (ns.map V.int)
  | [] => rfl
  | n :: ns => ⟨V.int n, ns.map V.int, rfl, rfl, repL_intsS ns⟩
def pSorted : Pr := fun ds => match ds with
  | [.lst xs] => (intsOf xs).bind fun bs => if bs.length < 64 then some (.nl ((isrt bs).map D.int)) else none
  | _ => none
theorem pr_sorted {K : PySem.W.Frag} : PrimR K pSorted (rSorted K) := fun F H ds vs Q pr fd rt e q => by
  unfold pSorted at e
  split at e
  · rename_i xs
    obtain ⟨v, _, rfl, ⟨p, us, rfl, hp, r1⟩, rfl⟩ := rt
    cases hb : intsOf xs with
    | none => rw [hb] at e; cases e
    | some bs =>
      rw [hb, Option.bind_some] at e
      split at e
      · rename_i hl
        cases e
        have := intsOf_v r1 hb
        subst this
        refine ⟨p, bs, rfl, SqL.of hp, hl, fun ns' c h1 h2 hc => ?_⟩
        rw [srt_eq ns' (isrt bs) (h1.trans (isrt_perm bs).symm) h2 (isrt_pair bs)]
        exact q _ _ (same_new hc) ⟨c, _, rfl, hc, upd_same, repL_intsS _⟩
      · cases e
  · cases e
theorem x_sorted (hm : X.mg "sorted" = none) (ha : DOp X W e o) (hg : Gl X "sorted" := by rfl) (hs : S1 X e := by rfl) (hpl : (backTo pos (starEach [] X.env)).any (·.1) = false := by rfl) : DEv X W (.Call (.Name "sorted" p) [e] [] pos) (dPrim pSorted [o]) := e_callB cr_sorted pr_sorted hg hm (by decide +kernel) (a1 ha hs) (he := hs) (hpl := hpl)
end
end DL
/-! DLZB: min of a list of ranks: tuples of an int and a tuple of ints. -/
namespace DL
open PySem PySem.Spec PyProof.Rows L2
def rkD (r : Int × List Int) : D := .tup [.int r.1, .tup (r.2.map D.int)]
def rkOf : D → Option (Int × List Int)
  | .tup [.int n, .tup xs] => (intsOf xs).map fun is => (n, is)
  | _ => none
def rksOf : List D → Option (List (Int × List Int))
  | [] => some []
  | d :: ds => (rkOf d).bind fun r => (rksOf ds).map (r :: ·)
theorem intsOf_D : ∀ {ds : List D} {is : List Int}, intsOf ds = some is → ds = is.map D.int
  | [], is, e => by cases e; rfl
  | .int b :: ds, is, e => by
    cases q : intsOf ds with
    | none => simp [intsOf, q] at e
    | some cs =>
      simp [intsOf, q] at e
      subst e
      rw [intsOf_D q]
      rfl
  | .non :: _, _, e => by cases e
  | .bl _ :: _, _, e => by cases e
  | .str _ :: _, _, e => by cases e
  | .tup _ :: _, _, e => by cases e
  | .lst _ :: _, _, e => by cases e
  | .fz _ :: _, _, e => by cases e
  | .rng _ _ :: _, _, e => by cases e
  | .pr _ _ :: _, _, e => by cases e
  | .exc _ _ :: _, _, e => by cases e
theorem rkOf_D {d : D} {r : Int × List Int} (h : rkOf d = some r) : d = rkD r := by
  unfold rkOf at h
  split at h
  · rename_i n xs
    cases q : intsOf xs with
    | none => rw [q] at h; cases h
    | some is =>
      rw [q] at h
      cases h
      rw [intsOf_D q]
      rfl
  · cases h
theorem rksOf_D : ∀ {ds : List D} {rs : List (Int × List Int)}, rksOf ds = some rs → ds = rs.map rkD
  | [], rs, e => by cases e; rfl
  | d :: ds, rs, e => by
    unfold rksOf at e
    cases q : rkOf d with
    | none => rw [q] at e; cases e
    | some r =>
      cases q2 : rksOf ds with
      | none => rw [q, q2] at e; cases e
      | some t =>
        rw [q, q2] at e
        cases e
        rw [rkOf_D q, rksOf_D q2]
        rfl
def rkLt (a b : Int × List Int) : Bool := PySem.W.dataLt (toP (rkD a)) (toP (rkD b))
def leastR (x : Int × List Int) (xs : List (Int × List Int)) : Int × List Int := xs.foldl (fun a y => if rkLt y a then y else a) x
theorem toPs_map {α : Type} (f : α → D) : ∀ xs : List α, toPs (xs.map f) = xs.map fun x => toP (f x)
  | [] => by simp only [List.map_nil, toPs]
  | x :: xs => by simp only [List.map_cons, toPs, toPs_map f xs]
theorem minD_rk : ∀ (xs : List (Int × List Int)) (x : Int × List Int), PySem.W.minD (toP (rkD x)) (toPs (xs.map rkD)) = toP (rkD (leastR x xs))
  | [], x => by simp only [List.map_nil, toPs, PySem.W.minD, leastR, List.foldl_nil]
  | y :: xs, x => by
    have ih := minD_rk xs (if rkLt y x then y else x)
    simp only [List.map_cons, toPs, PySem.W.minD, leastR, List.foldl_cons] at ih ⊢
    rw [← ih]
    congr 1
    by_cases h : rkLt y x = true
    · have h2 : PySem.W.dataLt (toP (rkD y)) (toP (rkD x)) = true := h
      rw [if_pos h2, if_pos h]
    · have h2 : ¬ PySem.W.dataLt (toP (rkD y)) (toP (rkD x)) = true := h
      rw [if_neg h2, if_neg h]
theorem alike_ints : ∀ a b : List Int, PySem.W.alikeAll (a.map PyData.int) (b.map PyData.int) = true
  | [], _ => by simp only [List.map_nil, PySem.W.alikeAll]
  | _ :: _, [] => by simp only [List.map_nil, List.map_cons, PySem.W.alikeAll]
  | x :: a, y :: b => by simp only [List.map_cons, PySem.W.alikeAll, PySem.W.alike, alike_ints a b, Bool.and_self]
theorem toP_rk (r : Int × List Int) : toP (rkD r) = .tuple [.int r.1, .tuple (r.2.map PyData.int)] := by
  have e : toPs (r.2.map D.int) = r.2.map PyData.int := by
    rw [toPs_map]
    apply List.map_congr_left
    intro x _
    simp only [toP]
  simp only [rkD, toP, toPs, e]
theorem alike_rk (a b : Int × List Int) : PySem.W.alike (toP (rkD a)) (toP (rkD b)) = true := by
  rw [toP_rk, toP_rk]
  simp only [PySem.W.alike, PySem.W.alikeAll, alike_ints, Bool.and_self]
theorem rk_inj {a b : Int × List Int} (h : toP (rkD a) = toP (rkD b)) : a = b := by
  rw [toP_rk, toP_rk] at h
  injection h with h
  injection h with h1 h2
  injection h1 with h1
  injection h2 with h2 _
  injection h2 with h2
  have h3 : a.2 = b.2 := (List.map_inj_right (fun x y e => by injection e)).mp h2
  exact Prod.ext h1 h3
section
variable {X : Cx} {W : WX} {pos p : Pos} {e : Expr} {o : Opd}
def rMinT (K : PySem.W.Frag) : List V → Hp → VK → Prop := fun vs H Q => ∃ (a : Addr) (xs : List V) (d : PyData) (ds : List PyData), vs = [V.ref a] ∧ SqL K H a xs ∧ DpAll K H xs (d :: ds) ∧ PySem.W.AlikeAll (d :: ds) ∧ PyData.depthAll (d :: ds) ≤ 64 ∧
  ∀ (i : Nat) (v : V), xs[i]? = some v → (d :: ds)[i]? = some (PySem.W.minD d ds) → Q v H
theorem Vals.get2 {xs : List V} {us : List Value} {i : Nat} {u : Value} (r : Vals xs us) (h : us[i]? = some u) : ∃ x, xs[i]? = some x ∧ RelV x u := by
  have hi : i < xs.length := by
    rw [r.length]
    exact (List.getElem?_eq_some_iff.mp h).1
  obtain ⟨u2, h2, rr⟩ := r.get (List.getElem?_eq_getElem hi)
  rw [h] at h2
  cases h2
  exact ⟨_, List.getElem?_eq_getElem hi, rr⟩
theorem cr_minT (hc : X.calm = true) (hu : X.A.units + 65 < cLine) : CallR X (.builtin "min") (rMinT X.K) := by
  intro pins s σ H vs us Q I r h
  obtain ⟨a, xs, d, ds, rfl, hs, hd, al, dp, q⟩ := h
  obtain ⟨its, rv, hl, _⟩ := I.list hs
  rw [Vals.ref1 r]
  obtain ⟨as, hr⟩ := Dp.readsAll I (d :: ds) xs its hd rv
  refine PySem.W.min_list_data (vs := its.toArray) (I.ok.hd hc) hl.isList (by simpa using hr) al (by omega) fun i v h' tk bs hv rd hk => ?_
  have hv : its[i]? = some v := by simpa using hv
  obtain ⟨x, hx, rx⟩ := Vals.get2 rv hv
  obtain ⟨bs2, r2, hi, _, _⟩ := PySem.W.readsAll_at hr i v hv
  have r3 := PySem.W.reads_keeps hk r2
  have e := (PySem.Reads.unique r3 _ _ rd).1
  have e2 : (d :: ds)[i]? = some (PySem.W.minD d ds) := by
    rw [← e]
    unfold List.getD
    rw [List.getElem?_eq_getElem hi]
    rfl
  exact ⟨x, H, I.kept hk, rx, q i x hx e2⟩
def pMinT : Pr := fun ds => match ds with
  | [.lst xs] => (rksOf xs).bind fun rs => match rs with
    | [] => none
    | r :: t => if okD (.lst xs) = true then some (.d (rkD (leastR r t))) else none
  | _ => none
theorem pr_minT {K : PySem.W.Frag} : PrimR K pMinT (rMinT K) := fun F H ds vs Q pr fd rt e q => by
  unfold pMinT at e
  split at e
  · rename_i xs
    obtain ⟨v, _, rfl, ⟨p, us, rfl, hp, r1⟩, rfl⟩ := rt
    cases hb : rksOf xs with
    | none => rw [hb] at e; cases e
    | some rs =>
      rw [hb, Option.bind_some] at e
      cases rs with
      | nil => cases e
      | cons r t =>
        simp only [] at e
        split at e
        · rename_i ok
          cases e
          have ex := rksOf_D hb
          subst ex
          simp only [okD, Bool.and_eq_true] at ok
          have pl : plains ((r :: t).map rkD) = true := by simpa only [plain] using ok.1
          have dd := dps_of _ us pl r1
          have et : toPs ((r :: t).map rkD) = toP (rkD r) :: toPs (t.map rkD) := by simp only [List.map_cons, toPs]
          rw [et] at dd
          refine ⟨p, us, _, _, rfl, SqL.of hp, dd, ⟨fun a ha b hb => ?_, fun a ha z => ?_⟩, ?_, fun i v hv he => ?_⟩
          · rw [← et, toPs_map] at ha hb
            obtain ⟨x, _, rfl⟩ := List.mem_map.mp ha
            obtain ⟨y, _, rfl⟩ := List.mem_map.mp hb
            exact alike_rk x y
          · rw [← et, toPs_map] at ha
            obtain ⟨x, _, rfl⟩ := List.mem_map.mp ha
            rw [toP_rk] at z
            cases z
          · have := ok.2
            simp only [SeqAt.shaped, Bool.and_eq_true, decide_eq_true_eq] at this
            have h2 := this.2
            simp only [toP, PyData.depth] at h2
            rw [← et]
            omega
          · rw [minD_rk, ← et, toPs_map, List.getElem?_map] at he
            cases hr : (r :: t)[i]? with
            | none => rw [hr] at he; cases he
            | some x =>
              rw [hr] at he
              have ex : x = leastR r t := rk_inj (Option.some.inj he)
              subst ex
              obtain ⟨d, hd, rd⟩ := r1.get' hv
              rw [List.getElem?_map, hr] at hd
              cases hd
              exact q _ _ (Same.refl _) rd
        · cases e
  · cases e
theorem x_minT {k : Nat} (hr : GRoom k X.A) (hc : X.calm = true) (hm : X.mg "min" = none) (ha : DOp X W e o) (hg : Gl X "min" := by rfl) (hs : S1 X e := by rfl) (hpl : (backTo pos (starEach [] X.env)).any (·.1) = false := by rfl) : DEv X W (.Call (.Name "min" p) [e] [] pos) (dPrim pMinT [o]) := e_callB (cr_minT hc (by have := hr.room.un; omega)) pr_minT hg hm (by decide +kernel) (a1 ha hs) (he := hs) (hpl := hpl)
end
end DL
namespace My
open PySem PySem.Spec PyProof.Rows L2 DL
/-- _law_digits -/
def m__law_digits : DS := dSeq (dSet 1 (dPrim pAbs [.s 0])) (dSeq (dIfS (dTst (dPrim pLt [.s 0, .v (dC (.int 0))])) (dAug 1 (fun i j => i + j) (dC (.int 1))) (dNext)) (dSeq (dIfS (dTst (dPrim pLt [.s 1, .v (dPrim pPow [.v (dC (.int 10)), .v (dC (.int 18))])])) (dRet (dPrim pLst [.v (dC (.int 0)), .v (dPrim pAdd [.s 1, .v (dC (.int 3))]), .v (dC (.int 0))])) (dNext)) (dRet (dPrim pLst [.v (dVar 1), .v (dPrim pMod [.v (dPrim pIntOf [.s 1]), .v (dC (.int 2147483629))]), .v (dC (.int 0))]))))
def f__law_digits : DFn := dDef false 1 2 m__law_digits
/-- _law_pick -/
def m__law_pick : DS := dSeq (dAugIx 0 2 1) (dSeq (dIfS (dTst (dPrim pGt [.v (dPrim pIx [.s 0, .v (dC (.int 0))]), .v (dC (.int 0))])) (dSeq (dSet 2 (dPrim pMod [.v (dPrim pIntOf [.v (dPrim pIx [.s 0, .v (dC (.int 0))])]), .s 1])) (dSeq (dSetIx 0 [.v (dC (.int 0))] (dPrim pFdiv [.v (dPrim pIx [.s 0, .v (dC (.int 0))]), .s 1])) (dRetV 2))) (dNext)) (dSeq (dSet 3 (dPrim pMod [.v (dPrim pIntOf [.v (dPrim pAdd [.v (dPrim pAdd [.v (dPrim pMul [.v (dPrim pIx [.s 0, .v (dC (.int 1))]), .v (dC (.int 48271))]), .v (dPrim pMul [.v (dPrim pMul [.v (dPrim pIx [.s 0, .v (dC (.int 2))]), .v (dPrim pIx [.s 0, .v (dC (.int 2))])]), .v (dC (.int 69621))])]), .v (dC (.int 7919))])]), .v (dC (.int 2147483647))])) (dSeq (dSet 3 (dPrim pMod [.v (dPrim pIntOf [.v (dPrim pAdd [.v (dPrim pAdd [.v (dPrim pMul [.s 3, .s 3]), .v (dPrim pMul [.v (dPrim pIx [.s 0, .v (dC (.int 2))]), .v (dC (.int 40692))])]), .v (dPrim pIx [.s 0, .v (dC (.int 1))])])]), .v (dC (.int 2147483399))])) (dRet (dPrim pMod [.v (dPrim pFdiv [.s 3, .v (dC (.int 11))]), .s 1])))))
def f__law_pick : DFn := dDef true 2 4 m__law_pick
/-- _law_make_catalog -/
def m__law_make_catalog : DS := dSeq (dSet 4 (dCallR f__law_pick 0 [.v (dC (.int 10))])) (dSeq (dSet 5 (dPrim pIx [.v (dPrim pLst [.v (dC (.int 1)), .v (dC (.int 2)), .v (dC (.int 3)), .v (dC (.int 10))]), .v (dCallR f__law_pick 0 [.v (dC (.int 4))])])) (dSeq (dSet 6 (dCallR f__law_pick 0 [.v (dC (.int 4))])) (dSeq (dSet 7 (dPrim pLst [])) (dSeq (dSet 8 (dPrim pLst [])) (dSeq (dForI (iArgs rng1 [.v (dPrim pLen [.s 1])]) (gSet 9) (dSeq (dSet 10 (dCallR f__law_pick 0 [.v (dC (.int 6))])) (dSeq (dSet 11 (dPrim pLst [])) (dSeq (dForI (iArgs rng1 [.s 3]) (gSet 12) (dSeq (dSet 13 (dCallR f__law_pick 0 [.v (dC (.int 5))])) (dSeq (dSet 14 (dPrim pMod [.v (dPrim pIntOf [.v (dPrim pAdd [.s 4, .v (dCallR f__law_pick 0 [.v (dVar 5)])])]), .v (dC (.int 10))])) (dSeq (dIfS (dAnd (dTst (dPrim pGt [.s 9, .v (dC (.int 0))])) (dOr (dTst (dPrim pEq [.s 10, .v (dC (.int 1))])) (dTst (dPrim pEq [.s 13, .v (dC (.int 4))])))) (dSet 14 (dPrim pIx [.v (dPrim pIx [.s 8, .v (dPrim pIx [.s 1, .s 9])]), .s 12])) (dNext)) (dSeq (dIfS (dAnd (dTst (dPrim pGt [.s 9, .v (dC (.int 0))])) (dTst (dPrim pEq [.s 10, .v (dC (.int 2))]))) (dSet 14 (dPrim pIx [.v (dPrim pIx [.s 7, .v (dC (.int 0))]), .s 12])) (dNext)) (dSeq (dIfS (dOr (dTst (dPrim pEq [.s 10, .v (dC (.int 0))])) (dTst (dPrim pLt [.s 13, .s 6]))) (dSet 14 (dC .non)) (dNext)) (dDrop (dMut mApp 11 [.v (dVar 14)])))))))) (dSeq (dDrop (dMut mApp 7 [.v (dPrim pTupOf [.s 11])])) (dSeq (dSet 15 (dVar 11)) (dSeq (dIfS (dTst (dPrim pGt [.s 9, .v (dC (.int 0))])) (dSet 15 (dPrim pIx [.s 8, .v (dPrim pIx [.s 1, .s 9])])) (dNext)) (dDrop (dMut mApp 8 [.v (dComp [12] (iArgs rng1 [.s 3]) (gSet 12) (dYes) (dIf (dTst (dPrim pIsN [.v (dPrim pIx [.s 11, .s 12]), .v (dC .non)])) (dPrim pIx [.s 15, .s 12]) (dPrim pIx [.s 11, .s 12])))]))))))))) (dRet (dPrim pTup [.v (dVar 1), .v (dVar 2), .v (dPrim pTupOf [.s 7])])))))))
def f__law_make_catalog : DFn := dDef true 4 16 m__law_make_catalog
/-- _law_draw_wants -/
def m__law_draw_wants : DS := dSeq (dSet 3 (dPrim pMin [.s 2, .v (dCallR f__law_pick 0 [.v (dC (.int 5))])])) (dSeq (dIfS (dTst (dPrim pEq [.s 3, .v (dC (.int 4))])) (dSet 3 (dCallR f__law_pick 0 [.v (dPrim pAdd [.s 2, .v (dC (.int 1))])])) (dNext)) (dRet (dPrim pTupOf [.v (dComp [4] (iArgs rng1 [.s 3]) (gSet 4) (dYes) (dCallR f__law_pick 0 [.v (dVar 1)]))])))
def f__law_draw_wants : DFn := dDef true 3 5 m__law_draw_wants
/-- _law_moved_catalog -/
def m__law_moved_catalog : DS := dSeq (dSet 3 (dPrim pLst [])) (dSeq (dForI (iSeq (dPrim pIx [.s 0, .v (dC (.int 2))])) (gSet 4) (dSeq (dSet 5 (dComp [6] (iSeq (dVar 4)) (gSet 6) (dYes) (dIf (dTst (dPrim pIsN [.s 6, .v (dC .non)])) (dC .non) (dPrim pMod [.v (dPrim pIntOf [.v (dPrim pAdd [.v (dPrim pMul [.s 6, .v (dC (.int 7))]), .s 2])]), .v (dC (.int 10))])))) (dDrop (dMut mApp 3 [.v (dPrim pTupOf [.v (dPrim pAdd [.v (dSlice pSlice (.s 5) (some (dVar 1)) none), .v (dSlice pSlice (.s 5) none (some (dVar 1)))])])])))) (dRet (dPrim pTup [.v (dPrim pIx [.s 0, .v (dC (.int 0))]), .v (dPrim pIx [.s 0, .v (dC (.int 1))]), .v (dPrim pTupOf [.s 3])])))
def f__law_moved_catalog : DFn := dDef false 3 7 m__law_moved_catalog
/-- _law_make_tree -/
def m__law_make_tree : DS := dSeq (dSet 3 (dPrim pAdd [.s 1, .v (dCallR f__law_pick 0 [.v (dPrim pAdd [.v (dPrim pSub [.s 2, .s 1]), .v (dC (.int 1))])])])) (dSeq (dSet 4 (dCallR f__law_pick 0 [.v (dC (.int 6))])) (dSeq (dSet 5 (dPrim pLst [.v (dC .non)])) (dSeq (dForI (iArgs rng2 [.v (dC (.int 1)), .s 3]) (gSet 6) (dIfS (dTst (dPrim pEq [.s 4, .v (dC (.int 0))])) (dDrop (dMut mApp 5 [.v (dC (.int 0))])) (dIfS (dTst (dPrim pEq [.s 4, .v (dC (.int 1))])) (dDrop (dMut mApp 5 [.v (dPrim pSub [.s 6, .v (dC (.int 1))])])) (dIfS (dTst (dPrim pEq [.s 4, .v (dC (.int 2))])) (dDrop (dMut mApp 5 [.v (dPrim pMax [.v (dC (.int 0)), .v (dPrim pSub [.s 6, .v (dC (.int 2))])])])) (dIfS (dTst (dPrim pEq [.s 4, .v (dC (.int 3))])) (dDrop (dMut mApp 5 [.v (dPrim pFdiv [.s 6, .v (dC (.int 2))])])) (dDrop (dMut mApp 5 [.v (dCallR f__law_pick 0 [.v (dVar 6)])]))))))) (dRet (dPrim pTupOf [.s 5])))))
def f__law_make_tree : DFn := dDef true 3 7 m__law_make_tree
/-- _law_draw_sheet -/
def m__law_draw_sheet : DS := dSeq (dSet 2 (dPrim pTupOf [.v (dComp [3] (iArgs rng1 [.s 1]) (gSet 3) (dTst (dPrim pGt [.v (dCallR f__law_pick 0 [.v (dC (.int 3))]), .v (dC (.int 0))])) (dVar 3))])) (dSeq (dIfS (dTst (dPrim pEq [.v (dPrim pLen [.s 2]), .v (dC (.int 0))])) (dRet (dPrim pTup [.v (dCallR f__law_pick 0 [.v (dVar 1)])])) (dNext)) (dRetV 2))
def f__law_draw_sheet : DFn := dDef true 2 4 m__law_draw_sheet
/-- is_tuple -/
def m_is_tuple : DS := dRet (dPrim (pTyIs "tuple") [.s 0])
def f_is_tuple : DFn := dDef false 1 1 m_is_tuple
/-- is_integer_within -/
def m_is_integer_within : DS := dRet (dAndV (dTst (dPrim (pIsI "int") [.s 0])) (dAndV (dTst (dB (dNot (dTst (dPrim (pIsI "bool") [.s 0]))))) (dChain pLe pLe (.s 1) (.v (dVar 0)) (.s 2))))
def f_is_integer_within : DFn := dDef false 3 3 m_is_integer_within
/-- is_tree -/
def m_is_tree : DS := dSeq (dIfS (dOr (dNot (dTst (dCall f_is_tuple [.v (dVar 0)]))) (dNot (dTst (dChain pLe pLe (.v (dC (.int 1))) (.v (dPrim pLen [.s 0])) (.v (dC (.int (10)))))))) (dRet (dC (.bl false))) (dNext)) (dSeq (dIfS (dTst (dPrim pNotN [.v (dPrim pIx [.s 0, .v (dC (.int 0))]), .v (dC .non)])) (dRet (dC (.bl false))) (dNext)) (dRet (dPrim pAll [.v (dComp [1] (iArgs rng2 [.v (dC (.int 1)), .v (dPrim pLen [.s 0])]) (gSet 1) (dYes) (dCall f_is_integer_within [.v (dPrim pIx [.s 0, .s 1]), .v (dC (.int 0)), .v (dPrim pSub [.s 1, .v (dC (.int 1))])]))])))
def f_is_tree : DFn := dDef false 1 2 m_is_tree
/-- is_way -/
def m_is_way : DS := dRet (dAndV (dTst (dPrim (pIsI "str") [.s 0])) (dPrim (pInN false) [.s 0, .v (dPrim pTup [.v (dC (.str "key")), .v (dC (.str "bundle"))])]))
def f_is_way : DFn := dDef false 1 1 m_is_way
/-- is_text -/
def m_is_text : DS := dRet (dCall f_is_integer_within [.v (dVar 0), .v (dC (.int 0)), .v (dC (.int (9)))])
def f_is_text : DFn := dDef false 1 1 m_is_text
/-- is_text_or_none -/
def m_is_text_or_none : DS := dRet (dOrV (dTst (dPrim pIsN [.s 0, .v (dC .non)])) (dCall f_is_text [.v (dVar 0)]))
def f_is_text_or_none : DFn := dDef false 1 1 m_is_text_or_none
/-- is_row -/
def m_is_row : DS := dSeq (dIfS (dOr (dNot (dTst (dCall f_is_tuple [.v (dVar 0)]))) (dNot (dTst (dChain pLe pLe (.v (dC (.int 1))) (.v (dPrim pLen [.s 0])) (.v (dC (.int (4)))))))) (dRet (dC (.bl false))) (dNext)) (dRet (dPrim pAll [.v (dComp [1] (iSeq (dVar 0)) (gSet 1) (dYes) (dCall f_is_text_or_none [.v (dVar 1)]))]))
def f_is_row : DFn := dDef false 1 2 m_is_row
/-- are_rows -/
def m_are_rows : DS := dSeq (dIfS (dOr (dNot (dTst (dCall f_is_tuple [.v (dVar 0)]))) (dTst (dPrim pNe [.v (dPrim pLen [.s 0]), .s 1]))) (dRet (dC (.bl false))) (dNext)) (dSeq (dIfS (dNot (dTst (dPrim pAll [.v (dComp [2] (iSeq (dVar 0)) (gSet 2) (dYes) (dCall f_is_row [.v (dVar 2)]))]))) (dRet (dC (.bl false))) (dNext)) (dRet (dPrim pAll [.v (dComp [2] (iSeq (dVar 0)) (gSet 2) (dYes) (dPrim pEq [.v (dPrim pLen [.s 2]), .v (dPrim pLen [.v (dPrim pIx [.s 0, .v (dC (.int 0))])])]))])))
def f_are_rows : DFn := dDef false 2 3 m_are_rows
/-- is_catalog -/
def m_is_catalog : DS := dSeq (dIfS (dOr (dNot (dTst (dCall f_is_tuple [.v (dVar 0)]))) (dTst (dPrim pNe [.v (dPrim pLen [.s 0]), .v (dC (.int 3))]))) (dRet (dC (.bl false))) (dNext)) (dSeq (dAsg (gTupD 3 (gsCons (gSet 1) (gsCons (gSet 2) (gsCons (gSet 3) (gsNil))))) (dVar 0)) (dRet (dAndV (dTst (dCall f_is_tree [.v (dVar 1)])) (dAndV (dTst (dCall f_is_way [.v (dVar 2)])) (dCall f_are_rows [.v (dVar 3), .v (dPrim pLen [.s 1])])))))
def f_is_catalog : DFn := dDef false 1 4 m_is_catalog
/-- check_catalog -/
def m_check_catalog : DS := dIfS (dNot (dTst (dCall f_is_catalog [.v (dVar 0)]))) (dNever) (dNext)
def f_check_catalog : DFn := dDef false 1 1 m_check_catalog
/-- is_ascending -/
def m_is_ascending : DS := dRet (dPrim pAll [.v (dComp [1, 2] (iArgs zip2 [.v (dVar 0), .v (dSlice pSlice (.s 0) (some (dC (.int 1))) none)]) (gTupD 2 (gsCons (gSet 1) (gsCons (gSet 2) (gsNil)))) (dYes) (dPrim pLt [.s 1, .s 2]))])
def f_is_ascending : DFn := dDef false 1 3 m_is_ascending
/-- is_page -/
def m_is_page : DS := dSeq (dIfS (dOr (dNot (dTst (dCall f_is_tuple [.v (dVar 1)]))) (dTst (dPrim pEq [.v (dPrim pLen [.s 1]), .v (dC (.int 0))]))) (dRet (dC (.bl false))) (dNext)) (dSeq (dIfS (dNot (dTst (dPrim pAll [.v (dComp [2] (iSeq (dVar 1)) (gSet 2) (dYes) (dCall f_is_integer_within [.v (dVar 2), .v (dC (.int 0)), .v (dPrim pSub [.s 0, .v (dC (.int 1))])]))]))) (dRet (dC (.bl false))) (dNext)) (dRet (dCall f_is_ascending [.v (dVar 1)])))
def f_is_page : DFn := dDef false 2 3 m_is_page
/-- count_keys -/
def m_count_keys : DS := dRet (dPrim pLen [.v (dPrim pIx [.v (dPrim pIx [.s 0, .v (dC (.int 2))]), .v (dC (.int 0))])])
def f_count_keys : DFn := dDef false 1 1 m_count_keys
/-- check_page -/
def m_check_page : DS := dIfS (dNot (dTst (dCall f_is_page [.v (dCall f_count_keys [.v (dVar 0)]), .v (dVar 1)]))) (dNever) (dNext)
def f_check_page : DFn := dDef false 2 2 m_check_page
/-- path_of -/
def m_path_of : DS := dSeq (dSet 2 (dPrim pLst [.v (dVar 1)])) (dSeq (dSet 3 (dPrim pIx [.s 0, .s 1])) (dSeq (dWhile (dAnd (dTst (dPrim pNotN [.s 3, .v (dC .non)])) (dTst (dPrim pNe [.s 3, .v (dC (.int 0))]))) (dSeq (dDrop (dMut mApp 2 [.v (dVar 3)])) (dSet 3 (dPrim pIx [.s 0, .s 3]))) 64) (dRet (dPrim pTupOf [.s 2]))))
def f_path_of : DFn := dDef false 2 4 m_path_of
/-- passed_by -/
def m_passed_by : DS := dSeq (dSet 2 (dPrim pLst [])) (dSeq (dForI (iSeq (dVar 1)) (gSet 3) (dForI (iSeq (dCall f_path_of [.v (dVar 0), .v (dVar 3)])) (gSet 4) (dIfS (dTst (dPrim (pInN true) [.s 4, .s 2])) (dDrop (dMut mApp 2 [.v (dVar 4)])) (dNext)))) (dRet (dPrim pTupOf [.s 2])))
def f_passed_by : DFn := dDef false 2 5 m_passed_by
/-- longer -/
def m_longer : DS := dSeq (dSet 2 (dPrim pLst [])) (dSeq (dForI (iSeq (dVar 1)) (gSet 3) (dSeq (dSet 4 (dCall f_passed_by [.v (dVar 0), .v (dVar 3)])) (dForI (iArgs rng1 [.v (dPrim pLen [.s 0])]) (gSet 5) (dIfS (dTst (dPrim (pInN true) [.s 5, .s 4])) (dDrop (dMut mApp 2 [.v (dPrim pAdd [.s 3, .v (dPrim pTup [.v (dVar 5)])])])) (dNext))))) (dRetV 2))
def f_longer : DFn := dDef false 2 6 m_longer
/-- short_lists -/
def m_short_lists : DS := dSeq (dSet 2 (dPrim pLst [.v (dPrim pTup [])])) (dSeq (dSet 3 (dPrim pLst [.v (dPrim pTup [])])) (dSeq (dForI (iArgs rng1 [.s 1]) (gSet 4) (dSeq (dSet 3 (dCall f_longer [.v (dVar 0), .v (dVar 3)])) (dSet 2 (dPrim pAdd [.s 2, .s 3])))) (dRetV 2)))
def f_short_lists : DFn := dDef false 2 5 m_short_lists
/-- skips -/
def m_skips : DS := dSeq (dAsg (gTupD 3 (gsCons (gSet 2) (gsCons (gSet 3) (gsCons (gSet 4) (gsNil))))) (dVar 0)) (dSeq (dForI (iSeq (dCall f_path_of [.v (dVar 2), .v (dVar 1)])) (gSet 5) (dForI (iSeq (dPrim pIx [.s 4, .s 5])) (gSet 6) (dIfS (dTst (dPrim pNotN [.s 6, .v (dC .non)])) (dRet (dC (.bl false))) (dNext)))) (dRet (dC (.bl true))))
def f_skips : DFn := dDef false 2 7 m_skips
/-- chosen_of -/
def m_chosen_of : DS := dSeq (dForI (iArgs enumA [.v (dVar 1)]) (gTupD 2 (gsCons (gSet 2) (gsCons (gSet 3) (gsNil)))) (dIfS (dNot (dTst (dCall f_skips [.v (dVar 0), .v (dVar 3)]))) (dRetV 2) (dNext))) (dRet (dC .non))
def f_chosen_of : DFn := dDef false 2 4 m_chosen_of
/-- looked_of -/
def m_looked_of : DS := dRet (dCall f_passed_by [.v (dVar 0), .v (dPrim pAdd [.s 1, .v (dPrim pTup [.v (dC (.int 0))])])])
def f_looked_of : DFn := dDef false 2 2 m_looked_of
/-- sought -/
def m_sought : DS := dSeq (dAsg (gTupD 3 (gsCons (gSet 2) (gsCons (gSet 3) (gsCons (gSet 4) (gsNil))))) (dVar 0)) (dSeq (dIfS (dTst (dPrim pEq [.s 3, .v (dC (.str "key"))])) (dRet (dCall f_looked_of [.v (dVar 2), .v (dVar 1)])) (dNext)) (dSeq (dSet 5 (dCall f_chosen_of [.v (dVar 0), .v (dVar 1)])) (dSeq (dIfS (dTst (dPrim pIsN [.s 5, .v (dC .non)])) (dRet (dPrim pTup [.v (dC (.int 0))])) (dNext)) (dRet (dCall f_looked_of [.v (dVar 2), .v (dPrim pTup [.v (dPrim pIx [.s 1, .s 5])])])))))
def f_sought : DFn := dDef false 2 6 m_sought
/-- first_place -/
def m_first_place : DS := dSeq (dForI (iSeq (dVar 1)) (gSet 3) (dIfS (dTst (dPrim pNotN [.v (dPrim pIx [.v (dPrim pIx [.s 0, .s 3]), .s 2]), .v (dC .non)])) (dRetV 3) (dNext))) (dRet (dC .non))
def f_first_place : DFn := dDef false 3 4 m_first_place
/-- tongue_of -/
def m_tongue_of : DS := dRet (dPrim pIx [.v (dCall f_path_of [.v (dVar 0), .v (dVar 1)]), .v (dPrim pNeg [.v (dC (.int 1))])])
def f_tongue_of : DFn := dDef false 2 2 m_tongue_of
/-- mixes_page -/
def m_mixes_page : DS := dSeq (dAsg (gTupD 3 (gsCons (gSet 3) (gsCons (gSet 4) (gsCons (gSet 5) (gsNil))))) (dVar 0)) (dSeq (dSet 6 (dCall f_sought [.v (dVar 0), .v (dVar 1)])) (dSeq (dSet 7 (dComp [9] (iSeq (dVar 2)) (gSet 9) (dYes) (dCall f_first_place [.v (dVar 5), .v (dVar 6), .v (dVar 9)]))) (dSeq (dSet 8 (dComp [10] (iSeq (dVar 7)) (gSet 10) (dTst (dPrim pNotN [.s 10, .v (dC .non)])) (dCall f_tongue_of [.v (dVar 3), .v (dVar 10)]))) (dRet (dPrim pAny [.v (dComp [11] (iSeq (dVar 8)) (gSet 11) (dYes) (dPrim pNe [.s 11, .v (dPrim pIx [.s 8, .v (dC (.int 0))])]))])))))
def f_mixes_page : DFn := dDef false 3 12 m_mixes_page
/-- first_mixing -/
def m_first_mixing : DS := dSeq (dSet 2 (dIf (dTst (dPrim pEq [.v (dPrim pIx [.s 0, .v (dC (.int 1))]), .v (dC (.str "key"))])) (dC (.int 2)) (dC (.int 1)))) (dSeq (dForI (iSeq (dCall f_short_lists [.v (dPrim pIx [.s 0, .v (dC (.int 0))]), .v (dVar 2)])) (gSet 3) (dIfS (dTst (dCall f_mixes_page [.v (dVar 0), .v (dVar 3), .v (dVar 1)])) (dRetV 3) (dNext))) (dRet (dC .non)))
def f_first_mixing : DFn := dDef false 2 4 m_first_mixing
/-- mixing -/
def m_mixing : DS := dSeq (dDrop (dCall f_check_catalog [.v (dVar 0)])) (dSeq (dDrop (dCall f_check_page [.v (dVar 0), .v (dVar 1)])) (dRet (dCall f_first_mixing [.v (dVar 0), .v (dVar 1)])))
def f_mixing : DFn := dDef false 2 2 m_mixing
/-- has_locale -/
def m_has_locale : DS := dRet (dCall f_is_integer_within [.v (dVar 1), .v (dC (.int 0)), .v (dPrim pSub [.v (dPrim pLen [.s 0]), .v (dC (.int 1))])])
def f_has_locale : DFn := dDef false 2 2 m_has_locale
/-- has_wishes -/
def m_has_wishes : DS := dRet (dAndV (dTst (dCall f_is_tuple [.v (dVar 1)])) (dPrim pAll [.v (dComp [2] (iSeq (dVar 1)) (gSet 2) (dYes) (dCall f_has_locale [.v (dVar 0), .v (dVar 2)]))]))
def f_has_wishes : DFn := dDef false 2 3 m_has_wishes
/-- check_wishes -/
def m_check_wishes : DS := dIfS (dNot (dTst (dCall f_has_wishes [.v (dVar 0), .v (dVar 1)]))) (dNever) (dNext)
def f_check_wishes : DFn := dDef false 2 2 m_check_wishes
/-- mixes -/
def m_mixes : DS := dSeq (dDrop (dCall f_check_catalog [.v (dVar 0)])) (dSeq (dDrop (dCall f_check_wishes [.v (dPrim pIx [.s 0, .v (dC (.int 0))]), .v (dVar 1)])) (dSeq (dDrop (dCall f_check_page [.v (dVar 0), .v (dVar 2)])) (dRet (dCall f_mixes_page [.v (dVar 0), .v (dVar 1), .v (dVar 2)]))))
def f_mixes : DFn := dDef false 3 3 m_mixes
/-- keys_to_have -/
def m_keys_to_have : DS := dSeq (dSet 2 (dPrim pIx [.s 0, .v (dC (.int 2))])) (dSeq (dIfS (dTst (dPrim pEq [.v (dPrim pIx [.s 0, .v (dC (.int 1))]), .v (dC (.str "bundle"))])) (dRet (dComp [3] (iSeq (dVar 1)) (gSet 3) (dTst (dPrim pNotN [.v (dPrim pIx [.v (dPrim pIx [.s 2, .v (dC (.int 0))]), .s 3]), .v (dC .non)])) (dVar 3))) (dNext)) (dRet (dComp [3] (iSeq (dVar 1)) (gSet 3) (dTst (dPrim pAny [.v (dComp [4] (iSeq (dVar 2)) (gSet 4) (dYes) (dPrim pNotN [.v (dPrim pIx [.s 4, .s 3]), .v (dC .non)]))])) (dVar 3))))
def f_keys_to_have : DFn := dDef false 2 5 m_keys_to_have
/-- has_any -/
def m_has_any : DS := dRet (dPrim pAny [.v (dComp [2] (iSeq (dVar 1)) (gSet 2) (dYes) (dPrim pNotN [.v (dPrim pIx [.s 0, .s 2]), .v (dC .non)]))])
def f_has_any : DFn := dDef false 2 3 m_has_any
/-- is_in_one_tongue -/
def m_is_in_one_tongue : DS := dSeq (dAsg (gTupD 3 (gsCons (gSet 2) (gsCons (gSet 3) (gsCons (gSet 4) (gsNil))))) (dVar 0)) (dSeq (dSet 5 (dComp [6, 7] (iArgs enumA [.v (dVar 4)]) (gTupD 2 (gsCons (gSet 6) (gsCons (gSet 7) (gsNil)))) (dTst (dCall f_has_any [.v (dVar 7), .v (dVar 1)])) (dCall f_tongue_of [.v (dVar 2), .v (dVar 6)]))) (dRet (dPrim pAll [.v (dComp [8] (iSeq (dVar 5)) (gSet 8) (dYes) (dPrim pEq [.s 8, .v (dPrim pIx [.s 5, .v (dC (.int 0))])]))])))
def f_is_in_one_tongue : DFn := dDef false 2 9 m_is_in_one_tongue
/-- lacked_by -/
def m_lacked_by : DS := dRet (dComp [3] (iSeq (dVar 2)) (gSet 3) (dTst (dPrim pIsN [.v (dPrim pIx [.v (dPrim pIx [.s 0, .s 1]), .s 3]), .v (dC .non)])) (dPrim pTup [.v (dVar 1), .v (dVar 3)]))
def f_lacked_by : DFn := dDef false 3 4 m_lacked_by
/-- added_below -/
def m_added_below : DS := dSeq (dAsg (gTupD 3 (gsCons (gSet 3) (gsCons (gSet 4) (gsCons (gSet 5) (gsNil))))) (dVar 0)) (dSeq (dSet 6 (dComp [4] (iSeq (dVar 3)) (gSet 4) (dYes) (dPrim pLst []))) (dSeq (dForI (iArgs rng3 [.v (dPrim pSub [.v (dPrim pLen [.s 3]), .v (dC (.int 1))]), .v (dC (.int 0)), .v (dPrim pNeg [.v (dC (.int 1))])]) (gSet 7) (dSeq (dSet 8 (dCall f_lacked_by [.v (dVar 5), .v (dVar 7), .v (dVar 2)])) (dSeq (dIfS (dAnd (dNot (dTst (dCall f_has_any [.v (dPrim pIx [.s 5, .s 7]), .v (dVar 1)]))) (dTst (dPrim pLt [.v (dPrim pLen [.v (dPrim pIx [.s 6, .s 7])]), .v (dPrim pLen [.s 8])]))) (dSet 8 (dPrim pIx [.s 6, .s 7])) (dNext)) (dSetIx 6 [.v (dPrim pIx [.s 3, .s 7])] (dPrim pAdd [.v (dPrim pIx [.s 6, .v (dPrim pIx [.s 3, .s 7])]), .s 8]))))) (dRet (dPrim pIx [.s 6, .v (dC (.int 0))]))))
def f_added_below : DFn := dDef false 3 9 m_added_below
/-- added_entries -/
def m_added_entries : DS := dSeq (dSet 2 (dPrim pIx [.s 0, .v (dC (.int 2))])) (dSeq (dSet 3 (dCall f_keys_to_have [.v (dVar 0), .v (dVar 1)])) (dSeq (dIfS (dTst (dPrim pEq [.v (dPrim pIx [.s 0, .v (dC (.int 1))]), .v (dC (.str "bundle"))])) (dRet (dCall f_added_below [.v (dVar 0), .v (dVar 1), .v (dVar 3)])) (dNext)) (dSeq (dIfS (dTst (dCall f_is_in_one_tongue [.v (dVar 0), .v (dVar 1)])) (dRet (dPrim pLst [])) (dNext)) (dSeq (dSet 4 (dCall f_added_below [.v (dVar 0), .v (dVar 1), .v (dVar 3)])) (dSeq (dIfS (dTst (dCall f_has_any [.v (dPrim pIx [.s 2, .v (dC (.int 0))]), .v (dVar 1)])) (dSet 4 (dPrim pAdd [.s 4, .v (dCall f_lacked_by [.v (dVar 2), .v (dC (.int 0)), .v (dVar 3)])])) (dNext)) (dRetV 4))))))
def f_added_entries : DFn := dDef false 2 5 m_added_entries
/-- fewest_added -/
def m_fewest_added : DS := dSeq (dDrop (dCall f_check_catalog [.v (dVar 0)])) (dSeq (dDrop (dCall f_check_page [.v (dVar 0), .v (dVar 1)])) (dRet (dPrim pLen [.v (dCall f_added_entries [.v (dVar 0), .v (dVar 1)])])))
def f_fewest_added : DFn := dDef false 2 2 m_fewest_added
/-- _law_pairs_of -/
def m__law_pairs_of : DS := dSeq (dSet 1 (dPrim pLst [])) (dSeq (dForI (iArgs rng1 [.v (dPrim pLen [.s 0])]) (gSet 2) (dAugL 1 (dComp [3] (iSeq (dSlice pSlice (.s 0) (some (dPrim pAdd [.s 2, .v (dC (.int 1))])) none)) (gSet 3) (dYes) (dPrim pTup [.v (dPrim pIx [.s 0, .s 2]), .v (dVar 3)])))) (dRetV 1))
def f__law_pairs_of : DFn := dDef false 1 4 m__law_pairs_of
/-- _law_less_pages_fit -/
def m__law_less_pages_fit : DS := dSeq (dSet 2 (dCall f_fewest_added [.v (dVar 0), .v (dVar 1)])) (dSeq (dForI (iArgs rng1 [.v (dPrim pLen [.s 1])]) (gSet 3) (dSeq (dSet 4 (dPrim pAdd [.v (dSlice pSlice (.s 1) none (some (dVar 3))), .v (dSlice pSlice (.s 1) (some (dPrim pAdd [.s 3, .v (dC (.int 1))])) none)])) (dSeq (dIfS (dAnd (dTst (dPrim pGt [.v (dPrim pLen [.s 4]), .v (dC (.int 0))])) (dNot (dTst (dChain pLe pLe (.v (dC (.int 0))) (.v (dCall f_fewest_added [.v (dVar 0), .v (dVar 4)])) (.s 2))))) (dRet (dC (.bl false))) (dNext)) (dIfS (dOr (dTst (dPrim pNe [.v (dCall f_fewest_added [.v (dVar 0), .v (dPrim pTup [.v (dPrim pIx [.s 1, .s 3])])]), .v (dC (.int 0))])) (dTst (dPrim pNotN [.v (dCall f_mixing [.v (dVar 0), .v (dPrim pTup [.v (dPrim pIx [.s 1, .s 3])])]), .v (dC .non)]))) (dRet (dC (.bl false))) (dNext))))) (dRet (dC (.bl true))))
def f__law_less_pages_fit : DFn := dDef false 2 5 m__law_less_pages_fit
/-- law -/
def m_law : DS := dSeq (dSet 1 (dC (.int 752975901238309105654819231705571924492281112529180701702645391580932943798100760473337090))) (dSeq (dForI (iSeq (dPrim pAdd [.v (dPrim pLst [.v (dVar 1)]), .v (dSlice pSlice (.s 0) none (some (dC (.int 4))))])) (gSet 2) (dSeq (dSet 3 (dCall f__law_digits [.v (dVar 2)])) (dSeq (dSet 4 (dPrim pIx [.v (dPrim pLst [.v (dC (.str "key")), .v (dC (.str "bundle"))]), .v (dCallR f__law_pick 3 [.v (dC (.int 2))])])) (dSeq (dSet 5 (dCallR f__law_make_catalog 3 [.v (dCallR f__law_make_tree 3 [.v (dC (.int 1)), .v (dC (.int 10))]), .v (dVar 4), .v (dPrim pAdd [.v (dC (.int 2)), .v (dCallR f__law_pick 3 [.v (dC (.int 3))])])])) (dSeq (dSet 6 (dPrim pLen [.v (dPrim pIx [.v (dPrim pIx [.s 5, .v (dC (.int 2))]), .v (dC (.int 0))])])) (dSeq (dSet 7 (dPrim pTupOf [.v (dPrim pLstRg1 [.s 6])])) (dSeq (dIfS (dTst (dPrim pEq [.v (dCallR f__law_pick 3 [.v (dC (.int 2))]), .v (dC (.int 0))])) (dSet 7 (dCallR f__law_draw_sheet 3 [.v (dVar 6)])) (dNext)) (dSeq (dSet 8 (dCallR f__law_draw_wants 3 [.v (dPrim pLen [.v (dPrim pIx [.s 5, .v (dC (.int 0))])]), .v (dC (.int 40))])) (dSeq (dSet 9 (dComp [16] (iSeq (dCall f__law_pairs_of [.v (dVar 7)])) (gSet 16) (dYes) (dCall f_mixing [.v (dVar 5), .v (dVar 16)]))) (dSeq (dSet 10 (dComp [17] (iSeq (dVar 9)) (gSet 17) (dTst (dPrim pNotN [.s 17, .v (dC .non)])) (dPrim pTup [.v (dPrim pLen [.s 17]), .v (dVar 17)]))) (dSeq (dSet 11 (dIf (dTst (dPrim pEq [.v (dPrim pLen [.s 10]), .v (dC (.int 0))])) (dC .non) (dPrim pIx [.v (dPrim pMinT [.s 10]), .v (dC (.int 1))]))) (dSeq (dIfS (dOr (dTst (dPrim pNe [.v (dPrim pRepr [.v (dCall f_mixing [.v (dVar 5), .v (dVar 7)])]), .v (dPrim pRepr [.s 11])])) (dNot (dTst (dCall f__law_less_pages_fit [.v (dVar 5), .v (dVar 7)])))) (dRet (dC (.bl false))) (dNext)) (dSeq (dIfS (dTst (dPrim pNe [.v (dCall f_mixes [.v (dVar 5), .v (dVar 8), .v (dVar 7)]), .v (dPrim (pInN false) [.v (dC (.bl true)), .v (dComp [16] (iSeq (dCall f__law_pairs_of [.v (dVar 7)])) (gSet 16) (dYes) (dCall f_mixes [.v (dVar 5), .v (dVar 8), .v (dVar 16)]))])])) (dRet (dC (.bl false))) (dNext)) (dSeq (dSet 12 (dCallR f__law_pick 3 [.v (dVar 6)])) (dSeq (dSet 13 (dCall f__law_moved_catalog [.v (dVar 5), .v (dVar 12), .v (dCallR f__law_pick 3 [.v (dC (.int 10))])])) (dSeq (dSet 14 (dPrim pTupOf [.v (dPrim pSorted [.v (dComp [18] (iSeq (dVar 7)) (gSet 18) (dYes) (dPrim pMod [.v (dPrim pIntOf [.v (dPrim pSub [.v (dPrim pAdd [.s 18, .s 6]), .s 12])]), .s 6]))])])) (dSeq (dSet 15 (dPrim pLst [.v (dCall f_mixing [.v (dVar 13), .v (dVar 14)]), .v (dCall f_fewest_added [.v (dVar 13), .v (dVar 14)])])) (dIfS (dTst (dPrim pNe [.v (dPrim pRepr [.s 15]), .v (dPrim pRepr [.v (dPrim pLst [.v (dCall f_mixing [.v (dVar 5), .v (dVar 7)]), .v (dCall f_fewest_added [.v (dVar 5), .v (dVar 7)])])])])) (dRet (dC (.bl false))) (dNext))))))))))))))))))) (dRet (dC (.bl true))))
def f_law : DFn := dDef false 1 19 m_law
end My
namespace My
open PySem PySem.Spec PyProof.Rows L2 DL
def topS (i : Nat) : Stmt := PySem.Challenge.pw_wishedtongues_k49_whole_pages_by_pairs_o.main.body.getD i (.Pass ⟨0, 0, 0, 0⟩)
def N__law_digits : List Str := ["cell", "size"]
theorem sc__law_digits : FnScope N__law_digits ["cell"] (defScope (topS 54)) := ⟨rfl, rfl, rfl, by decide +kernel, rfl, by decide +kernel, by decide +kernel⟩
def N__law_pick : List Str := ["bag", "much", "got", "mixed"]
theorem sc__law_pick : FnScope N__law_pick ["bag", "much"] (defScope (topS 55)) := ⟨rfl, rfl, rfl, by decide +kernel, rfl, by decide +kernel, by decide +kernel⟩
def N__law_make_catalog : List Str := ["bag", "stem", "mode", "width", "base", "words", "thin", "rows", "views", "at", "whole", "row", "slot", "how", "word", "above"]
theorem sc__law_make_catalog : FnScope N__law_make_catalog ["bag", "stem", "mode", "width"] (defScope (topS 57)) := ⟨rfl, rfl, rfl, by decide +kernel, rfl, by decide +kernel, by decide +kernel⟩
def N__law_draw_wants : List Str := ["bag", "size", "longest", "length", "k"]
theorem sc__law_draw_wants : FnScope N__law_draw_wants ["bag", "size", "longest"] (defScope (topS 58)) := ⟨rfl, rfl, rfl, by decide +kernel, rfl, by decide +kernel, by decide +kernel⟩
def N__law_moved_catalog : List Str := ["cat", "step", "more", "rows", "row", "line", "word"]
theorem sc__law_moved_catalog : FnScope N__law_moved_catalog ["cat", "step", "more"] (defScope (topS 60)) := ⟨rfl, rfl, rfl, by decide +kernel, rfl, by decide +kernel, by decide +kernel⟩
def N__law_make_tree : List Str := ["bag", "fewest", "upto", "count", "kind", "stem", "at"]
theorem sc__law_make_tree : FnScope N__law_make_tree ["bag", "fewest", "upto"] (defScope (topS 56)) := ⟨rfl, rfl, rfl, by decide +kernel, rfl, by decide +kernel, by decide +kernel⟩
def N__law_draw_sheet : List Str := ["bag", "width", "sheet", "slot"]
theorem sc__law_draw_sheet : FnScope N__law_draw_sheet ["bag", "width"] (defScope (topS 59)) := ⟨rfl, rfl, rfl, by decide +kernel, rfl, by decide +kernel, by decide +kernel⟩
def N_is_tuple : List Str := ["value"]
theorem sc_is_tuple : FnScope N_is_tuple ["value"] (defScope (topS 6)) := ⟨rfl, rfl, rfl, by decide +kernel, rfl, by decide +kernel, by decide +kernel⟩
def N_is_integer_within : List Str := ["value", "low", "high"]
theorem sc_is_integer_within : FnScope N_is_integer_within ["value", "low", "high"] (defScope (topS 7)) := ⟨rfl, rfl, rfl, by decide +kernel, rfl, by decide +kernel, by decide +kernel⟩
def N_is_tree : List Str := ["value", "index"]
theorem sc_is_tree : FnScope N_is_tree ["value"] (defScope (topS 24)) := ⟨rfl, rfl, rfl, by decide +kernel, rfl, by decide +kernel, by decide +kernel⟩
def N_is_way : List Str := ["value"]
theorem sc_is_way : FnScope N_is_way ["value"] (defScope (topS 29)) := ⟨rfl, rfl, rfl, by decide +kernel, rfl, by decide +kernel, by decide +kernel⟩
def N_is_text : List Str := ["value"]
theorem sc_is_text : FnScope N_is_text ["value"] (defScope (topS 30)) := ⟨rfl, rfl, rfl, by decide +kernel, rfl, by decide +kernel, by decide +kernel⟩
def N_is_text_or_none : List Str := ["value"]
theorem sc_is_text_or_none : FnScope N_is_text_or_none ["value"] (defScope (topS 31)) := ⟨rfl, rfl, rfl, by decide +kernel, rfl, by decide +kernel, by decide +kernel⟩
def N_is_row : List Str := ["value", "text"]
theorem sc_is_row : FnScope N_is_row ["value"] (defScope (topS 32)) := ⟨rfl, rfl, rfl, by decide +kernel, rfl, by decide +kernel, by decide +kernel⟩
def N_are_rows : List Str := ["value", "many", "row"]
theorem sc_are_rows : FnScope N_are_rows ["value", "many"] (defScope (topS 33)) := ⟨rfl, rfl, rfl, by decide +kernel, rfl, by decide +kernel, by decide +kernel⟩
def N_is_catalog : List Str := ["value", "tree", "way", "rows"]
theorem sc_is_catalog : FnScope N_is_catalog ["value"] (defScope (topS 34)) := ⟨rfl, rfl, rfl, by decide +kernel, rfl, by decide +kernel, by decide +kernel⟩
def N_check_catalog : List Str := ["catalog"]
theorem sc_check_catalog : FnScope N_check_catalog ["catalog"] (defScope (topS 35)) := ⟨rfl, rfl, rfl, by decide +kernel, rfl, by decide +kernel, by decide +kernel⟩
def N_is_ascending : List Str := ["values", "value", "next_value"]
theorem sc_is_ascending : FnScope N_is_ascending ["values"] (defScope (topS 8)) := ⟨rfl, rfl, rfl, by decide +kernel, rfl, by decide +kernel, by decide +kernel⟩
def N_is_page : List Str := ["many", "value", "key"]
theorem sc_is_page : FnScope N_is_page ["many", "value"] (defScope (topS 38)) := ⟨rfl, rfl, rfl, by decide +kernel, rfl, by decide +kernel, by decide +kernel⟩
def N_count_keys : List Str := ["catalog"]
theorem sc_count_keys : FnScope N_count_keys ["catalog"] (defScope (topS 36)) := ⟨rfl, rfl, rfl, by decide +kernel, rfl, by decide +kernel, by decide +kernel⟩
def N_check_page : List Str := ["catalog", "page"]
theorem sc_check_page : FnScope N_check_page ["catalog", "page"] (defScope (topS 49)) := ⟨rfl, rfl, rfl, by decide +kernel, rfl, by decide +kernel, by decide +kernel⟩
def N_path_of : List Str := ["tree", "locale", "steps", "parent"]
theorem sc_path_of : FnScope N_path_of ["tree", "locale"] (defScope (topS 12)) := ⟨rfl, rfl, rfl, by decide +kernel, rfl, by decide +kernel, by decide +kernel⟩
def N_passed_by : List Str := ["tree", "wishes", "passed", "wish", "locale"]
theorem sc_passed_by : FnScope N_passed_by ["tree", "wishes"] (defScope (topS 13)) := ⟨rfl, rfl, rfl, by decide +kernel, rfl, by decide +kernel, by decide +kernel⟩
def N_longer : List Str := ["tree", "lists", "found", "wishes", "passed", "locale"]
theorem sc_longer : FnScope N_longer ["tree", "lists"] (defScope (topS 15)) := ⟨rfl, rfl, rfl, by decide +kernel, rfl, by decide +kernel, by decide +kernel⟩
def N_short_lists : List Str := ["tree", "longest", "found", "lists", "_"]
theorem sc_short_lists : FnScope N_short_lists ["tree", "longest"] (defScope (topS 16)) := ⟨rfl, rfl, rfl, by decide +kernel, rfl, by decide +kernel, by decide +kernel⟩
def N_skips : List Str := ["catalog", "locale", "tree", "_", "rows", "step", "text"]
theorem sc_skips : FnScope N_skips ["catalog", "locale"] (defScope (topS 19)) := ⟨rfl, rfl, rfl, by decide +kernel, rfl, by decide +kernel, by decide +kernel⟩
def N_chosen_of : List Str := ["catalog", "wishes", "index", "wish"]
theorem sc_chosen_of : FnScope N_chosen_of ["catalog", "wishes"] (defScope (topS 20)) := ⟨rfl, rfl, rfl, by decide +kernel, rfl, by decide +kernel, by decide +kernel⟩
def N_looked_of : List Str := ["tree", "wishes"]
theorem sc_looked_of : FnScope N_looked_of ["tree", "wishes"] (defScope (topS 14)) := ⟨rfl, rfl, rfl, by decide +kernel, rfl, by decide +kernel, by decide +kernel⟩
def N_sought : List Str := ["catalog", "wishes", "tree", "way", "_", "index"]
theorem sc_sought : FnScope N_sought ["catalog", "wishes"] (defScope (topS 21)) := ⟨rfl, rfl, rfl, by decide +kernel, rfl, by decide +kernel, by decide +kernel⟩
def N_first_place : List Str := ["rows", "locales", "key", "locale"]
theorem sc_first_place : FnScope N_first_place ["rows", "locales", "key"] (defScope (topS 18)) := ⟨rfl, rfl, rfl, by decide +kernel, rfl, by decide +kernel, by decide +kernel⟩
def N_tongue_of : List Str := ["tree", "locale"]
theorem sc_tongue_of : FnScope N_tongue_of ["tree", "locale"] (defScope (topS 39)) := ⟨rfl, rfl, rfl, by decide +kernel, rfl, by decide +kernel, by decide +kernel⟩
def N_mixes_page : List Str := ["catalog", "wishes", "page", "tree", "_", "rows", "locales", "places", "tongues", "key", "place", "tongue"]
theorem sc_mixes_page : FnScope N_mixes_page ["catalog", "wishes", "page"] (defScope (topS 40)) := ⟨rfl, rfl, rfl, by decide +kernel, rfl, by decide +kernel, by decide +kernel⟩
def N_first_mixing : List Str := ["catalog", "page", "longest", "wishes"]
theorem sc_first_mixing : FnScope N_first_mixing ["catalog", "page"] (defScope (topS 41)) := ⟨rfl, rfl, rfl, by decide +kernel, rfl, by decide +kernel, by decide +kernel⟩
def N_mixing : List Str := ["catalog", "page"]
theorem sc_mixing : FnScope N_mixing ["catalog", "page"] (defScope (topS 51)) := ⟨rfl, rfl, rfl, by decide +kernel, rfl, by decide +kernel, by decide +kernel⟩
def N_has_locale : List Str := ["tree", "value"]
theorem sc_has_locale : FnScope N_has_locale ["tree", "value"] (defScope (topS 10)) := ⟨rfl, rfl, rfl, by decide +kernel, rfl, by decide +kernel, by decide +kernel⟩
def N_has_wishes : List Str := ["tree", "value", "wish"]
theorem sc_has_wishes : FnScope N_has_wishes ["tree", "value"] (defScope (topS 11)) := ⟨rfl, rfl, rfl, by decide +kernel, rfl, by decide +kernel, by decide +kernel⟩
def N_check_wishes : List Str := ["tree", "wishes"]
theorem sc_check_wishes : FnScope N_check_wishes ["tree", "wishes"] (defScope (topS 25)) := ⟨rfl, rfl, rfl, by decide +kernel, rfl, by decide +kernel, by decide +kernel⟩
def N_mixes : List Str := ["catalog", "wishes", "page"]
theorem sc_mixes : FnScope N_mixes ["catalog", "wishes", "page"] (defScope (topS 50)) := ⟨rfl, rfl, rfl, by decide +kernel, rfl, by decide +kernel, by decide +kernel⟩
def N_keys_to_have : List Str := ["catalog", "page", "rows", "key", "row"]
theorem sc_keys_to_have : FnScope N_keys_to_have ["catalog", "page"] (defScope (topS 43)) := ⟨rfl, rfl, rfl, by decide +kernel, rfl, by decide +kernel, by decide +kernel⟩
def N_has_any : List Str := ["row", "page", "key"]
theorem sc_has_any : FnScope N_has_any ["row", "page"] (defScope (topS 42)) := ⟨rfl, rfl, rfl, by decide +kernel, rfl, by decide +kernel, by decide +kernel⟩
def N_is_in_one_tongue : List Str := ["catalog", "page", "tree", "_", "rows", "tongues", "locale", "row", "tongue"]
theorem sc_is_in_one_tongue : FnScope N_is_in_one_tongue ["catalog", "page"] (defScope (topS 44)) := ⟨rfl, rfl, rfl, by decide +kernel, rfl, by decide +kernel, by decide +kernel⟩
def N_lacked_by : List Str := ["rows", "locale", "keys", "key"]
theorem sc_lacked_by : FnScope N_lacked_by ["rows", "locale", "keys"] (defScope (topS 45)) := ⟨rfl, rfl, rfl, by decide +kernel, rfl, by decide +kernel, by decide +kernel⟩
def N_added_below : List Str := ["catalog", "page", "keys", "tree", "_", "rows", "below", "locale", "added"]
theorem sc_added_below : FnScope N_added_below ["catalog", "page", "keys"] (defScope (topS 46)) := ⟨rfl, rfl, rfl, by decide +kernel, rfl, by decide +kernel, by decide +kernel⟩
def N_added_entries : List Str := ["catalog", "page", "rows", "keys", "added"]
theorem sc_added_entries : FnScope N_added_entries ["catalog", "page"] (defScope (topS 47)) := ⟨rfl, rfl, rfl, by decide +kernel, rfl, by decide +kernel, by decide +kernel⟩
def N_fewest_added : List Str := ["catalog", "page"]
theorem sc_fewest_added : FnScope N_fewest_added ["catalog", "page"] (defScope (topS 52)) := ⟨rfl, rfl, rfl, by decide +kernel, rfl, by decide +kernel, by decide +kernel⟩
def N__law_pairs_of : List Str := ["sheet", "pairs", "at", "slot"]
theorem sc__law_pairs_of : FnScope N__law_pairs_of ["sheet"] (defScope (topS 61)) := ⟨rfl, rfl, rfl, by decide +kernel, rfl, by decide +kernel, by decide +kernel⟩
def N__law_less_pages_fit : List Str := ["cat", "sheet", "most_added", "at", "less"]
theorem sc__law_less_pages_fit : FnScope N__law_less_pages_fit ["cat", "sheet"] (defScope (topS 62)) := ⟨rfl, rfl, rfl, by decide +kernel, rfl, by decide +kernel, by decide +kernel⟩
def N_law : List Str := ["script", "great", "cell", "bag", "mode", "cat", "width", "sheet", "wants", "found", "ranks", "due", "step", "moved", "leaf", "told", "pair", "one", "slot"]
theorem sc_law : FnScope N_law ["script"] (defScope (topS 63)) := ⟨rfl, rfl, rfl, by decide +kernel, rfl, by decide +kernel, by decide +kernel⟩
structure Txt (K : PySem.W.Frag) (mg : Str → Option Value) where
  a__law_digits : Addr
  fd__law_digits : FuncData
  F__law_digits : FunV K "_law_digits" "_law_digits" (topS 54) a__law_digits fd__law_digits
  g__law_digits : mg "_law_digits" = some (.ref a__law_digits)
  b__law_digits : Binds K fd__law_digits ["cell"] []
  a__law_pick : Addr
  fd__law_pick : FuncData
  F__law_pick : FunV K "_law_pick" "_law_pick" (topS 55) a__law_pick fd__law_pick
  g__law_pick : mg "_law_pick" = some (.ref a__law_pick)
  b__law_pick : Binds K fd__law_pick ["bag", "much"] []
  a__law_make_catalog : Addr
  fd__law_make_catalog : FuncData
  F__law_make_catalog : FunV K "_law_make_catalog" "_law_make_catalog" (topS 57) a__law_make_catalog fd__law_make_catalog
  g__law_make_catalog : mg "_law_make_catalog" = some (.ref a__law_make_catalog)
  b__law_make_catalog : Binds K fd__law_make_catalog ["bag", "stem", "mode", "width"] []
  a__law_draw_wants : Addr
  fd__law_draw_wants : FuncData
  F__law_draw_wants : FunV K "_law_draw_wants" "_law_draw_wants" (topS 58) a__law_draw_wants fd__law_draw_wants
  g__law_draw_wants : mg "_law_draw_wants" = some (.ref a__law_draw_wants)
  b__law_draw_wants : Binds K fd__law_draw_wants ["bag", "size", "longest"] []
  a__law_moved_catalog : Addr
  fd__law_moved_catalog : FuncData
  F__law_moved_catalog : FunV K "_law_moved_catalog" "_law_moved_catalog" (topS 60) a__law_moved_catalog fd__law_moved_catalog
  g__law_moved_catalog : mg "_law_moved_catalog" = some (.ref a__law_moved_catalog)
  b__law_moved_catalog : Binds K fd__law_moved_catalog ["cat", "step", "more"] []
  a__law_make_tree : Addr
  fd__law_make_tree : FuncData
  F__law_make_tree : FunV K "_law_make_tree" "_law_make_tree" (topS 56) a__law_make_tree fd__law_make_tree
  g__law_make_tree : mg "_law_make_tree" = some (.ref a__law_make_tree)
  b__law_make_tree : Binds K fd__law_make_tree ["bag", "fewest", "upto"] []
  a__law_draw_sheet : Addr
  fd__law_draw_sheet : FuncData
  F__law_draw_sheet : FunV K "_law_draw_sheet" "_law_draw_sheet" (topS 59) a__law_draw_sheet fd__law_draw_sheet
  g__law_draw_sheet : mg "_law_draw_sheet" = some (.ref a__law_draw_sheet)
  b__law_draw_sheet : Binds K fd__law_draw_sheet ["bag", "width"] []
  a_is_tuple : Addr
  fd_is_tuple : FuncData
  F_is_tuple : FunV K "is_tuple" "is_tuple" (topS 6) a_is_tuple fd_is_tuple
  g_is_tuple : mg "is_tuple" = some (.ref a_is_tuple)
  b_is_tuple : Binds K fd_is_tuple ["value"] []
  a_is_integer_within : Addr
  fd_is_integer_within : FuncData
  F_is_integer_within : FunV K "is_integer_within" "is_integer_within" (topS 7) a_is_integer_within fd_is_integer_within
  g_is_integer_within : mg "is_integer_within" = some (.ref a_is_integer_within)
  b_is_integer_within : Binds K fd_is_integer_within ["value", "low", "high"] []
  a_is_tree : Addr
  fd_is_tree : FuncData
  F_is_tree : FunV K "is_tree" "is_tree" (topS 24) a_is_tree fd_is_tree
  g_is_tree : mg "is_tree" = some (.ref a_is_tree)
  b_is_tree : Binds K fd_is_tree ["value"] []
  a_is_way : Addr
  fd_is_way : FuncData
  F_is_way : FunV K "is_way" "is_way" (topS 29) a_is_way fd_is_way
  g_is_way : mg "is_way" = some (.ref a_is_way)
  b_is_way : Binds K fd_is_way ["value"] []
  a_is_text : Addr
  fd_is_text : FuncData
  F_is_text : FunV K "is_text" "is_text" (topS 30) a_is_text fd_is_text
  g_is_text : mg "is_text" = some (.ref a_is_text)
  b_is_text : Binds K fd_is_text ["value"] []
  a_is_text_or_none : Addr
  fd_is_text_or_none : FuncData
  F_is_text_or_none : FunV K "is_text_or_none" "is_text_or_none" (topS 31) a_is_text_or_none fd_is_text_or_none
  g_is_text_or_none : mg "is_text_or_none" = some (.ref a_is_text_or_none)
  b_is_text_or_none : Binds K fd_is_text_or_none ["value"] []
  a_is_row : Addr
  fd_is_row : FuncData
  F_is_row : FunV K "is_row" "is_row" (topS 32) a_is_row fd_is_row
  g_is_row : mg "is_row" = some (.ref a_is_row)
  b_is_row : Binds K fd_is_row ["value"] []
  a_are_rows : Addr
  fd_are_rows : FuncData
  F_are_rows : FunV K "are_rows" "are_rows" (topS 33) a_are_rows fd_are_rows
  g_are_rows : mg "are_rows" = some (.ref a_are_rows)
  b_are_rows : Binds K fd_are_rows ["value", "many"] []
  a_is_catalog : Addr
  fd_is_catalog : FuncData
  F_is_catalog : FunV K "is_catalog" "is_catalog" (topS 34) a_is_catalog fd_is_catalog
  g_is_catalog : mg "is_catalog" = some (.ref a_is_catalog)
  b_is_catalog : Binds K fd_is_catalog ["value"] []
  a_check_catalog : Addr
  fd_check_catalog : FuncData
  F_check_catalog : FunV K "check_catalog" "check_catalog" (topS 35) a_check_catalog fd_check_catalog
  g_check_catalog : mg "check_catalog" = some (.ref a_check_catalog)
  b_check_catalog : Binds K fd_check_catalog ["catalog"] []
  a_is_ascending : Addr
  fd_is_ascending : FuncData
  F_is_ascending : FunV K "is_ascending" "is_ascending" (topS 8) a_is_ascending fd_is_ascending
  g_is_ascending : mg "is_ascending" = some (.ref a_is_ascending)
  b_is_ascending : Binds K fd_is_ascending ["values"] []
  a_is_page : Addr
  fd_is_page : FuncData
  F_is_page : FunV K "is_page" "is_page" (topS 38) a_is_page fd_is_page
  g_is_page : mg "is_page" = some (.ref a_is_page)
  b_is_page : Binds K fd_is_page ["many", "value"] []
  a_count_keys : Addr
  fd_count_keys : FuncData
  F_count_keys : FunV K "count_keys" "count_keys" (topS 36) a_count_keys fd_count_keys
  g_count_keys : mg "count_keys" = some (.ref a_count_keys)
  b_count_keys : Binds K fd_count_keys ["catalog"] []
  a_check_page : Addr
  fd_check_page : FuncData
  F_check_page : FunV K "check_page" "check_page" (topS 49) a_check_page fd_check_page
  g_check_page : mg "check_page" = some (.ref a_check_page)
  b_check_page : Binds K fd_check_page ["catalog", "page"] []
  a_path_of : Addr
  fd_path_of : FuncData
  F_path_of : FunV K "path_of" "path_of" (topS 12) a_path_of fd_path_of
  g_path_of : mg "path_of" = some (.ref a_path_of)
  b_path_of : Binds K fd_path_of ["tree", "locale"] []
  a_passed_by : Addr
  fd_passed_by : FuncData
  F_passed_by : FunV K "passed_by" "passed_by" (topS 13) a_passed_by fd_passed_by
  g_passed_by : mg "passed_by" = some (.ref a_passed_by)
  b_passed_by : Binds K fd_passed_by ["tree", "wishes"] []
  a_longer : Addr
  fd_longer : FuncData
  F_longer : FunV K "longer" "longer" (topS 15) a_longer fd_longer
  g_longer : mg "longer" = some (.ref a_longer)
  b_longer : Binds K fd_longer ["tree", "lists"] []
  a_short_lists : Addr
  fd_short_lists : FuncData
  F_short_lists : FunV K "short_lists" "short_lists" (topS 16) a_short_lists fd_short_lists
  g_short_lists : mg "short_lists" = some (.ref a_short_lists)
  b_short_lists : Binds K fd_short_lists ["tree", "longest"] []
  a_skips : Addr
  fd_skips : FuncData
  F_skips : FunV K "skips" "skips" (topS 19) a_skips fd_skips
  g_skips : mg "skips" = some (.ref a_skips)
  b_skips : Binds K fd_skips ["catalog", "locale"] []
  a_chosen_of : Addr
  fd_chosen_of : FuncData
  F_chosen_of : FunV K "chosen_of" "chosen_of" (topS 20) a_chosen_of fd_chosen_of
  g_chosen_of : mg "chosen_of" = some (.ref a_chosen_of)
  b_chosen_of : Binds K fd_chosen_of ["catalog", "wishes"] []
  a_looked_of : Addr
  fd_looked_of : FuncData
  F_looked_of : FunV K "looked_of" "looked_of" (topS 14) a_looked_of fd_looked_of
  g_looked_of : mg "looked_of" = some (.ref a_looked_of)
  b_looked_of : Binds K fd_looked_of ["tree", "wishes"] []
  a_sought : Addr
  fd_sought : FuncData
  F_sought : FunV K "sought" "sought" (topS 21) a_sought fd_sought
  g_sought : mg "sought" = some (.ref a_sought)
  b_sought : Binds K fd_sought ["catalog", "wishes"] []
  a_first_place : Addr
  fd_first_place : FuncData
  F_first_place : FunV K "first_place" "first_place" (topS 18) a_first_place fd_first_place
  g_first_place : mg "first_place" = some (.ref a_first_place)
  b_first_place : Binds K fd_first_place ["rows", "locales", "key"] []
  a_tongue_of : Addr
  fd_tongue_of : FuncData
  F_tongue_of : FunV K "tongue_of" "tongue_of" (topS 39) a_tongue_of fd_tongue_of
  g_tongue_of : mg "tongue_of" = some (.ref a_tongue_of)
  b_tongue_of : Binds K fd_tongue_of ["tree", "locale"] []
  a_mixes_page : Addr
  fd_mixes_page : FuncData
  F_mixes_page : FunV K "mixes_page" "mixes_page" (topS 40) a_mixes_page fd_mixes_page
  g_mixes_page : mg "mixes_page" = some (.ref a_mixes_page)
  b_mixes_page : Binds K fd_mixes_page ["catalog", "wishes", "page"] []
  a_first_mixing : Addr
  fd_first_mixing : FuncData
  F_first_mixing : FunV K "first_mixing" "first_mixing" (topS 41) a_first_mixing fd_first_mixing
  g_first_mixing : mg "first_mixing" = some (.ref a_first_mixing)
  b_first_mixing : Binds K fd_first_mixing ["catalog", "page"] []
  a_mixing : Addr
  fd_mixing : FuncData
  F_mixing : FunV K "mixing" "mixing" (topS 51) a_mixing fd_mixing
  g_mixing : mg "mixing" = some (.ref a_mixing)
  b_mixing : Binds K fd_mixing ["catalog", "page"] []
  a_has_locale : Addr
  fd_has_locale : FuncData
  F_has_locale : FunV K "has_locale" "has_locale" (topS 10) a_has_locale fd_has_locale
  g_has_locale : mg "has_locale" = some (.ref a_has_locale)
  b_has_locale : Binds K fd_has_locale ["tree", "value"] []
  a_has_wishes : Addr
  fd_has_wishes : FuncData
  F_has_wishes : FunV K "has_wishes" "has_wishes" (topS 11) a_has_wishes fd_has_wishes
  g_has_wishes : mg "has_wishes" = some (.ref a_has_wishes)
  b_has_wishes : Binds K fd_has_wishes ["tree", "value"] []
  a_check_wishes : Addr
  fd_check_wishes : FuncData
  F_check_wishes : FunV K "check_wishes" "check_wishes" (topS 25) a_check_wishes fd_check_wishes
  g_check_wishes : mg "check_wishes" = some (.ref a_check_wishes)
  b_check_wishes : Binds K fd_check_wishes ["tree", "wishes"] []
  a_mixes : Addr
  fd_mixes : FuncData
  F_mixes : FunV K "mixes" "mixes" (topS 50) a_mixes fd_mixes
  g_mixes : mg "mixes" = some (.ref a_mixes)
  b_mixes : Binds K fd_mixes ["catalog", "wishes", "page"] []
  a_keys_to_have : Addr
  fd_keys_to_have : FuncData
  F_keys_to_have : FunV K "keys_to_have" "keys_to_have" (topS 43) a_keys_to_have fd_keys_to_have
  g_keys_to_have : mg "keys_to_have" = some (.ref a_keys_to_have)
  b_keys_to_have : Binds K fd_keys_to_have ["catalog", "page"] []
  a_has_any : Addr
  fd_has_any : FuncData
  F_has_any : FunV K "has_any" "has_any" (topS 42) a_has_any fd_has_any
  g_has_any : mg "has_any" = some (.ref a_has_any)
  b_has_any : Binds K fd_has_any ["row", "page"] []
  a_is_in_one_tongue : Addr
  fd_is_in_one_tongue : FuncData
  F_is_in_one_tongue : FunV K "is_in_one_tongue" "is_in_one_tongue" (topS 44) a_is_in_one_tongue fd_is_in_one_tongue
  g_is_in_one_tongue : mg "is_in_one_tongue" = some (.ref a_is_in_one_tongue)
  b_is_in_one_tongue : Binds K fd_is_in_one_tongue ["catalog", "page"] []
  a_lacked_by : Addr
  fd_lacked_by : FuncData
  F_lacked_by : FunV K "lacked_by" "lacked_by" (topS 45) a_lacked_by fd_lacked_by
  g_lacked_by : mg "lacked_by" = some (.ref a_lacked_by)
  b_lacked_by : Binds K fd_lacked_by ["rows", "locale", "keys"] []
  a_added_below : Addr
  fd_added_below : FuncData
  F_added_below : FunV K "added_below" "added_below" (topS 46) a_added_below fd_added_below
  g_added_below : mg "added_below" = some (.ref a_added_below)
  b_added_below : Binds K fd_added_below ["catalog", "page", "keys"] []
  a_added_entries : Addr
  fd_added_entries : FuncData
  F_added_entries : FunV K "added_entries" "added_entries" (topS 47) a_added_entries fd_added_entries
  g_added_entries : mg "added_entries" = some (.ref a_added_entries)
  b_added_entries : Binds K fd_added_entries ["catalog", "page"] []
  a_fewest_added : Addr
  fd_fewest_added : FuncData
  F_fewest_added : FunV K "fewest_added" "fewest_added" (topS 52) a_fewest_added fd_fewest_added
  g_fewest_added : mg "fewest_added" = some (.ref a_fewest_added)
  b_fewest_added : Binds K fd_fewest_added ["catalog", "page"] []
  a__law_pairs_of : Addr
  fd__law_pairs_of : FuncData
  F__law_pairs_of : FunV K "_law_pairs_of" "_law_pairs_of" (topS 61) a__law_pairs_of fd__law_pairs_of
  g__law_pairs_of : mg "_law_pairs_of" = some (.ref a__law_pairs_of)
  b__law_pairs_of : Binds K fd__law_pairs_of ["sheet"] []
  a__law_less_pages_fit : Addr
  fd__law_less_pages_fit : FuncData
  F__law_less_pages_fit : FunV K "_law_less_pages_fit" "_law_less_pages_fit" (topS 62) a__law_less_pages_fit fd__law_less_pages_fit
  g__law_less_pages_fit : mg "_law_less_pages_fit" = some (.ref a__law_less_pages_fit)
  b__law_less_pages_fit : Binds K fd__law_less_pages_fit ["cat", "sheet"] []
  a_law : Addr
  fd_law : FuncData
  F_law : FunV K "law" "law" (topS 63) a_law fd_law
  g_law : mg "law" = some (.ref a_law)
  b_law : Binds K fd_law ["script"] []
  m_abs : mg "abs" = none
  m_all : mg "all" = none
  m_any : mg "any" = none
  m_bool : mg "bool" = none
  m_enumerate : mg "enumerate" = none
  m_int : mg "int" = none
  m_isinstance : mg "isinstance" = none
  m_len : mg "len" = none
  m_list : mg "list" = none
  m_max : mg "max" = none
  m_min : mg "min" = none
  m_range : mg "range" = none
  m_repr : mg "repr" = none
  m_sorted : mg "sorted" = none
  m_str : mg "str" = none
  m_tuple : mg "tuple" = none
  m_type : mg "type" = none
  m_zip : mg "zip" = none
  k_MOST_LOCALES : Tok
  c_MOST_LOCALES : mg "MOST_LOCALES" = some (.int (10) k_MOST_LOCALES)
  k_MOST_KEYS : Tok
  c_MOST_KEYS : mg "MOST_KEYS" = some (.int (4) k_MOST_KEYS)
  k_LAST_TEXT : Tok
  c_LAST_TEXT : mg "LAST_TEXT" = some (.int (9) k_LAST_TEXT)
section
variable {P : Program} {w : World} {K : PySem.W.Frag} {mg : Str → Option Value} {base : Heap}
theorem ok__law_digits (t : Txt K mg) : GOk P w K mg base 1 t.a__law_digits t.fd__law_digits ["cell"] (spD K mg false 1 f__law_digits) := by
  refine def_ok (k := 0) (N := N__law_digits) (m := m__law_digits) t.F__law_digits sc__law_digits (by decide) fun cdv A outer s H E hr => ?_
  exact ss_cons (s_set 1 sc__law_digits.nd (x_abs t.m_abs (o_s 0))) (ss_cons (s_if (y_lt (o_s 0) (o_v (e_int))) (ss_one (s_aug 1 sc__law_digits.nd ip_add (e_int))) (ss_nil)) (ss_cons (s_if (y_lt (o_s 1) (o_v (x_pow (o_v (e_int)) (o_v (e_int))))) (ss_one (s_ret (e_lst (a_cons (o_v (e_int)) (a_cons (o_v (x_add (o_s 1) (o_v (e_int)))) (a_cons (o_v (e_int)) a_nil)))))) (ss_nil)) (ss_one (s_ret (e_lst (a_cons (o_v (e_var 1)) (a_cons (o_v (x_mod (o_v (x_int t.m_int (o_s 1))) (o_v (e_int)))) (a_cons (o_v (e_int)) a_nil))))))))
theorem ok__law_pick (t : Txt K mg) : GOk P w K mg base 1 t.a__law_pick t.fd__law_pick ["bag", "much"] (spD K mg true 2 f__law_pick) := by
  refine def_ok (k := 0) (N := N__law_pick) (m := m__law_pick) t.F__law_pick sc__law_pick (by decide) fun cdv A outer s H E hr => ?_
  exact ss_cons (s_augIx 0) (ss_cons (s_if (y_gt (o_v (x_ix (o_s 0) (o_v (e_int)) (fun _ _ => rfl))) (o_v (e_int))) (ss_cons (s_set 2 sc__law_pick.nd (x_mod (o_v (x_int t.m_int (o_v (x_ix (o_s 0) (o_v (e_int)) (fun _ _ => rfl))))) (o_s 1))) (ss_cons (s_setIx 0 (x_fdiv (o_v (x_ix (o_s 0) (o_v (e_int)) (fun _ _ => rfl))) (o_s 1)) (o_v (e_int))) (ss_one (s_retV 2)))) (ss_nil)) (ss_cons (s_set 3 sc__law_pick.nd (x_mod (o_v (x_int t.m_int (o_v (x_add (o_v (x_add (o_v (x_mul (o_v (x_ix (o_s 0) (o_v (e_int)) (fun _ _ => rfl))) (o_v (e_int)))) (o_v (x_mul (o_v (x_mul (o_v (x_ix (o_s 0) (o_v (e_int)) (fun _ _ => rfl))) (o_v (x_ix (o_s 0) (o_v (e_int)) (fun _ _ => rfl))))) (o_v (e_int)))))) (o_v (e_int)))))) (o_v (e_int)))) (ss_cons (s_set 3 sc__law_pick.nd (x_mod (o_v (x_int t.m_int (o_v (x_add (o_v (x_add (o_v (x_mul (o_s 3) (o_s 3))) (o_v (x_mul (o_v (x_ix (o_s 0) (o_v (e_int)) (fun _ _ => rfl))) (o_v (e_int)))))) (o_v (x_ix (o_s 0) (o_v (e_int)) (fun _ _ => rfl))))))) (o_v (e_int)))) (ss_one (s_ret (x_mod (o_v (x_fdiv (o_s 3) (o_v (e_int)))) (o_s 1)))))))
theorem ok__law_make_catalog (t : Txt K mg) : GOk P w K mg base 2 t.a__law_make_catalog t.fd__law_make_catalog ["bag", "stem", "mode", "width"] (spD K mg true 4 f__law_make_catalog) := by
  refine def_ok (k := 1) (N := N__law_make_catalog) (m := m__law_make_catalog) t.F__law_make_catalog sc__law_make_catalog (by decide) fun cdv A outer s H E hr => ?_
  exact ss_cons (s_set 4 sc__law_make_catalog.nd (e_callR 0 (ok__law_pick t) (hr.mono (by decide)) t.g__law_pick t.F__law_pick.kp t.b__law_pick (takes_of rfl rfl rfl rfl) (a_cons (o_v (e_int)) a_nil))) (ss_cons (s_set 5 sc__law_make_catalog.nd (x_ix (o_v (e_lst (a_cons (o_v (e_int)) (a_cons (o_v (e_int)) (a_cons (o_v (e_int)) (a_cons (o_v (e_int)) a_nil)))))) (o_v (e_callR 0 (ok__law_pick t) (hr.mono (by decide)) t.g__law_pick t.F__law_pick.kp t.b__law_pick (takes_of rfl rfl rfl rfl) (a_cons (o_v (e_int)) a_nil))) (fun _ _ => rfl))) (ss_cons (s_set 6 sc__law_make_catalog.nd (e_callR 0 (ok__law_pick t) (hr.mono (by decide)) t.g__law_pick t.F__law_pick.kp t.b__law_pick (takes_of rfl rfl rfl rfl) (a_cons (o_v (e_int)) a_nil))) (ss_cons (s_set 7 sc__law_make_catalog.nd (e_lst a_nil)) (ss_cons (s_set 8 sc__law_make_catalog.nd (e_lst a_nil)) (ss_cons (s_for (passes_of rfl) rfl (it_rng1 (by rfl) t.m_range (a_cons (o_v (x_len t.m_len (o_s 1))) a_nil)) (g_name 9 sc__law_make_catalog.nd) (ss_cons (s_set 10 sc__law_make_catalog.nd (e_callR 0 (ok__law_pick t) (hr.mono (by decide)) t.g__law_pick t.F__law_pick.kp t.b__law_pick (takes_of rfl rfl rfl rfl) (a_cons (o_v (e_int)) a_nil))) (ss_cons (s_set 11 sc__law_make_catalog.nd (e_lst a_nil)) (ss_cons (s_for (passes_of rfl) rfl (it_rng1 (by rfl) t.m_range (a_cons (o_s 3) a_nil)) (g_name 12 sc__law_make_catalog.nd) (ss_cons (s_set 13 sc__law_make_catalog.nd (e_callR 0 (ok__law_pick t) (hr.mono (by decide)) t.g__law_pick t.F__law_pick.kp t.b__law_pick (takes_of rfl rfl rfl rfl) (a_cons (o_v (e_int)) a_nil))) (ss_cons (s_set 14 sc__law_make_catalog.nd (x_mod (o_v (x_int t.m_int (o_v (x_add (o_s 4) (o_v (e_callR 0 (ok__law_pick t) (hr.mono (by decide)) t.g__law_pick t.F__law_pick.kp t.b__law_pick (takes_of rfl rfl rfl rfl) (a_cons (o_v (e_var 5)) a_nil))))))) (o_v (e_int)))) (ss_cons (s_if (t_w (w_and (y_gt (o_s 9) (o_v (e_int))) (w_and1 (t_w (w_or (y_eq hr (o_s 10) (o_v (e_int))) (w_or1 (y_eq hr (o_s 13) (o_v (e_int))))))))) (ss_one (s_set 14 sc__law_make_catalog.nd (x_ix (o_v (x_ix (o_s 8) (o_v (x_ix (o_s 1) (o_s 9) (fun _ _ => rfl))) (fun _ _ => rfl))) (o_s 12) (fun _ _ => rfl)))) (ss_nil)) (ss_cons (s_if (t_w (w_and (y_gt (o_s 9) (o_v (e_int))) (w_and1 (y_eq hr (o_s 10) (o_v (e_int)))))) (ss_one (s_set 14 sc__law_make_catalog.nd (x_ix (o_v (x_ix (o_s 7) (o_v (e_int)) (fun _ _ => rfl))) (o_s 12) (fun _ _ => rfl)))) (ss_nil)) (ss_cons (s_if (t_w (w_or (y_eq hr (o_s 10) (o_v (e_int))) (w_or1 (y_lt (o_s 13) (o_s 6))))) (ss_one (s_set 14 sc__law_make_catalog.nd (e_non))) (ss_nil)) (ss_one (s_expr (e_append 11 (a_cons (o_v (e_var 14)) a_nil)))))))))) (ss_cons (s_expr (e_append 7 (a_cons (o_v (x_tuple t.m_tuple (o_s 11))) a_nil))) (ss_cons (s_set 15 sc__law_make_catalog.nd (e_var 11)) (ss_cons (s_if (y_gt (o_s 9) (o_v (e_int))) (ss_one (s_set 15 sc__law_make_catalog.nd (x_ix (o_s 8) (o_v (x_ix (o_s 1) (o_s 9) (fun _ _ => rfl))) (fun _ _ => rfl)))) (ss_nil)) (ss_one (s_expr (e_append 8 (a_cons (o_v (by exact (e_comp (by rfl) sc__law_make_catalog.nd (blkOk_by (own := [("slot", 12)]) (N := N__law_make_catalog) (sc := defScope (topS 57)) (by decide +kernel)) (by exact (it_rng1 (by rfl) t.m_range (a_cons (o_s 3) a_nil))) (fun _ _ _ _ _ => by exact (g_name 12 sc__law_make_catalog.nd)) (fun _ _ _ _ _ => by exact (e_if (y_isN (o_v (x_ix (o_s 11) (o_s 12) (fun _ _ => rfl))) (o_v (e_non))) (x_ix (o_s 15) (o_s 12) (fun _ _ => rfl)) (x_ix (o_s 11) (o_s 12) (fun _ _ => rfl))))))) a_nil))))))))))) (ss_one (s_ret (e_tup (a_cons (o_v (e_var 1)) (a_cons (o_v (e_var 2)) (a_cons (o_v (x_tuple t.m_tuple (o_s 7))) a_nil)))))))))))
theorem ok__law_draw_wants (t : Txt K mg) : GOk P w K mg base 2 t.a__law_draw_wants t.fd__law_draw_wants ["bag", "size", "longest"] (spD K mg true 3 f__law_draw_wants) := by
  refine def_ok (k := 1) (N := N__law_draw_wants) (m := m__law_draw_wants) t.F__law_draw_wants sc__law_draw_wants (by decide) fun cdv A outer s H E hr => ?_
  exact ss_cons (s_set 3 sc__law_draw_wants.nd (x_min (by rfl) t.m_min (a_cons (o_s 2) (a_cons (o_v (e_callR 0 (ok__law_pick t) (hr.mono (by decide)) t.g__law_pick t.F__law_pick.kp t.b__law_pick (takes_of rfl rfl rfl rfl) (a_cons (o_v (e_int)) a_nil))) a_nil)))) (ss_cons (s_if (y_eq hr (o_s 3) (o_v (e_int))) (ss_one (s_set 3 sc__law_draw_wants.nd (e_callR 0 (ok__law_pick t) (hr.mono (by decide)) t.g__law_pick t.F__law_pick.kp t.b__law_pick (takes_of rfl rfl rfl rfl) (a_cons (o_v (x_add (o_s 2) (o_v (e_int)))) a_nil)))) (ss_nil)) (ss_one (s_ret (x_tuple t.m_tuple (o_v (by exact (e_comp (by rfl) sc__law_draw_wants.nd (blkOk_by (own := [("k", 4)]) (N := N__law_draw_wants) (sc := defScope (topS 58)) (by decide +kernel)) (by exact (it_rng1 (by rfl) t.m_range (a_cons (o_s 3) a_nil))) (fun _ _ _ _ _ => by exact (g_name 4 sc__law_draw_wants.nd)) (fun _ _ _ _ _ => by exact (e_callR 0 (ok__law_pick t) (hr.mono (by decide)) t.g__law_pick t.F__law_pick.kp t.b__law_pick takes0 (a_cons (o_v (e_var 1)) a_nil))))))))))
theorem ok__law_moved_catalog (t : Txt K mg) : GOk P w K mg base 1 t.a__law_moved_catalog t.fd__law_moved_catalog ["cat", "step", "more"] (spD K mg false 3 f__law_moved_catalog) := by
  refine def_ok (k := 0) (N := N__law_moved_catalog) (m := m__law_moved_catalog) t.F__law_moved_catalog sc__law_moved_catalog (by decide) fun cdv A outer s H E hr => ?_
  exact ss_cons (s_set 3 sc__law_moved_catalog.nd (e_lst a_nil)) (ss_cons (s_for (passes_of rfl) rfl (it_seq (x_ix (o_s 0) (o_v (e_int)) (fun _ _ => rfl))) (g_name 4 sc__law_moved_catalog.nd) (ss_cons (s_setComp 5 (by rfl) sc__law_moved_catalog.nd (blkOk_by (own := [("word", 6)]) (N := N__law_moved_catalog) (sc := defScope (topS 60)) (by decide +kernel)) (by exact (it_seq (e_var 4))) (fun _ _ _ _ _ => by exact (g_name 6 sc__law_moved_catalog.nd)) (fun _ _ _ _ _ => by exact (e_if (y_isN (o_s 6) (o_v (e_non))) (e_non) (x_mod (o_v (x_int t.m_int (o_v (x_add (o_v (x_mul (o_s 6) (o_v (e_int)))) (o_s 2))))) (o_v (e_int))))) (sw_true rfl rfl rfl (by decide +kernel))) (ss_one (s_expr (e_append 3 (a_cons (o_v (x_tuple t.m_tuple (o_v (x_add (o_v (x_slice (o_s 5) (p_some (e_var 1)) p_none)) (o_v (x_slice (o_s 5) p_none (p_some (e_var 1)))))))) a_nil)))))) (ss_one (s_ret (e_tup (a_cons (o_v (x_ix (o_s 0) (o_v (e_int)) (fun _ _ => rfl))) (a_cons (o_v (x_ix (o_s 0) (o_v (e_int)) (fun _ _ => rfl))) (a_cons (o_v (x_tuple t.m_tuple (o_s 3))) a_nil)))))))
theorem ok__law_make_tree (t : Txt K mg) : GOk P w K mg base 2 t.a__law_make_tree t.fd__law_make_tree ["bag", "fewest", "upto"] (spD K mg true 3 f__law_make_tree) := by
  refine def_ok (k := 1) (N := N__law_make_tree) (m := m__law_make_tree) t.F__law_make_tree sc__law_make_tree (by decide) fun cdv A outer s H E hr => ?_
  exact ss_cons (s_set 3 sc__law_make_tree.nd (x_add (o_s 1) (o_v (e_callR 0 (ok__law_pick t) (hr.mono (by decide)) t.g__law_pick t.F__law_pick.kp t.b__law_pick (takes_of rfl rfl rfl rfl) (a_cons (o_v (x_add (o_v (x_sub (o_s 2) (o_s 1))) (o_v (e_int)))) a_nil))))) (ss_cons (s_set 4 sc__law_make_tree.nd (e_callR 0 (ok__law_pick t) (hr.mono (by decide)) t.g__law_pick t.F__law_pick.kp t.b__law_pick (takes_of rfl rfl rfl rfl) (a_cons (o_v (e_int)) a_nil))) (ss_cons (s_set 5 sc__law_make_tree.nd (e_lst (a_cons (o_v (e_non)) a_nil))) (ss_cons (s_for (passes_of rfl) rfl (it_rng2 (by rfl) t.m_range (a_cons (o_v (e_int)) (a_cons (o_s 3) a_nil))) (g_name 6 sc__law_make_tree.nd) (ss_one (s_if (y_eq hr (o_s 4) (o_v (e_int))) (ss_one (s_expr (e_append 5 (a_cons (o_v (e_int)) a_nil)))) (ss_one (s_if (y_eq hr (o_s 4) (o_v (e_int))) (ss_one (s_expr (e_append 5 (a_cons (o_v (x_sub (o_s 6) (o_v (e_int)))) a_nil)))) (ss_one (s_if (y_eq hr (o_s 4) (o_v (e_int))) (ss_one (s_expr (e_append 5 (a_cons (o_v (x_max (by rfl) t.m_max (a_cons (o_v (e_int)) (a_cons (o_v (x_sub (o_s 6) (o_v (e_int)))) a_nil)))) a_nil)))) (ss_one (s_if (y_eq hr (o_s 4) (o_v (e_int))) (ss_one (s_expr (e_append 5 (a_cons (o_v (x_fdiv (o_s 6) (o_v (e_int)))) a_nil)))) (ss_one (s_expr (e_append 5 (a_cons (o_v (e_callR 0 (ok__law_pick t) (hr.mono (by decide)) t.g__law_pick t.F__law_pick.kp t.b__law_pick (takes_of rfl rfl rfl rfl) (a_cons (o_v (e_var 6)) a_nil))) a_nil))))))))))))) (ss_one (s_ret (x_tuple t.m_tuple (o_s 5)))))))
theorem ok__law_draw_sheet (t : Txt K mg) : GOk P w K mg base 2 t.a__law_draw_sheet t.fd__law_draw_sheet ["bag", "width"] (spD K mg true 2 f__law_draw_sheet) := by
  refine def_ok (k := 1) (N := N__law_draw_sheet) (m := m__law_draw_sheet) t.F__law_draw_sheet sc__law_draw_sheet (by decide) fun cdv A outer s H E hr => ?_
  exact ss_cons (s_set 2 sc__law_draw_sheet.nd (x_tuple t.m_tuple (o_v (by exact (e_compIf (by rfl) sc__law_draw_sheet.nd (blkOk_by (own := [("slot", 3)]) (N := N__law_draw_sheet) (sc := defScope (topS 59)) (by decide +kernel)) (by exact (it_rng1 (by rfl) t.m_range (a_cons (o_s 1) a_nil))) (fun _ _ _ _ _ => by exact (g_name 3 sc__law_draw_sheet.nd)) (fun _ _ _ _ _ => by exact (y_gt (o_v (e_callR 0 (ok__law_pick t) (hr.mono (by decide)) t.g__law_pick t.F__law_pick.kp t.b__law_pick takes0 (a_cons (o_v (e_int)) a_nil))) (o_v (e_int)))) (fun _ _ _ _ _ => by exact (e_var 3))))))) (ss_cons (s_if (y_eq hr (o_v (x_len t.m_len (o_s 2))) (o_v (e_int))) (ss_one (s_ret (e_tup (a_cons (o_v (e_callR 0 (ok__law_pick t) (hr.mono (by decide)) t.g__law_pick t.F__law_pick.kp t.b__law_pick (takes_of rfl rfl rfl rfl) (a_cons (o_v (e_var 1)) a_nil))) a_nil)))) (ss_nil)) (ss_one (s_retV 2)))
theorem ok_is_tuple (t : Txt K mg) : GOk P w K mg base 1 t.a_is_tuple t.fd_is_tuple ["value"] (spD K mg false 1 f_is_tuple) := by
  refine def_ok (k := 0) (N := N_is_tuple) (m := m_is_tuple) t.F_is_tuple sc_is_tuple (by decide) fun cdv A outer s H E hr => ?_
  exact ss_one (s_ret (e_tyIs (o_s 0) t.m_type t.m_tuple (by decide +kernel)))
theorem ok_is_integer_within (t : Txt K mg) : GOk P w K mg base 1 t.a_is_integer_within t.fd_is_integer_within ["value", "low", "high"] (spD K mg false 3 f_is_integer_within) := by
  refine def_ok (k := 0) (N := N_is_integer_within) (m := m_is_integer_within) t.F_is_integer_within sc_is_integer_within (by decide) fun cdv A outer s H E hr => ?_
  exact ss_one (s_ret (e_and (e_isI (o_s 0) t.m_isinstance t.m_int (by decide +kernel)) (e_and (e_not (e_isI (o_s 0) t.m_isinstance t.m_bool (by decide +kernel))) (e_one (e_chain op_le op_le pr_cmp pr_cmp (o_s 1) (o_v (e_var 0)) (o_s 2))))))
theorem ok_is_tree (t : Txt K mg) : GOk P w K mg base 2 t.a_is_tree t.fd_is_tree ["value"] (spD K mg false 1 f_is_tree) := by
  refine def_ok (k := 1) (N := N_is_tree) (m := m_is_tree) t.F_is_tree sc_is_tree (by decide) fun cdv A outer s H E hr => ?_
  exact ss_cons (s_if (t_w (w_or (t_not (t_val (e_call (ok_is_tuple t) (hr.mono (by decide)) t.g_is_tuple t.F_is_tuple.kp t.b_is_tuple (takes_of rfl rfl rfl rfl) (a_cons (o_v (e_var 0)) a_nil)))) (w_or1 (t_not (t_chain op_le op_le pr_cmp pr_cmp (o_v (e_int)) (o_v (x_len t.m_len (o_s 0))) (o_v (e_gint (by rfl) t.c_MOST_LOCALES))))))) (ss_one (s_ret (e_bl))) (ss_nil)) (ss_cons (s_if (y_notN (o_v (x_ix (o_s 0) (o_v (e_int)) (fun _ _ => rfl))) (o_v (e_non))) (ss_one (s_ret (e_bl))) (ss_nil)) (ss_one (s_ret (x_all (by rfl) t.m_all (o_v (by exact (e_comp (by rfl) sc_is_tree.nd (blkOk_by (own := [("index", 1)]) (N := N_is_tree) (sc := defScope (topS 24)) (by decide +kernel)) (by exact (it_rng2 (by rfl) t.m_range (a_cons (o_v (e_int)) (a_cons (o_v (x_len t.m_len (o_s 0))) a_nil)))) (fun _ _ _ _ _ => by exact (g_name 1 sc_is_tree.nd)) (fun _ _ _ _ _ => by exact (e_call (ok_is_integer_within t) (hr.mono (by decide)) t.g_is_integer_within t.F_is_integer_within.kp t.b_is_integer_within takes0 (a_cons (o_v (x_ix (o_s 0) (o_s 1) (fun _ _ => rfl))) (a_cons (o_v (e_int)) (a_cons (o_v (x_sub (o_s 1) (o_v (e_int)))) a_nil))))))))))))
theorem ok_is_way (t : Txt K mg) : GOk P w K mg base 1 t.a_is_way t.fd_is_way ["value"] (spD K mg false 1 f_is_way) := by
  refine def_ok (k := 0) (N := N_is_way) (m := m_is_way) t.F_is_way sc_is_way (by decide) fun cdv A outer s H E hr => ?_
  exact ss_one (s_ret (e_and (e_isI (o_s 0) t.m_isinstance t.m_str (by decide +kernel)) (e_one (x_in (by with_unfolding_all rfl) (o_s 0) (o_v (e_tup (a_cons (o_v (e_str)) (a_cons (o_v (e_str)) a_nil))))))))
theorem ok_is_text (t : Txt K mg) : GOk P w K mg base 2 t.a_is_text t.fd_is_text ["value"] (spD K mg false 1 f_is_text) := by
  refine def_ok (k := 1) (N := N_is_text) (m := m_is_text) t.F_is_text sc_is_text (by decide) fun cdv A outer s H E hr => ?_
  exact ss_one (s_ret (e_call (ok_is_integer_within t) (hr.mono (by decide)) t.g_is_integer_within t.F_is_integer_within.kp t.b_is_integer_within (takes_of rfl rfl rfl rfl) (a_cons (o_v (e_var 0)) (a_cons (o_v (e_int)) (a_cons (o_v (e_gint (by rfl) t.c_LAST_TEXT)) a_nil)))))
theorem ok_is_text_or_none (t : Txt K mg) : GOk P w K mg base 3 t.a_is_text_or_none t.fd_is_text_or_none ["value"] (spD K mg false 1 f_is_text_or_none) := by
  refine def_ok (k := 2) (N := N_is_text_or_none) (m := m_is_text_or_none) t.F_is_text_or_none sc_is_text_or_none (by decide) fun cdv A outer s H E hr => ?_
  exact ss_one (s_ret (e_or (x_isN (o_s 0) (o_v (e_non))) (e_one (e_call (ok_is_text t) (hr.mono (by decide)) t.g_is_text t.F_is_text.kp t.b_is_text (takes_of rfl rfl rfl rfl) (a_cons (o_v (e_var 0)) a_nil)))))
theorem ok_is_row (t : Txt K mg) : GOk P w K mg base 4 t.a_is_row t.fd_is_row ["value"] (spD K mg false 1 f_is_row) := by
  refine def_ok (k := 3) (N := N_is_row) (m := m_is_row) t.F_is_row sc_is_row (by decide) fun cdv A outer s H E hr => ?_
  exact ss_cons (s_if (t_w (w_or (t_not (t_val (e_call (ok_is_tuple t) (hr.mono (by decide)) t.g_is_tuple t.F_is_tuple.kp t.b_is_tuple (takes_of rfl rfl rfl rfl) (a_cons (o_v (e_var 0)) a_nil)))) (w_or1 (t_not (t_chain op_le op_le pr_cmp pr_cmp (o_v (e_int)) (o_v (x_len t.m_len (o_s 0))) (o_v (e_gint (by rfl) t.c_MOST_KEYS))))))) (ss_one (s_ret (e_bl))) (ss_nil)) (ss_one (s_ret (x_all (by rfl) t.m_all (o_v (by exact (e_comp (by rfl) sc_is_row.nd (blkOk_by (own := [("text", 1)]) (N := N_is_row) (sc := defScope (topS 32)) (by decide +kernel)) (by exact (it_seq (e_var 0))) (fun _ _ _ _ _ => by exact (g_name 1 sc_is_row.nd)) (fun _ _ _ _ _ => by exact (e_call (ok_is_text_or_none t) (hr.mono (by decide)) t.g_is_text_or_none t.F_is_text_or_none.kp t.b_is_text_or_none takes0 (a_cons (o_v (e_var 1)) a_nil)))))))))
theorem ok_are_rows (t : Txt K mg) : GOk P w K mg base 5 t.a_are_rows t.fd_are_rows ["value", "many"] (spD K mg false 2 f_are_rows) := by
  refine def_ok (k := 4) (N := N_are_rows) (m := m_are_rows) t.F_are_rows sc_are_rows (by decide) fun cdv A outer s H E hr => ?_
  exact ss_cons (s_if (t_w (w_or (t_not (t_val (e_call (ok_is_tuple t) (hr.mono (by decide)) t.g_is_tuple t.F_is_tuple.kp t.b_is_tuple (takes_of rfl rfl rfl rfl) (a_cons (o_v (e_var 0)) a_nil)))) (w_or1 (y_ne hr (o_v (x_len t.m_len (o_s 0))) (o_s 1))))) (ss_one (s_ret (e_bl))) (ss_nil)) (ss_cons (s_if (t_not (t_val (x_all (by rfl) t.m_all (o_v (by exact (e_comp (by rfl) sc_are_rows.nd (blkOk_by (own := [("row", 2)]) (N := N_are_rows) (sc := defScope (topS 33)) (by decide +kernel)) (by exact (it_seq (e_var 0))) (fun _ _ _ _ _ => by exact (g_name 2 sc_are_rows.nd)) (fun _ _ _ _ _ => by exact (e_call (ok_is_row t) (hr.mono (by decide)) t.g_is_row t.F_is_row.kp t.b_is_row takes0 (a_cons (o_v (e_var 2)) a_nil))))))))) (ss_one (s_ret (e_bl))) (ss_nil)) (ss_one (s_ret (x_all (by rfl) t.m_all (o_v (by exact (e_comp (by rfl) sc_are_rows.nd (blkOk_by (own := [("row", 2)]) (N := N_are_rows) (sc := defScope (topS 33)) (by decide +kernel)) (by exact (it_seq (e_var 0))) (fun _ _ _ _ _ => by exact (g_name 2 sc_are_rows.nd)) (fun _ _ _ _ _ => by exact (x_eq hr (o_v (x_len t.m_len (o_s 2))) (o_v (x_len t.m_len (o_v (x_ix (o_s 0) (o_v (e_int)) (fun _ _ => rfl))))))))))))))
theorem ok_is_catalog (t : Txt K mg) : GOk P w K mg base 6 t.a_is_catalog t.fd_is_catalog ["value"] (spD K mg false 1 f_is_catalog) := by
  refine def_ok (k := 5) (N := N_is_catalog) (m := m_is_catalog) t.F_is_catalog sc_is_catalog (by decide) fun cdv A outer s H E hr => ?_
  exact ss_cons (s_if (t_w (w_or (t_not (t_val (e_call (ok_is_tuple t) (hr.mono (by decide)) t.g_is_tuple t.F_is_tuple.kp t.b_is_tuple (takes_of rfl rfl rfl rfl) (a_cons (o_v (e_var 0)) a_nil)))) (w_or1 (y_ne hr (o_v (x_len t.m_len (o_s 0))) (o_v (e_int)))))) (ss_one (s_ret (e_bl))) (ss_nil)) (ss_cons (s_asg (e_var 0) (g_tup rfl (gs_cons (g_name 1 sc_is_catalog.nd) (gs_cons (g_name 2 sc_is_catalog.nd) (gs_cons (g_name 3 sc_is_catalog.nd) (gs_nil)))))) (ss_one (s_ret (e_and (e_call (ok_is_tree t) (hr.mono (by decide)) t.g_is_tree t.F_is_tree.kp t.b_is_tree (takes_of rfl rfl rfl rfl) (a_cons (o_v (e_var 1)) a_nil)) (e_and (e_call (ok_is_way t) (hr.mono (by decide)) t.g_is_way t.F_is_way.kp t.b_is_way (takes_of rfl rfl rfl rfl) (a_cons (o_v (e_var 2)) a_nil)) (e_one (e_call (ok_are_rows t) (hr.mono (by decide)) t.g_are_rows t.F_are_rows.kp t.b_are_rows (takes_of rfl rfl rfl rfl) (a_cons (o_v (e_var 3)) (a_cons (o_v (x_len t.m_len (o_s 1))) a_nil)))))))))
theorem ok_check_catalog (t : Txt K mg) : GOk P w K mg base 7 t.a_check_catalog t.fd_check_catalog ["catalog"] (spD K mg false 1 f_check_catalog) := by
  refine def_ok (k := 6) (N := N_check_catalog) (m := m_check_catalog) t.F_check_catalog sc_check_catalog (by decide) fun cdv A outer s H E hr => ?_
  exact ss_one (s_if (t_not (t_val (e_call (ok_is_catalog t) (hr.mono (by decide)) t.g_is_catalog t.F_is_catalog.kp t.b_is_catalog (takes_of rfl rfl rfl rfl) (a_cons (o_v (e_var 0)) a_nil)))) (ss_one (s_never)) (ss_nil))
theorem ok_is_ascending (t : Txt K mg) : GOk P w K mg base 1 t.a_is_ascending t.fd_is_ascending ["values"] (spD K mg false 1 f_is_ascending) := by
  refine def_ok (k := 0) (N := N_is_ascending) (m := m_is_ascending) t.F_is_ascending sc_is_ascending (by decide) fun cdv A outer s H E hr => ?_
  exact ss_one (s_ret (x_all (by rfl) t.m_all (o_v (by exact (e_comp (by rfl) sc_is_ascending.nd (blkOk_by (own := [("value", 1), ("next_value", 2)]) (N := N_is_ascending) (sc := defScope (topS 8)) (by decide +kernel)) (by exact (it_zip (by rfl) t.m_zip (a_cons (o_v (e_var 0)) (a_cons (o_v (x_slice (o_s 0) (p_some (e_int)) p_none)) a_nil)))) (fun _ _ _ _ _ => by exact (g_tup rfl (gs_cons (g_name 1 sc_is_ascending.nd) (gs_cons (g_name 2 sc_is_ascending.nd) (gs_nil))))) (fun _ _ _ _ _ => by exact (x_lt (o_s 1) (o_s 2))))))))
theorem ok_is_page (t : Txt K mg) : GOk P w K mg base 2 t.a_is_page t.fd_is_page ["many", "value"] (spD K mg false 2 f_is_page) := by
  refine def_ok (k := 1) (N := N_is_page) (m := m_is_page) t.F_is_page sc_is_page (by decide) fun cdv A outer s H E hr => ?_
  exact ss_cons (s_if (t_w (w_or (t_not (t_val (e_call (ok_is_tuple t) (hr.mono (by decide)) t.g_is_tuple t.F_is_tuple.kp t.b_is_tuple (takes_of rfl rfl rfl rfl) (a_cons (o_v (e_var 1)) a_nil)))) (w_or1 (y_eq hr (o_v (x_len t.m_len (o_s 1))) (o_v (e_int)))))) (ss_one (s_ret (e_bl))) (ss_nil)) (ss_cons (s_if (t_not (t_val (x_all (by rfl) t.m_all (o_v (by exact (e_comp (by rfl) sc_is_page.nd (blkOk_by (own := [("key", 2)]) (N := N_is_page) (sc := defScope (topS 38)) (by decide +kernel)) (by exact (it_seq (e_var 1))) (fun _ _ _ _ _ => by exact (g_name 2 sc_is_page.nd)) (fun _ _ _ _ _ => by exact (e_call (ok_is_integer_within t) (hr.mono (by decide)) t.g_is_integer_within t.F_is_integer_within.kp t.b_is_integer_within takes0 (a_cons (o_v (e_var 2)) (a_cons (o_v (e_int)) (a_cons (o_v (x_sub (o_s 0) (o_v (e_int)))) a_nil))))))))))) (ss_one (s_ret (e_bl))) (ss_nil)) (ss_one (s_ret (e_call (ok_is_ascending t) (hr.mono (by decide)) t.g_is_ascending t.F_is_ascending.kp t.b_is_ascending (takes_of rfl rfl rfl rfl) (a_cons (o_v (e_var 1)) a_nil)))))
theorem ok_count_keys (t : Txt K mg) : GOk P w K mg base 1 t.a_count_keys t.fd_count_keys ["catalog"] (spD K mg false 1 f_count_keys) := by
  refine def_ok (k := 0) (N := N_count_keys) (m := m_count_keys) t.F_count_keys sc_count_keys (by decide) fun cdv A outer s H E hr => ?_
  exact ss_one (s_ret (x_len t.m_len (o_v (x_ix (o_v (x_ix (o_s 0) (o_v (e_int)) (fun _ _ => rfl))) (o_v (e_int)) (fun _ _ => rfl)))))
theorem ok_check_page (t : Txt K mg) : GOk P w K mg base 3 t.a_check_page t.fd_check_page ["catalog", "page"] (spD K mg false 2 f_check_page) := by
  refine def_ok (k := 2) (N := N_check_page) (m := m_check_page) t.F_check_page sc_check_page (by decide) fun cdv A outer s H E hr => ?_
  exact ss_one (s_if (t_not (t_val (e_call (ok_is_page t) (hr.mono (by decide)) t.g_is_page t.F_is_page.kp t.b_is_page (takes_of rfl rfl rfl rfl) (a_cons (o_v (e_call (ok_count_keys t) (hr.mono (by decide)) t.g_count_keys t.F_count_keys.kp t.b_count_keys (takes_of rfl rfl rfl rfl) (a_cons (o_v (e_var 0)) a_nil))) (a_cons (o_v (e_var 1)) a_nil))))) (ss_one (s_never)) (ss_nil))
theorem ok_path_of (t : Txt K mg) : GOk P w K mg base 1 t.a_path_of t.fd_path_of ["tree", "locale"] (spD K mg false 2 f_path_of) := by
  refine def_ok (k := 0) (N := N_path_of) (m := m_path_of) t.F_path_of sc_path_of (by decide) fun cdv A outer s H E hr => ?_
  exact ss_cons (s_set 2 sc_path_of.nd (e_lst (a_cons (o_v (e_var 1)) a_nil))) (ss_cons (s_set 3 sc_path_of.nd (x_ix (o_s 0) (o_s 1) (fun _ _ => rfl))) (ss_cons (s_while 64 (passes_of rfl) (t_w (w_and (y_notN (o_s 3) (o_v (e_non))) (w_and1 (y_ne hr (o_s 3) (o_v (e_int)))))) (ss_cons (s_expr (e_append 2 (a_cons (o_v (e_var 3)) a_nil))) (ss_one (s_set 3 sc_path_of.nd (x_ix (o_s 0) (o_s 3) (fun _ _ => rfl)))))) (ss_one (s_ret (x_tuple t.m_tuple (o_s 2))))))
theorem ok_passed_by (t : Txt K mg) : GOk P w K mg base 2 t.a_passed_by t.fd_passed_by ["tree", "wishes"] (spD K mg false 2 f_passed_by) := by
  refine def_ok (k := 1) (N := N_passed_by) (m := m_passed_by) t.F_passed_by sc_passed_by (by decide) fun cdv A outer s H E hr => ?_
  exact ss_cons (s_set 2 sc_passed_by.nd (e_lst a_nil)) (ss_cons (s_for (passes_of rfl) rfl (it_seq (e_var 1)) (g_name 3 sc_passed_by.nd) (ss_one (s_for (passes_of rfl) rfl (it_seq (e_call (ok_path_of t) (hr.mono (by decide)) t.g_path_of t.F_path_of.kp t.b_path_of (takes_of rfl rfl rfl rfl) (a_cons (o_v (e_var 0)) (a_cons (o_v (e_var 3)) a_nil)))) (g_name 4 sc_passed_by.nd) (ss_one (s_if (y_notIn (by with_unfolding_all rfl) (o_s 4) (o_s 2)) (ss_one (s_expr (e_append 2 (a_cons (o_v (e_var 4)) a_nil)))) (ss_nil)))))) (ss_one (s_ret (x_tuple t.m_tuple (o_s 2)))))
theorem ok_longer (t : Txt K mg) : GOk P w K mg base 3 t.a_longer t.fd_longer ["tree", "lists"] (spD K mg false 2 f_longer) := by
  refine def_ok (k := 2) (N := N_longer) (m := m_longer) t.F_longer sc_longer (by decide) fun cdv A outer s H E hr => ?_
  exact ss_cons (s_set 2 sc_longer.nd (e_lst a_nil)) (ss_cons (s_for (passes_of rfl) rfl (it_seq (e_var 1)) (g_name 3 sc_longer.nd) (ss_cons (s_set 4 sc_longer.nd (e_call (ok_passed_by t) (hr.mono (by decide)) t.g_passed_by t.F_passed_by.kp t.b_passed_by (takes_of rfl rfl rfl rfl) (a_cons (o_v (e_var 0)) (a_cons (o_v (e_var 3)) a_nil)))) (ss_one (s_for (passes_of rfl) rfl (it_rng1 (by rfl) t.m_range (a_cons (o_v (x_len t.m_len (o_s 0))) a_nil)) (g_name 5 sc_longer.nd) (ss_one (s_if (y_notIn (by with_unfolding_all rfl) (o_s 5) (o_s 4)) (ss_one (s_expr (e_append 2 (a_cons (o_v (x_add (o_s 3) (o_v (e_tup (a_cons (o_v (e_var 5)) a_nil))))) a_nil)))) (ss_nil))))))) (ss_one (s_retV 2)))
theorem ok_short_lists (t : Txt K mg) : GOk P w K mg base 4 t.a_short_lists t.fd_short_lists ["tree", "longest"] (spD K mg false 2 f_short_lists) := by
  refine def_ok (k := 3) (N := N_short_lists) (m := m_short_lists) t.F_short_lists sc_short_lists (by decide) fun cdv A outer s H E hr => ?_
  exact ss_cons (s_set 2 sc_short_lists.nd (e_lst (a_cons (o_v (e_tup a_nil)) a_nil))) (ss_cons (s_set 3 sc_short_lists.nd (e_lst (a_cons (o_v (e_tup a_nil)) a_nil))) (ss_cons (s_for (passes_of rfl) rfl (it_rng1 (by rfl) t.m_range (a_cons (o_s 1) a_nil)) (g_name 4 sc_short_lists.nd) (ss_cons (s_set 3 sc_short_lists.nd (e_call (ok_longer t) (hr.mono (by decide)) t.g_longer t.F_longer.kp t.b_longer (takes_of rfl rfl rfl rfl) (a_cons (o_v (e_var 0)) (a_cons (o_v (e_var 3)) a_nil)))) (ss_one (s_set 2 sc_short_lists.nd (x_add (o_s 2) (o_s 3)))))) (ss_one (s_retV 2))))
theorem ok_skips (t : Txt K mg) : GOk P w K mg base 2 t.a_skips t.fd_skips ["catalog", "locale"] (spD K mg false 2 f_skips) := by
  refine def_ok (k := 1) (N := N_skips) (m := m_skips) t.F_skips sc_skips (by decide) fun cdv A outer s H E hr => ?_
  exact ss_cons (s_asg (e_var 0) (g_tup rfl (gs_cons (g_name 2 sc_skips.nd) (gs_cons (g_name 3 sc_skips.nd) (gs_cons (g_name 4 sc_skips.nd) (gs_nil)))))) (ss_cons (s_for (passes_of rfl) rfl (it_seq (e_call (ok_path_of t) (hr.mono (by decide)) t.g_path_of t.F_path_of.kp t.b_path_of (takes_of rfl rfl rfl rfl) (a_cons (o_v (e_var 2)) (a_cons (o_v (e_var 1)) a_nil)))) (g_name 5 sc_skips.nd) (ss_one (s_for (passes_of rfl) rfl (it_seq (x_ix (o_s 4) (o_s 5) (fun _ _ => rfl))) (g_name 6 sc_skips.nd) (ss_one (s_if (y_notN (o_s 6) (o_v (e_non))) (ss_one (s_ret (e_bl))) (ss_nil)))))) (ss_one (s_ret (e_bl))))
theorem ok_chosen_of (t : Txt K mg) : GOk P w K mg base 3 t.a_chosen_of t.fd_chosen_of ["catalog", "wishes"] (spD K mg false 2 f_chosen_of) := by
  refine def_ok (k := 2) (N := N_chosen_of) (m := m_chosen_of) t.F_chosen_of sc_chosen_of (by decide) fun cdv A outer s H E hr => ?_
  exact ss_cons (s_for (passes_of rfl) rfl (it_enA (by rfl) t.m_enumerate (a_cons (o_v (e_var 1)) a_nil)) (g_tup rfl (gs_cons (g_name 2 sc_chosen_of.nd) (gs_cons (g_name 3 sc_chosen_of.nd) (gs_nil)))) (ss_one (s_if (t_not (t_val (e_call (ok_skips t) (hr.mono (by decide)) t.g_skips t.F_skips.kp t.b_skips (takes_of rfl rfl rfl rfl) (a_cons (o_v (e_var 0)) (a_cons (o_v (e_var 3)) a_nil))))) (ss_one (s_retV 2)) (ss_nil)))) (ss_one (s_ret (e_non)))
theorem ok_looked_of (t : Txt K mg) : GOk P w K mg base 3 t.a_looked_of t.fd_looked_of ["tree", "wishes"] (spD K mg false 2 f_looked_of) := by
  refine def_ok (k := 2) (N := N_looked_of) (m := m_looked_of) t.F_looked_of sc_looked_of (by decide) fun cdv A outer s H E hr => ?_
  exact ss_one (s_ret (e_call (ok_passed_by t) (hr.mono (by decide)) t.g_passed_by t.F_passed_by.kp t.b_passed_by (takes_of rfl rfl rfl rfl) (a_cons (o_v (e_var 0)) (a_cons (o_v (x_add (o_s 1) (o_v (e_tup (a_cons (o_v (e_int)) a_nil))))) a_nil))))
theorem ok_sought (t : Txt K mg) : GOk P w K mg base 4 t.a_sought t.fd_sought ["catalog", "wishes"] (spD K mg false 2 f_sought) := by
  refine def_ok (k := 3) (N := N_sought) (m := m_sought) t.F_sought sc_sought (by decide) fun cdv A outer s H E hr => ?_
  exact ss_cons (s_asg (e_var 0) (g_tup rfl (gs_cons (g_name 2 sc_sought.nd) (gs_cons (g_name 3 sc_sought.nd) (gs_cons (g_name 4 sc_sought.nd) (gs_nil)))))) (ss_cons (s_if (y_eq hr (o_s 3) (o_v (e_str))) (ss_one (s_ret (e_call (ok_looked_of t) (hr.mono (by decide)) t.g_looked_of t.F_looked_of.kp t.b_looked_of (takes_of rfl rfl rfl rfl) (a_cons (o_v (e_var 2)) (a_cons (o_v (e_var 1)) a_nil))))) (ss_nil)) (ss_cons (s_set 5 sc_sought.nd (e_call (ok_chosen_of t) (hr.mono (by decide)) t.g_chosen_of t.F_chosen_of.kp t.b_chosen_of (takes_of rfl rfl rfl rfl) (a_cons (o_v (e_var 0)) (a_cons (o_v (e_var 1)) a_nil)))) (ss_cons (s_if (y_isN (o_s 5) (o_v (e_non))) (ss_one (s_ret (e_tup (a_cons (o_v (e_int)) a_nil)))) (ss_nil)) (ss_one (s_ret (e_call (ok_looked_of t) (hr.mono (by decide)) t.g_looked_of t.F_looked_of.kp t.b_looked_of (takes_of rfl rfl rfl rfl) (a_cons (o_v (e_var 2)) (a_cons (o_v (e_tup (a_cons (o_v (x_ix (o_s 1) (o_s 5) (fun _ _ => rfl))) a_nil))) a_nil))))))))
theorem ok_first_place (t : Txt K mg) : GOk P w K mg base 1 t.a_first_place t.fd_first_place ["rows", "locales", "key"] (spD K mg false 3 f_first_place) := by
  refine def_ok (k := 0) (N := N_first_place) (m := m_first_place) t.F_first_place sc_first_place (by decide) fun cdv A outer s H E hr => ?_
  exact ss_cons (s_for (passes_of rfl) rfl (it_seq (e_var 1)) (g_name 3 sc_first_place.nd) (ss_one (s_if (y_notN (o_v (x_ix (o_v (x_ix (o_s 0) (o_s 3) (fun _ _ => rfl))) (o_s 2) (fun _ _ => rfl))) (o_v (e_non))) (ss_one (s_retV 3)) (ss_nil)))) (ss_one (s_ret (e_non)))
theorem ok_tongue_of (t : Txt K mg) : GOk P w K mg base 2 t.a_tongue_of t.fd_tongue_of ["tree", "locale"] (spD K mg false 2 f_tongue_of) := by
  refine def_ok (k := 1) (N := N_tongue_of) (m := m_tongue_of) t.F_tongue_of sc_tongue_of (by decide) fun cdv A outer s H E hr => ?_
  exact ss_one (s_ret (x_ix (o_v (e_call (ok_path_of t) (hr.mono (by decide)) t.g_path_of t.F_path_of.kp t.b_path_of (takes_of rfl rfl rfl rfl) (a_cons (o_v (e_var 0)) (a_cons (o_v (e_var 1)) a_nil)))) (o_v (x_neg (o_v (e_int)))) (fun _ _ => rfl)))
theorem ok_mixes_page (t : Txt K mg) : GOk P w K mg base 5 t.a_mixes_page t.fd_mixes_page ["catalog", "wishes", "page"] (spD K mg false 3 f_mixes_page) := by
  refine def_ok (k := 4) (N := N_mixes_page) (m := m_mixes_page) t.F_mixes_page sc_mixes_page (by decide) fun cdv A outer s H E hr => ?_
  exact ss_cons (s_asg (e_var 0) (g_tup rfl (gs_cons (g_name 3 sc_mixes_page.nd) (gs_cons (g_name 4 sc_mixes_page.nd) (gs_cons (g_name 5 sc_mixes_page.nd) (gs_nil)))))) (ss_cons (s_set 6 sc_mixes_page.nd (e_call (ok_sought t) (hr.mono (by decide)) t.g_sought t.F_sought.kp t.b_sought (takes_of rfl rfl rfl rfl) (a_cons (o_v (e_var 0)) (a_cons (o_v (e_var 1)) a_nil)))) (ss_cons (s_setComp 7 (by rfl) sc_mixes_page.nd (blkOk_by (own := [("key", 9)]) (N := N_mixes_page) (sc := defScope (topS 40)) (by decide +kernel)) (by exact (it_seq (e_var 2))) (fun _ _ _ _ _ => by exact (g_name 9 sc_mixes_page.nd)) (fun _ _ _ _ _ => by exact (e_call (ok_first_place t) (hr.mono (by decide)) t.g_first_place t.F_first_place.kp t.b_first_place takes0 (a_cons (o_v (e_var 5)) (a_cons (o_v (e_var 6)) (a_cons (o_v (e_var 9)) a_nil))))) (sw_true rfl rfl rfl (by decide +kernel))) (ss_cons (s_set 8 sc_mixes_page.nd (by exact (e_compIf (by rfl) sc_mixes_page.nd (blkOk_by (own := [("place", 10)]) (N := N_mixes_page) (sc := defScope (topS 40)) (by decide +kernel)) (by exact (it_seq (e_var 7))) (fun _ _ _ _ _ => by exact (g_name 10 sc_mixes_page.nd)) (fun _ _ _ _ _ => by exact (y_notN (o_s 10) (o_v (e_non)))) (fun _ _ _ _ _ => by exact (e_call (ok_tongue_of t) (hr.mono (by decide)) t.g_tongue_of t.F_tongue_of.kp t.b_tongue_of takes0 (a_cons (o_v (e_var 3)) (a_cons (o_v (e_var 10)) a_nil)))))) (hs := sw_cell rfl)) (ss_one (s_ret (x_any (by rfl) t.m_any (o_v (by exact (e_comp (by rfl) sc_mixes_page.nd (blkOk_by (own := [("tongue", 11)]) (N := N_mixes_page) (sc := defScope (topS 40)) (by decide +kernel)) (by exact (it_seq (e_var 8))) (fun _ _ _ _ _ => by exact (g_name 11 sc_mixes_page.nd)) (fun _ _ _ _ _ => by exact (x_ne hr (o_s 11) (o_v (x_ix (o_s 8) (o_v (e_int)) (fun _ _ => rfl))))))))))))))
theorem ok_first_mixing (t : Txt K mg) : GOk P w K mg base 6 t.a_first_mixing t.fd_first_mixing ["catalog", "page"] (spD K mg false 2 f_first_mixing) := by
  refine def_ok (k := 5) (N := N_first_mixing) (m := m_first_mixing) t.F_first_mixing sc_first_mixing (by decide) fun cdv A outer s H E hr => ?_
  exact ss_cons (s_set 2 sc_first_mixing.nd (e_if (y_eq hr (o_v (x_ix (o_s 0) (o_v (e_int)) (fun _ _ => rfl))) (o_v (e_str))) (e_int) (e_int))) (ss_cons (s_for (passes_of rfl) rfl (it_seq (e_call (ok_short_lists t) (hr.mono (by decide)) t.g_short_lists t.F_short_lists.kp t.b_short_lists (takes_of rfl rfl rfl rfl) (a_cons (o_v (x_ix (o_s 0) (o_v (e_int)) (fun _ _ => rfl))) (a_cons (o_v (e_var 2)) a_nil)))) (g_name 3 sc_first_mixing.nd) (ss_one (s_if (t_val (e_call (ok_mixes_page t) (hr.mono (by decide)) t.g_mixes_page t.F_mixes_page.kp t.b_mixes_page (takes_of rfl rfl rfl rfl) (a_cons (o_v (e_var 0)) (a_cons (o_v (e_var 3)) (a_cons (o_v (e_var 1)) a_nil))))) (ss_one (s_retV 3)) (ss_nil)))) (ss_one (s_ret (e_non))))
theorem ok_mixing (t : Txt K mg) : GOk P w K mg base 8 t.a_mixing t.fd_mixing ["catalog", "page"] (spD K mg false 2 f_mixing) := by
  refine def_ok (k := 7) (N := N_mixing) (m := m_mixing) t.F_mixing sc_mixing (by decide) fun cdv A outer s H E hr => ?_
  exact ss_cons (s_expr (e_call (ok_check_catalog t) (hr.mono (by decide)) t.g_check_catalog t.F_check_catalog.kp t.b_check_catalog (takes_of rfl rfl rfl rfl) (a_cons (o_v (e_var 0)) a_nil))) (ss_cons (s_expr (e_call (ok_check_page t) (hr.mono (by decide)) t.g_check_page t.F_check_page.kp t.b_check_page (takes_of rfl rfl rfl rfl) (a_cons (o_v (e_var 0)) (a_cons (o_v (e_var 1)) a_nil)))) (ss_one (s_ret (e_call (ok_first_mixing t) (hr.mono (by decide)) t.g_first_mixing t.F_first_mixing.kp t.b_first_mixing (takes_of rfl rfl rfl rfl) (a_cons (o_v (e_var 0)) (a_cons (o_v (e_var 1)) a_nil))))))
theorem ok_has_locale (t : Txt K mg) : GOk P w K mg base 2 t.a_has_locale t.fd_has_locale ["tree", "value"] (spD K mg false 2 f_has_locale) := by
  refine def_ok (k := 1) (N := N_has_locale) (m := m_has_locale) t.F_has_locale sc_has_locale (by decide) fun cdv A outer s H E hr => ?_
  exact ss_one (s_ret (e_call (ok_is_integer_within t) (hr.mono (by decide)) t.g_is_integer_within t.F_is_integer_within.kp t.b_is_integer_within (takes_of rfl rfl rfl rfl) (a_cons (o_v (e_var 1)) (a_cons (o_v (e_int)) (a_cons (o_v (x_sub (o_v (x_len t.m_len (o_s 0))) (o_v (e_int)))) a_nil)))))
theorem ok_has_wishes (t : Txt K mg) : GOk P w K mg base 3 t.a_has_wishes t.fd_has_wishes ["tree", "value"] (spD K mg false 2 f_has_wishes) := by
  refine def_ok (k := 2) (N := N_has_wishes) (m := m_has_wishes) t.F_has_wishes sc_has_wishes (by decide) fun cdv A outer s H E hr => ?_
  exact ss_one (s_ret (e_and (e_call (ok_is_tuple t) (hr.mono (by decide)) t.g_is_tuple t.F_is_tuple.kp t.b_is_tuple (takes_of rfl rfl rfl rfl) (a_cons (o_v (e_var 1)) a_nil)) (e_one (x_all (by rfl) t.m_all (o_v (by exact (e_comp (by rfl) sc_has_wishes.nd (blkOk_by (own := [("wish", 2)]) (N := N_has_wishes) (sc := defScope (topS 11)) (by decide +kernel)) (by exact (it_seq (e_var 1))) (fun _ _ _ _ _ => by exact (g_name 2 sc_has_wishes.nd)) (fun _ _ _ _ _ => by exact (e_call (ok_has_locale t) (hr.mono (by decide)) t.g_has_locale t.F_has_locale.kp t.b_has_locale takes0 (a_cons (o_v (e_var 0)) (a_cons (o_v (e_var 2)) a_nil)))))))))))
theorem ok_check_wishes (t : Txt K mg) : GOk P w K mg base 4 t.a_check_wishes t.fd_check_wishes ["tree", "wishes"] (spD K mg false 2 f_check_wishes) := by
  refine def_ok (k := 3) (N := N_check_wishes) (m := m_check_wishes) t.F_check_wishes sc_check_wishes (by decide) fun cdv A outer s H E hr => ?_
  exact ss_one (s_if (t_not (t_val (e_call (ok_has_wishes t) (hr.mono (by decide)) t.g_has_wishes t.F_has_wishes.kp t.b_has_wishes (takes_of rfl rfl rfl rfl) (a_cons (o_v (e_var 0)) (a_cons (o_v (e_var 1)) a_nil))))) (ss_one (s_never)) (ss_nil))
theorem ok_mixes (t : Txt K mg) : GOk P w K mg base 8 t.a_mixes t.fd_mixes ["catalog", "wishes", "page"] (spD K mg false 3 f_mixes) := by
  refine def_ok (k := 7) (N := N_mixes) (m := m_mixes) t.F_mixes sc_mixes (by decide) fun cdv A outer s H E hr => ?_
  exact ss_cons (s_expr (e_call (ok_check_catalog t) (hr.mono (by decide)) t.g_check_catalog t.F_check_catalog.kp t.b_check_catalog (takes_of rfl rfl rfl rfl) (a_cons (o_v (e_var 0)) a_nil))) (ss_cons (s_expr (e_call (ok_check_wishes t) (hr.mono (by decide)) t.g_check_wishes t.F_check_wishes.kp t.b_check_wishes (takes_of rfl rfl rfl rfl) (a_cons (o_v (x_ix (o_s 0) (o_v (e_int)) (fun _ _ => rfl))) (a_cons (o_v (e_var 1)) a_nil)))) (ss_cons (s_expr (e_call (ok_check_page t) (hr.mono (by decide)) t.g_check_page t.F_check_page.kp t.b_check_page (takes_of rfl rfl rfl rfl) (a_cons (o_v (e_var 0)) (a_cons (o_v (e_var 2)) a_nil)))) (ss_one (s_ret (e_call (ok_mixes_page t) (hr.mono (by decide)) t.g_mixes_page t.F_mixes_page.kp t.b_mixes_page (takes_of rfl rfl rfl rfl) (a_cons (o_v (e_var 0)) (a_cons (o_v (e_var 1)) (a_cons (o_v (e_var 2)) a_nil))))))))
theorem ok_keys_to_have (t : Txt K mg) : GOk P w K mg base 1 t.a_keys_to_have t.fd_keys_to_have ["catalog", "page"] (spD K mg false 2 f_keys_to_have) := by
  refine def_ok (k := 0) (N := N_keys_to_have) (m := m_keys_to_have) t.F_keys_to_have sc_keys_to_have (by decide) fun cdv A outer s H E hr => ?_
  exact ss_cons (s_set 2 sc_keys_to_have.nd (x_ix (o_s 0) (o_v (e_int)) (fun _ _ => rfl))) (ss_cons (s_if (y_eq hr (o_v (x_ix (o_s 0) (o_v (e_int)) (fun _ _ => rfl))) (o_v (e_str))) (ss_one (s_ret (by exact (e_compIf (by rfl) sc_keys_to_have.nd (blkOk_by (own := [("key", 3)]) (N := N_keys_to_have) (sc := defScope (topS 43)) (by decide +kernel)) (by exact (it_seq (e_var 1))) (fun _ _ _ _ _ => by exact (g_name 3 sc_keys_to_have.nd)) (fun _ _ _ _ _ => by exact (y_notN (o_v (x_ix (o_v (x_ix (o_s 2) (o_v (e_int)) (fun _ _ => rfl))) (o_s 3) (fun _ _ => rfl))) (o_v (e_non)))) (fun _ _ _ _ _ => by exact (e_var 3)))))) (ss_nil)) (ss_one (s_ret (by exact (e_compIf (by rfl) sc_keys_to_have.nd (blkOk_by (own := [("key", 3)]) (N := N_keys_to_have) (sc := defScope (topS 43)) (by decide +kernel)) (by exact (it_seq (e_var 1))) (fun _ _ _ _ _ => by exact (g_name 3 sc_keys_to_have.nd)) (fun _ _ _ _ _ => by exact (t_val (x_any (by rfl) t.m_any (o_v (by exact (e_comp (by rfl) sc_keys_to_have.nd (show BlkOk _ _ _ [("row", 4)] from by exact blkOk_by (N := N_keys_to_have) (by kernel_rfl)) (by exact (it_seq (e_var 2))) (fun _ _ _ _ _ => by exact (g_name 4 sc_keys_to_have.nd)) (fun _ _ _ _ _ => by exact (x_notN (o_v (x_ix (o_s 4) (o_s 3) (fun _ _ => rfl))) (o_v (e_non)))))))))) (fun _ _ _ _ _ => by exact (e_var 3)))))))
theorem ok_has_any (t : Txt K mg) : GOk P w K mg base 1 t.a_has_any t.fd_has_any ["row", "page"] (spD K mg false 2 f_has_any) := by
  refine def_ok (k := 0) (N := N_has_any) (m := m_has_any) t.F_has_any sc_has_any (by decide) fun cdv A outer s H E hr => ?_
  exact ss_one (s_ret (x_any (by rfl) t.m_any (o_v (by exact (e_comp (by rfl) sc_has_any.nd (blkOk_by (own := [("key", 2)]) (N := N_has_any) (sc := defScope (topS 42)) (by decide +kernel)) (by exact (it_seq (e_var 1))) (fun _ _ _ _ _ => by exact (g_name 2 sc_has_any.nd)) (fun _ _ _ _ _ => by exact (x_notN (o_v (x_ix (o_s 0) (o_s 2) (fun _ _ => rfl))) (o_v (e_non)))))))))
theorem ok_is_in_one_tongue (t : Txt K mg) : GOk P w K mg base 3 t.a_is_in_one_tongue t.fd_is_in_one_tongue ["catalog", "page"] (spD K mg false 2 f_is_in_one_tongue) := by
  refine def_ok (k := 2) (N := N_is_in_one_tongue) (m := m_is_in_one_tongue) t.F_is_in_one_tongue sc_is_in_one_tongue (by decide) fun cdv A outer s H E hr => ?_
  exact ss_cons (s_asg (e_var 0) (g_tup rfl (gs_cons (g_name 2 sc_is_in_one_tongue.nd) (gs_cons (g_name 3 sc_is_in_one_tongue.nd) (gs_cons (g_name 4 sc_is_in_one_tongue.nd) (gs_nil)))))) (ss_cons (s_set 5 sc_is_in_one_tongue.nd (by exact (e_compIf (by rfl) sc_is_in_one_tongue.nd (blkOk_by (own := [("locale", 6), ("row", 7)]) (N := N_is_in_one_tongue) (sc := defScope (topS 44)) (by decide +kernel)) (by exact (it_enA (by rfl) t.m_enumerate (a_cons (o_v (e_var 4)) a_nil))) (fun _ _ _ _ _ => by exact (g_tup rfl (gs_cons (g_name 6 sc_is_in_one_tongue.nd) (gs_cons (g_name 7 sc_is_in_one_tongue.nd) (gs_nil))))) (fun _ _ _ _ _ => by exact (t_val (e_call (ok_has_any t) (hr.mono (by decide)) t.g_has_any t.F_has_any.kp t.b_has_any takes0 (a_cons (o_v (e_var 7)) (a_cons (o_v (e_var 1)) a_nil))))) (fun _ _ _ _ _ => by exact (e_call (ok_tongue_of t) (hr.mono (by decide)) t.g_tongue_of t.F_tongue_of.kp t.b_tongue_of takes0 (a_cons (o_v (e_var 2)) (a_cons (o_v (e_var 6)) a_nil)))))) (hs := sw_cell rfl)) (ss_one (s_ret (x_all (by rfl) t.m_all (o_v (by exact (e_comp (by rfl) sc_is_in_one_tongue.nd (blkOk_by (own := [("tongue", 8)]) (N := N_is_in_one_tongue) (sc := defScope (topS 44)) (by decide +kernel)) (by exact (it_seq (e_var 5))) (fun _ _ _ _ _ => by exact (g_name 8 sc_is_in_one_tongue.nd)) (fun _ _ _ _ _ => by exact (x_eq hr (o_s 8) (o_v (x_ix (o_s 5) (o_v (e_int)) (fun _ _ => rfl))))))))))))
theorem ok_lacked_by (t : Txt K mg) : GOk P w K mg base 1 t.a_lacked_by t.fd_lacked_by ["rows", "locale", "keys"] (spD K mg false 3 f_lacked_by) := by
  refine def_ok (k := 0) (N := N_lacked_by) (m := m_lacked_by) t.F_lacked_by sc_lacked_by (by decide) fun cdv A outer s H E hr => ?_
  exact ss_one (s_ret (by exact (e_compIf (by rfl) sc_lacked_by.nd (blkOk_by (own := [("key", 3)]) (N := N_lacked_by) (sc := defScope (topS 45)) (by decide +kernel)) (by exact (it_seq (e_var 2))) (fun _ _ _ _ _ => by exact (g_name 3 sc_lacked_by.nd)) (fun _ _ _ _ _ => by exact (y_isN (o_v (x_ix (o_v (x_ix (o_s 0) (o_s 1) (fun _ _ => rfl))) (o_s 3) (fun _ _ => rfl))) (o_v (e_non)))) (fun _ _ _ _ _ => by exact (e_tup (a_cons (o_v (e_var 1)) (a_cons (o_v (e_var 3)) a_nil)))))))
theorem ok_added_below (t : Txt K mg) : GOk P w K mg base 2 t.a_added_below t.fd_added_below ["catalog", "page", "keys"] (spD K mg false 3 f_added_below) := by
  refine def_ok (k := 1) (N := N_added_below) (m := m_added_below) t.F_added_below sc_added_below (by decide) fun cdv A outer s H E hr => ?_
  exact ss_cons (s_asg (e_var 0) (g_tup rfl (gs_cons (g_name 3 sc_added_below.nd) (gs_cons (g_name 4 sc_added_below.nd) (gs_cons (g_name 5 sc_added_below.nd) (gs_nil)))))) (ss_cons (s_setComp 6 (by rfl) sc_added_below.nd (blkOk_by (own := [("_", 4)]) (N := N_added_below) (sc := defScope (topS 46)) (by decide +kernel)) (by exact (it_seq (e_var 3))) (fun _ _ _ _ _ => by exact (g_name 4 sc_added_below.nd)) (fun _ _ _ _ _ => by exact (e_lst a_nil)) (sw_true rfl rfl rfl (by decide +kernel))) (ss_cons (s_for (passes_of rfl) rfl (it_rng3 (by rfl) t.m_range (a_cons (o_v (x_sub (o_v (x_len t.m_len (o_s 3))) (o_v (e_int)))) (a_cons (o_v (e_int)) (a_cons (o_v (x_neg (o_v (e_int)))) a_nil)))) (g_name 7 sc_added_below.nd) (ss_cons (s_set 8 sc_added_below.nd (e_call (ok_lacked_by t) (hr.mono (by decide)) t.g_lacked_by t.F_lacked_by.kp t.b_lacked_by (takes_of rfl rfl rfl rfl) (a_cons (o_v (e_var 5)) (a_cons (o_v (e_var 7)) (a_cons (o_v (e_var 2)) a_nil))))) (ss_cons (s_if (t_w (w_and (t_not (t_val (e_call (ok_has_any t) (hr.mono (by decide)) t.g_has_any t.F_has_any.kp t.b_has_any (takes_of rfl rfl rfl rfl) (a_cons (o_v (x_ix (o_s 5) (o_s 7) (fun _ _ => rfl))) (a_cons (o_v (e_var 1)) a_nil))))) (w_and1 (y_lt (o_v (x_len t.m_len (o_v (x_ix (o_s 6) (o_s 7) (fun _ _ => rfl))))) (o_v (x_len t.m_len (o_s 8))))))) (ss_one (s_set 8 sc_added_below.nd (x_ix (o_s 6) (o_s 7) (fun _ _ => rfl)))) (ss_nil)) (ss_one (s_setIx 6 (x_add (o_v (x_ix (o_s 6) (o_v (x_ix (o_s 3) (o_s 7) (fun _ _ => rfl))) (fun _ _ => rfl))) (o_s 8)) (o_v (x_ix (o_s 3) (o_s 7) (fun _ _ => rfl)))))))) (ss_one (s_ret (x_ix (o_s 6) (o_v (e_int)) (fun _ _ => rfl))))))
theorem ok_added_entries (t : Txt K mg) : GOk P w K mg base 4 t.a_added_entries t.fd_added_entries ["catalog", "page"] (spD K mg false 2 f_added_entries) := by
  refine def_ok (k := 3) (N := N_added_entries) (m := m_added_entries) t.F_added_entries sc_added_entries (by decide) fun cdv A outer s H E hr => ?_
  exact ss_cons (s_set 2 sc_added_entries.nd (x_ix (o_s 0) (o_v (e_int)) (fun _ _ => rfl))) (ss_cons (s_set 3 sc_added_entries.nd (e_call (ok_keys_to_have t) (hr.mono (by decide)) t.g_keys_to_have t.F_keys_to_have.kp t.b_keys_to_have (takes_of rfl rfl rfl rfl) (a_cons (o_v (e_var 0)) (a_cons (o_v (e_var 1)) a_nil)))) (ss_cons (s_if (y_eq hr (o_v (x_ix (o_s 0) (o_v (e_int)) (fun _ _ => rfl))) (o_v (e_str))) (ss_one (s_ret (e_call (ok_added_below t) (hr.mono (by decide)) t.g_added_below t.F_added_below.kp t.b_added_below (takes_of rfl rfl rfl rfl) (a_cons (o_v (e_var 0)) (a_cons (o_v (e_var 1)) (a_cons (o_v (e_var 3)) a_nil)))))) (ss_nil)) (ss_cons (s_if (t_val (e_call (ok_is_in_one_tongue t) (hr.mono (by decide)) t.g_is_in_one_tongue t.F_is_in_one_tongue.kp t.b_is_in_one_tongue (takes_of rfl rfl rfl rfl) (a_cons (o_v (e_var 0)) (a_cons (o_v (e_var 1)) a_nil)))) (ss_one (s_ret (e_lst a_nil))) (ss_nil)) (ss_cons (s_set 4 sc_added_entries.nd (e_call (ok_added_below t) (hr.mono (by decide)) t.g_added_below t.F_added_below.kp t.b_added_below (takes_of rfl rfl rfl rfl) (a_cons (o_v (e_var 0)) (a_cons (o_v (e_var 1)) (a_cons (o_v (e_var 3)) a_nil))))) (ss_cons (s_if (t_val (e_call (ok_has_any t) (hr.mono (by decide)) t.g_has_any t.F_has_any.kp t.b_has_any (takes_of rfl rfl rfl rfl) (a_cons (o_v (x_ix (o_s 2) (o_v (e_int)) (fun _ _ => rfl))) (a_cons (o_v (e_var 1)) a_nil)))) (ss_one (s_set 4 sc_added_entries.nd (x_add (o_s 4) (o_v (e_call (ok_lacked_by t) (hr.mono (by decide)) t.g_lacked_by t.F_lacked_by.kp t.b_lacked_by (takes_of rfl rfl rfl rfl) (a_cons (o_v (e_var 2)) (a_cons (o_v (e_int)) (a_cons (o_v (e_var 3)) a_nil)))))))) (ss_nil)) (ss_one (s_retV 4)))))))
theorem ok_fewest_added (t : Txt K mg) : GOk P w K mg base 8 t.a_fewest_added t.fd_fewest_added ["catalog", "page"] (spD K mg false 2 f_fewest_added) := by
  refine def_ok (k := 7) (N := N_fewest_added) (m := m_fewest_added) t.F_fewest_added sc_fewest_added (by decide) fun cdv A outer s H E hr => ?_
  exact ss_cons (s_expr (e_call (ok_check_catalog t) (hr.mono (by decide)) t.g_check_catalog t.F_check_catalog.kp t.b_check_catalog (takes_of rfl rfl rfl rfl) (a_cons (o_v (e_var 0)) a_nil))) (ss_cons (s_expr (e_call (ok_check_page t) (hr.mono (by decide)) t.g_check_page t.F_check_page.kp t.b_check_page (takes_of rfl rfl rfl rfl) (a_cons (o_v (e_var 0)) (a_cons (o_v (e_var 1)) a_nil)))) (ss_one (s_ret (x_len t.m_len (o_v (e_call (ok_added_entries t) (hr.mono (by decide)) t.g_added_entries t.F_added_entries.kp t.b_added_entries (takes_of rfl rfl rfl rfl) (a_cons (o_v (e_var 0)) (a_cons (o_v (e_var 1)) a_nil))))))))
theorem ok__law_pairs_of (t : Txt K mg) : GOk P w K mg base 1 t.a__law_pairs_of t.fd__law_pairs_of ["sheet"] (spD K mg false 1 f__law_pairs_of) := by
  refine def_ok (k := 0) (N := N__law_pairs_of) (m := m__law_pairs_of) t.F__law_pairs_of sc__law_pairs_of (by decide) fun cdv A outer s H E hr => ?_
  exact ss_cons (s_set 1 sc__law_pairs_of.nd (e_lst a_nil)) (ss_cons (s_for (passes_of rfl) rfl (it_rng1 (by rfl) t.m_range (a_cons (o_v (x_len t.m_len (o_s 0))) a_nil)) (g_name 2 sc__law_pairs_of.nd) (ss_one (s_augL 1 sc__law_pairs_of.nd (by exact (e_comp (by rfl) sc__law_pairs_of.nd (blkOk_by (own := [("slot", 3)]) (N := N__law_pairs_of) (sc := defScope (topS 61)) (by decide +kernel)) (by exact (it_seq (x_slice (o_s 0) (p_some (x_add (o_s 2) (o_v (e_int)))) p_none))) (fun _ _ _ _ _ => by exact (g_name 3 sc__law_pairs_of.nd)) (fun _ _ _ _ _ => by exact (e_tup (a_cons (o_v (x_ix (o_s 0) (o_s 2) (fun _ _ => rfl))) (a_cons (o_v (e_var 3)) a_nil))))))))) (ss_one (s_retV 1)))
theorem ok__law_less_pages_fit (t : Txt K mg) : GOk P w K mg base 9 t.a__law_less_pages_fit t.fd__law_less_pages_fit ["cat", "sheet"] (spD K mg false 2 f__law_less_pages_fit) := by
  refine def_ok (k := 8) (N := N__law_less_pages_fit) (m := m__law_less_pages_fit) t.F__law_less_pages_fit sc__law_less_pages_fit (by decide) fun cdv A outer s H E hr => ?_
  exact ss_cons (s_set 2 sc__law_less_pages_fit.nd (e_call (ok_fewest_added t) (hr.mono (by decide)) t.g_fewest_added t.F_fewest_added.kp t.b_fewest_added (takes_of rfl rfl rfl rfl) (a_cons (o_v (e_var 0)) (a_cons (o_v (e_var 1)) a_nil)))) (ss_cons (s_for (passes_of rfl) rfl (it_rng1 (by rfl) t.m_range (a_cons (o_v (x_len t.m_len (o_s 1))) a_nil)) (g_name 3 sc__law_less_pages_fit.nd) (ss_cons (s_set 4 sc__law_less_pages_fit.nd (x_add (o_v (x_slice (o_s 1) p_none (p_some (e_var 3)))) (o_v (x_slice (o_s 1) (p_some (x_add (o_s 3) (o_v (e_int)))) p_none)))) (ss_cons (s_if (t_w (w_and (y_gt (o_v (x_len t.m_len (o_s 4))) (o_v (e_int))) (w_and1 (t_not (t_chain op_le op_le pr_cmp pr_cmp (o_v (e_int)) (o_v (e_call (ok_fewest_added t) (hr.mono (by decide)) t.g_fewest_added t.F_fewest_added.kp t.b_fewest_added (takes_of rfl rfl rfl rfl) (a_cons (o_v (e_var 0)) (a_cons (o_v (e_var 4)) a_nil)))) (o_s 2)))))) (ss_one (s_ret (e_bl))) (ss_nil)) (ss_one (s_if (t_w (w_or (y_ne hr (o_v (e_call (ok_fewest_added t) (hr.mono (by decide)) t.g_fewest_added t.F_fewest_added.kp t.b_fewest_added (takes_of rfl rfl rfl rfl) (a_cons (o_v (e_var 0)) (a_cons (o_v (e_tup (a_cons (o_v (x_ix (o_s 1) (o_s 3) (fun _ _ => rfl))) a_nil))) a_nil)))) (o_v (e_int))) (w_or1 (y_notN (o_v (e_call (ok_mixing t) (hr.mono (by decide)) t.g_mixing t.F_mixing.kp t.b_mixing (takes_of rfl rfl rfl rfl) (a_cons (o_v (e_var 0)) (a_cons (o_v (e_tup (a_cons (o_v (x_ix (o_s 1) (o_s 3) (fun _ _ => rfl))) a_nil))) a_nil)))) (o_v (e_non)))))) (ss_one (s_ret (e_bl))) (ss_nil)))))) (ss_one (s_ret (e_bl))))
theorem ok_law (t : Txt K mg) : GOk P w K mg base 10 t.a_law t.fd_law ["script"] (spD K mg false 1 f_law) := by
  refine def_ok (k := 9) (N := N_law) (m := m_law) t.F_law sc_law (by decide) fun cdv A outer s H E hr => ?_
  exact ss_cons (s_set 1 sc_law.nd (e_int)) (ss_cons (s_for (passes_of rfl) rfl (it_seq (x_add (o_v (e_lst (a_cons (o_v (e_var 1)) a_nil))) (o_v (x_slice (o_s 0) p_none (p_some (e_int)))))) (g_name 2 sc_law.nd) (ss_cons (s_set 3 sc_law.nd (e_call (ok__law_digits t) (hr.mono (by decide)) t.g__law_digits t.F__law_digits.kp t.b__law_digits (takes_of rfl rfl rfl rfl) (a_cons (o_v (e_var 2)) a_nil))) (ss_cons (s_set 4 sc_law.nd (x_ix (o_v (e_lst (a_cons (o_v (e_str)) (a_cons (o_v (e_str)) a_nil)))) (o_v (e_callR 3 (ok__law_pick t) (hr.mono (by decide)) t.g__law_pick t.F__law_pick.kp t.b__law_pick (takes_of rfl rfl rfl rfl) (a_cons (o_v (e_int)) a_nil))) (fun _ _ => rfl))) (ss_cons (s_set 5 sc_law.nd (e_callR 3 (ok__law_make_catalog t) (hr.mono (by decide)) t.g__law_make_catalog t.F__law_make_catalog.kp t.b__law_make_catalog (takes_of rfl rfl rfl rfl) (a_cons (o_v (e_callR 3 (ok__law_make_tree t) (hr.mono (by decide)) t.g__law_make_tree t.F__law_make_tree.kp t.b__law_make_tree (takes_of rfl rfl rfl rfl) (a_cons (o_v (e_int)) (a_cons (o_v (e_int)) a_nil)))) (a_cons (o_v (e_var 4)) (a_cons (o_v (x_add (o_v (e_int)) (o_v (e_callR 3 (ok__law_pick t) (hr.mono (by decide)) t.g__law_pick t.F__law_pick.kp t.b__law_pick (takes_of rfl rfl rfl rfl) (a_cons (o_v (e_int)) a_nil))))) a_nil))))) (ss_cons (s_set 6 sc_law.nd (x_len t.m_len (o_v (x_ix (o_v (x_ix (o_s 5) (o_v (e_int)) (fun _ _ => rfl))) (o_v (e_int)) (fun _ _ => rfl))))) (ss_cons (s_set 7 sc_law.nd (x_tuple t.m_tuple (o_v (x_lstRg1 (by rfl) t.m_list t.m_range (o_s 6))))) (ss_cons (s_if (y_eq hr (o_v (e_callR 3 (ok__law_pick t) (hr.mono (by decide)) t.g__law_pick t.F__law_pick.kp t.b__law_pick (takes_of rfl rfl rfl rfl) (a_cons (o_v (e_int)) a_nil))) (o_v (e_int))) (ss_one (s_set 7 sc_law.nd (e_callR 3 (ok__law_draw_sheet t) (hr.mono (by decide)) t.g__law_draw_sheet t.F__law_draw_sheet.kp t.b__law_draw_sheet (takes_of rfl rfl rfl rfl) (a_cons (o_v (e_var 6)) a_nil)))) (ss_nil)) (ss_cons (s_set 8 sc_law.nd (e_callR 3 (ok__law_draw_wants t) (hr.mono (by decide)) t.g__law_draw_wants t.F__law_draw_wants.kp t.b__law_draw_wants (takes_of rfl rfl rfl rfl) (a_cons (o_v (x_len t.m_len (o_v (x_ix (o_s 5) (o_v (e_int)) (fun _ _ => rfl))))) (a_cons (o_v (e_int)) a_nil)))) (ss_cons (s_setComp 9 (by rfl) sc_law.nd (blkOk_by (own := [("pair", 16)]) (N := N_law) (sc := defScope (topS 63)) (by decide +kernel)) (by exact (it_seq (e_call (ok__law_pairs_of t) (hr.mono (by decide)) t.g__law_pairs_of t.F__law_pairs_of.kp t.b__law_pairs_of (takes_of rfl rfl rfl rfl) (a_cons (o_v (e_var 7)) a_nil)))) (fun _ _ _ _ _ => by exact (g_name 16 sc_law.nd)) (fun _ _ _ _ _ => by exact (e_call (ok_mixing t) (hr.mono (by decide)) t.g_mixing t.F_mixing.kp t.b_mixing takes0 (a_cons (o_v (e_var 5)) (a_cons (o_v (e_var 16)) a_nil)))) (sw_true rfl rfl rfl (by decide +kernel))) (ss_cons (s_setCompIf 10 (by rfl) sc_law.nd (blkOk_by (own := [("one", 17)]) (N := N_law) (sc := defScope (topS 63)) (by decide +kernel)) (by exact (it_seq (e_var 9))) (fun _ _ _ _ _ => by exact (g_name 17 sc_law.nd)) (fun _ _ _ _ _ => by exact (y_notN (o_s 17) (o_v (e_non)))) (fun _ _ _ _ _ => by exact (e_tup (a_cons (o_v (x_len t.m_len (o_s 17))) (a_cons (o_v (e_var 17)) a_nil)))) (sw_true rfl rfl rfl (by decide +kernel))) (ss_cons (s_set 11 sc_law.nd (e_if (y_eq hr (o_v (x_len t.m_len (o_s 10))) (o_v (e_int))) (e_non) (x_ix (o_v (x_minT hr (by rfl) t.m_min (o_s 10))) (o_v (e_int)) (fun _ _ => rfl)))) (ss_cons (s_if (t_w (w_or (y_ne hr (o_v (x_repr hr t.m_repr (o_v (e_call (ok_mixing t) (hr.mono (by decide)) t.g_mixing t.F_mixing.kp t.b_mixing (takes_of rfl rfl rfl rfl) (a_cons (o_v (e_var 5)) (a_cons (o_v (e_var 7)) a_nil)))))) (o_v (x_repr hr t.m_repr (o_s 11)))) (w_or1 (t_not (t_val (e_call (ok__law_less_pages_fit t) (hr.mono (by decide)) t.g__law_less_pages_fit t.F__law_less_pages_fit.kp t.b__law_less_pages_fit (takes_of rfl rfl rfl rfl) (a_cons (o_v (e_var 5)) (a_cons (o_v (e_var 7)) a_nil)))))))) (ss_one (s_ret (e_bl))) (ss_nil)) (ss_cons (s_if (y_ne hr (o_v (e_call (ok_mixes t) (hr.mono (by decide)) t.g_mixes t.F_mixes.kp t.b_mixes (takes_of rfl rfl rfl rfl) (a_cons (o_v (e_var 5)) (a_cons (o_v (e_var 8)) (a_cons (o_v (e_var 7)) a_nil))))) (o_v (x_in (by with_unfolding_all rfl) (o_v (e_bl)) (o_v (by exact (e_comp (by rfl) sc_law.nd (blkOk_by (own := [("pair", 16)]) (N := N_law) (sc := defScope (topS 63)) (by decide +kernel)) (by exact (it_seq (e_call (ok__law_pairs_of t) (hr.mono (by decide)) t.g__law_pairs_of t.F__law_pairs_of.kp t.b__law_pairs_of (takes_of rfl rfl rfl rfl) (a_cons (o_v (e_var 7)) a_nil)))) (fun _ _ _ _ _ => by exact (g_name 16 sc_law.nd)) (fun _ _ _ _ _ => by exact (e_call (ok_mixes t) (hr.mono (by decide)) t.g_mixes t.F_mixes.kp t.b_mixes takes0 (a_cons (o_v (e_var 5)) (a_cons (o_v (e_var 8)) (a_cons (o_v (e_var 16)) a_nil))))))))))) (ss_one (s_ret (e_bl))) (ss_nil)) (ss_cons (s_set 12 sc_law.nd (e_callR 3 (ok__law_pick t) (hr.mono (by decide)) t.g__law_pick t.F__law_pick.kp t.b__law_pick (takes_of rfl rfl rfl rfl) (a_cons (o_v (e_var 6)) a_nil))) (ss_cons (s_set 13 sc_law.nd (e_call (ok__law_moved_catalog t) (hr.mono (by decide)) t.g__law_moved_catalog t.F__law_moved_catalog.kp t.b__law_moved_catalog (takes_of rfl rfl rfl rfl) (a_cons (o_v (e_var 5)) (a_cons (o_v (e_var 12)) (a_cons (o_v (e_callR 3 (ok__law_pick t) (hr.mono (by decide)) t.g__law_pick t.F__law_pick.kp t.b__law_pick (takes_of rfl rfl rfl rfl) (a_cons (o_v (e_int)) a_nil))) a_nil))))) (ss_cons (s_set 14 sc_law.nd (x_tuple t.m_tuple (o_v (x_sorted t.m_sorted (o_v (by exact (e_comp (by rfl) sc_law.nd (blkOk_by (own := [("slot", 18)]) (N := N_law) (sc := defScope (topS 63)) (by decide +kernel)) (by exact (it_seq (e_var 7))) (fun _ _ _ _ _ => by exact (g_name 18 sc_law.nd)) (fun _ _ _ _ _ => by exact (x_mod (o_v (x_int t.m_int (o_v (x_sub (o_v (x_add (o_s 18) (o_s 6))) (o_s 12))))) (o_s 6)))))))))) (ss_cons (s_set 15 sc_law.nd (e_lst (a_cons (o_v (e_call (ok_mixing t) (hr.mono (by decide)) t.g_mixing t.F_mixing.kp t.b_mixing (takes_of rfl rfl rfl rfl) (a_cons (o_v (e_var 13)) (a_cons (o_v (e_var 14)) a_nil)))) (a_cons (o_v (e_call (ok_fewest_added t) (hr.mono (by decide)) t.g_fewest_added t.F_fewest_added.kp t.b_fewest_added (takes_of rfl rfl rfl rfl) (a_cons (o_v (e_var 13)) (a_cons (o_v (e_var 14)) a_nil)))) a_nil)))) (ss_one (s_if (y_ne hr (o_v (x_repr hr t.m_repr (o_s 15))) (o_v (x_repr hr t.m_repr (o_v (e_lst (a_cons (o_v (e_call (ok_mixing t) (hr.mono (by decide)) t.g_mixing t.F_mixing.kp t.b_mixing (takes_of rfl rfl rfl rfl) (a_cons (o_v (e_var 5)) (a_cons (o_v (e_var 7)) a_nil)))) (a_cons (o_v (e_call (ok_fewest_added t) (hr.mono (by decide)) t.g_fewest_added t.F_fewest_added.kp t.b_fewest_added (takes_of rfl rfl rfl rfl) (a_cons (o_v (e_var 5)) (a_cons (o_v (e_var 7)) a_nil)))) a_nil))))))) (ss_one (s_ret (e_bl))) (ss_nil)))))))))))))))))))) (ss_one (s_ret (e_bl))))
end
theorem all_mk {l : PySem.W.OpenLaw} {w : World} {K : PySem.W.Frag} {h : Heap} {mg : Str → Option Value} {fa : Addr} (X : K.In h) (G : h.Ns mainGlobals mg) (hfa : mg "law" = some (.ref fa))
    {f0 : Addr} {od0 an0 : Option Addr} {sl0 : Array (Option Value)} {oc0 kV0 dc0 pm0 cd0 ct0 : Value}
    {f1 : Addr} {od1 an1 : Option Addr} {sl1 : Array (Option Value)} {oc1 kV1 dc1 pm1 cd1 ct1 : Value}
    {f2 : Addr} {od2 an2 : Option Addr} {sl2 : Array (Option Value)} {oc2 kV2 dc2 pm2 cd2 ct2 : Value}
    {f3 : Addr} {od3 an3 : Option Addr} {sl3 : Array (Option Value)} {oc3 kV3 dc3 pm3 cd3 ct3 : Value}
    {f4 : Addr} {od4 an4 : Option Addr} {sl4 : Array (Option Value)} {oc4 kV4 dc4 pm4 cd4 ct4 : Value}
    {f5 : Addr} {od5 an5 : Option Addr} {sl5 : Array (Option Value)} {oc5 kV5 dc5 pm5 cd5 ct5 : Value}
    {f6 : Addr} {od6 an6 : Option Addr} {sl6 : Array (Option Value)} {oc6 kV6 dc6 pm6 cd6 ct6 : Value}
    {f7 : Addr} {od7 an7 : Option Addr} {sl7 : Array (Option Value)} {oc7 kV7 dc7 pm7 cd7 ct7 : Value}
    {f8 : Addr} {od8 an8 : Option Addr} {sl8 : Array (Option Value)} {oc8 kV8 dc8 pm8 cd8 ct8 : Value}
    {f9 : Addr} {od9 an9 : Option Addr} {sl9 : Array (Option Value)} {oc9 kV9 dc9 pm9 cd9 ct9 : Value}
    {f10 : Addr} {od10 an10 : Option Addr} {sl10 : Array (Option Value)} {oc10 kV10 dc10 pm10 cd10 ct10 : Value}
    {f11 : Addr} {od11 an11 : Option Addr} {sl11 : Array (Option Value)} {oc11 kV11 dc11 pm11 cd11 ct11 : Value}
    {f12 : Addr} {od12 an12 : Option Addr} {sl12 : Array (Option Value)} {oc12 kV12 dc12 pm12 cd12 ct12 : Value}
    {f13 : Addr} {od13 an13 : Option Addr} {sl13 : Array (Option Value)} {oc13 kV13 dc13 pm13 cd13 ct13 : Value}
    {f14 : Addr} {od14 an14 : Option Addr} {sl14 : Array (Option Value)} {oc14 kV14 dc14 pm14 cd14 ct14 : Value}
    {f15 : Addr} {od15 an15 : Option Addr} {sl15 : Array (Option Value)} {oc15 kV15 dc15 pm15 cd15 ct15 : Value}
    {f16 : Addr} {od16 an16 : Option Addr} {sl16 : Array (Option Value)} {oc16 kV16 dc16 pm16 cd16 ct16 : Value}
    {f17 : Addr} {od17 an17 : Option Addr} {sl17 : Array (Option Value)} {oc17 kV17 dc17 pm17 cd17 ct17 : Value}
    {f18 : Addr} {od18 an18 : Option Addr} {sl18 : Array (Option Value)} {oc18 kV18 dc18 pm18 cd18 ct18 : Value}
    {f19 : Addr} {od19 an19 : Option Addr} {sl19 : Array (Option Value)} {oc19 kV19 dc19 pm19 cd19 ct19 : Value}
    {f20 : Addr} {od20 an20 : Option Addr} {sl20 : Array (Option Value)} {oc20 kV20 dc20 pm20 cd20 ct20 : Value}
    {f21 : Addr} {od21 an21 : Option Addr} {sl21 : Array (Option Value)} {oc21 kV21 dc21 pm21 cd21 ct21 : Value}
    {f22 : Addr} {od22 an22 : Option Addr} {sl22 : Array (Option Value)} {oc22 kV22 dc22 pm22 cd22 ct22 : Value}
    {f23 : Addr} {od23 an23 : Option Addr} {sl23 : Array (Option Value)} {oc23 kV23 dc23 pm23 cd23 ct23 : Value}
    {f24 : Addr} {od24 an24 : Option Addr} {sl24 : Array (Option Value)} {oc24 kV24 dc24 pm24 cd24 ct24 : Value}
    {f25 : Addr} {od25 an25 : Option Addr} {sl25 : Array (Option Value)} {oc25 kV25 dc25 pm25 cd25 ct25 : Value}
    {f26 : Addr} {od26 an26 : Option Addr} {sl26 : Array (Option Value)} {oc26 kV26 dc26 pm26 cd26 ct26 : Value}
    {f27 : Addr} {od27 an27 : Option Addr} {sl27 : Array (Option Value)} {oc27 kV27 dc27 pm27 cd27 ct27 : Value}
    {f28 : Addr} {od28 an28 : Option Addr} {sl28 : Array (Option Value)} {oc28 kV28 dc28 pm28 cd28 ct28 : Value}
    {f29 : Addr} {od29 an29 : Option Addr} {sl29 : Array (Option Value)} {oc29 kV29 dc29 pm29 cd29 ct29 : Value}
    {f30 : Addr} {od30 an30 : Option Addr} {sl30 : Array (Option Value)} {oc30 kV30 dc30 pm30 cd30 ct30 : Value}
    {f31 : Addr} {od31 an31 : Option Addr} {sl31 : Array (Option Value)} {oc31 kV31 dc31 pm31 cd31 ct31 : Value}
    {f32 : Addr} {od32 an32 : Option Addr} {sl32 : Array (Option Value)} {oc32 kV32 dc32 pm32 cd32 ct32 : Value}
    {f33 : Addr} {od33 an33 : Option Addr} {sl33 : Array (Option Value)} {oc33 kV33 dc33 pm33 cd33 ct33 : Value}
    {f34 : Addr} {od34 an34 : Option Addr} {sl34 : Array (Option Value)} {oc34 kV34 dc34 pm34 cd34 ct34 : Value}
    {f35 : Addr} {od35 an35 : Option Addr} {sl35 : Array (Option Value)} {oc35 kV35 dc35 pm35 cd35 ct35 : Value}
    {f36 : Addr} {od36 an36 : Option Addr} {sl36 : Array (Option Value)} {oc36 kV36 dc36 pm36 cd36 ct36 : Value}
    {f37 : Addr} {od37 an37 : Option Addr} {sl37 : Array (Option Value)} {oc37 kV37 dc37 pm37 cd37 ct37 : Value}
    {f38 : Addr} {od38 an38 : Option Addr} {sl38 : Array (Option Value)} {oc38 kV38 dc38 pm38 cd38 ct38 : Value}
    {f39 : Addr} {od39 an39 : Option Addr} {sl39 : Array (Option Value)} {oc39 kV39 dc39 pm39 cd39 ct39 : Value}
    {f40 : Addr} {od40 an40 : Option Addr} {sl40 : Array (Option Value)} {oc40 kV40 dc40 pm40 cd40 ct40 : Value}
    {f41 : Addr} {od41 an41 : Option Addr} {sl41 : Array (Option Value)} {oc41 kV41 dc41 pm41 cd41 ct41 : Value}
    {f42 : Addr} {od42 an42 : Option Addr} {sl42 : Array (Option Value)} {oc42 kV42 dc42 pm42 cd42 ct42 : Value}
    {f43 : Addr} {od43 an43 : Option Addr} {sl43 : Array (Option Value)} {oc43 kV43 dc43 pm43 cd43 ct43 : Value}
    {f44 : Addr} {od44 an44 : Option Addr} {sl44 : Array (Option Value)} {oc44 kV44 dc44 pm44 cd44 ct44 : Value}
    {f45 : Addr} {od45 an45 : Option Addr} {sl45 : Array (Option Value)} {oc45 kV45 dc45 pm45 cd45 ct45 : Value}
    {f46 : Addr} {od46 an46 : Option Addr} {sl46 : Array (Option Value)} {oc46 kV46 dc46 pm46 cd46 ct46 : Value}
    {f47 : Addr} {od47 an47 : Option Addr} {sl47 : Array (Option Value)} {oc47 kV47 dc47 pm47 cd47 ct47 : Value}
    {tk_MOST_LOCALES : Tok}
    {tk_MOST_KEYS : Tok}
    {tk_LAST_TEXT : Tok}
    (a0 : PySem.W.nsIn K mainGlobals "_law_digits" = some (some (.ref f0))) (l0 : K.lookup f0 = some ⟨oc0, od0, .func (PySem.W.fnOf "_law_digits" "_law_digits" (defArgs (topS 54)) (defBody (topS 54)) (defScope (topS 54)) .none kV0 dc0 pm0 an0 cd0 ct0), sl0⟩) (c0 : PySem.W.codeIn K cd0 "_law_digits" = true) (k0 : PySem.W.keepIn K (.ref f0) = true)
    (a1 : PySem.W.nsIn K mainGlobals "_law_pick" = some (some (.ref f1))) (l1 : K.lookup f1 = some ⟨oc1, od1, .func (PySem.W.fnOf "_law_pick" "_law_pick" (defArgs (topS 55)) (defBody (topS 55)) (defScope (topS 55)) .none kV1 dc1 pm1 an1 cd1 ct1), sl1⟩) (c1 : PySem.W.codeIn K cd1 "_law_pick" = true) (k1 : PySem.W.keepIn K (.ref f1) = true)
    (a2 : PySem.W.nsIn K mainGlobals "_law_make_catalog" = some (some (.ref f2))) (l2 : K.lookup f2 = some ⟨oc2, od2, .func (PySem.W.fnOf "_law_make_catalog" "_law_make_catalog" (defArgs (topS 57)) (defBody (topS 57)) (defScope (topS 57)) .none kV2 dc2 pm2 an2 cd2 ct2), sl2⟩) (c2 : PySem.W.codeIn K cd2 "_law_make_catalog" = true) (k2 : PySem.W.keepIn K (.ref f2) = true)
    (a3 : PySem.W.nsIn K mainGlobals "_law_draw_wants" = some (some (.ref f3))) (l3 : K.lookup f3 = some ⟨oc3, od3, .func (PySem.W.fnOf "_law_draw_wants" "_law_draw_wants" (defArgs (topS 58)) (defBody (topS 58)) (defScope (topS 58)) .none kV3 dc3 pm3 an3 cd3 ct3), sl3⟩) (c3 : PySem.W.codeIn K cd3 "_law_draw_wants" = true) (k3 : PySem.W.keepIn K (.ref f3) = true)
    (a4 : PySem.W.nsIn K mainGlobals "_law_moved_catalog" = some (some (.ref f4))) (l4 : K.lookup f4 = some ⟨oc4, od4, .func (PySem.W.fnOf "_law_moved_catalog" "_law_moved_catalog" (defArgs (topS 60)) (defBody (topS 60)) (defScope (topS 60)) .none kV4 dc4 pm4 an4 cd4 ct4), sl4⟩) (c4 : PySem.W.codeIn K cd4 "_law_moved_catalog" = true) (k4 : PySem.W.keepIn K (.ref f4) = true)
    (a5 : PySem.W.nsIn K mainGlobals "_law_make_tree" = some (some (.ref f5))) (l5 : K.lookup f5 = some ⟨oc5, od5, .func (PySem.W.fnOf "_law_make_tree" "_law_make_tree" (defArgs (topS 56)) (defBody (topS 56)) (defScope (topS 56)) .none kV5 dc5 pm5 an5 cd5 ct5), sl5⟩) (c5 : PySem.W.codeIn K cd5 "_law_make_tree" = true) (k5 : PySem.W.keepIn K (.ref f5) = true)
    (a6 : PySem.W.nsIn K mainGlobals "_law_draw_sheet" = some (some (.ref f6))) (l6 : K.lookup f6 = some ⟨oc6, od6, .func (PySem.W.fnOf "_law_draw_sheet" "_law_draw_sheet" (defArgs (topS 59)) (defBody (topS 59)) (defScope (topS 59)) .none kV6 dc6 pm6 an6 cd6 ct6), sl6⟩) (c6 : PySem.W.codeIn K cd6 "_law_draw_sheet" = true) (k6 : PySem.W.keepIn K (.ref f6) = true)
    (a7 : PySem.W.nsIn K mainGlobals "is_tuple" = some (some (.ref f7))) (l7 : K.lookup f7 = some ⟨oc7, od7, .func (PySem.W.fnOf "is_tuple" "is_tuple" (defArgs (topS 6)) (defBody (topS 6)) (defScope (topS 6)) .none kV7 dc7 pm7 an7 cd7 ct7), sl7⟩) (c7 : PySem.W.codeIn K cd7 "is_tuple" = true) (k7 : PySem.W.keepIn K (.ref f7) = true)
    (a8 : PySem.W.nsIn K mainGlobals "is_integer_within" = some (some (.ref f8))) (l8 : K.lookup f8 = some ⟨oc8, od8, .func (PySem.W.fnOf "is_integer_within" "is_integer_within" (defArgs (topS 7)) (defBody (topS 7)) (defScope (topS 7)) .none kV8 dc8 pm8 an8 cd8 ct8), sl8⟩) (c8 : PySem.W.codeIn K cd8 "is_integer_within" = true) (k8 : PySem.W.keepIn K (.ref f8) = true)
    (a9 : PySem.W.nsIn K mainGlobals "is_tree" = some (some (.ref f9))) (l9 : K.lookup f9 = some ⟨oc9, od9, .func (PySem.W.fnOf "is_tree" "is_tree" (defArgs (topS 24)) (defBody (topS 24)) (defScope (topS 24)) .none kV9 dc9 pm9 an9 cd9 ct9), sl9⟩) (c9 : PySem.W.codeIn K cd9 "is_tree" = true) (k9 : PySem.W.keepIn K (.ref f9) = true)
    (a10 : PySem.W.nsIn K mainGlobals "is_way" = some (some (.ref f10))) (l10 : K.lookup f10 = some ⟨oc10, od10, .func (PySem.W.fnOf "is_way" "is_way" (defArgs (topS 29)) (defBody (topS 29)) (defScope (topS 29)) .none kV10 dc10 pm10 an10 cd10 ct10), sl10⟩) (c10 : PySem.W.codeIn K cd10 "is_way" = true) (k10 : PySem.W.keepIn K (.ref f10) = true)
    (a11 : PySem.W.nsIn K mainGlobals "is_text" = some (some (.ref f11))) (l11 : K.lookup f11 = some ⟨oc11, od11, .func (PySem.W.fnOf "is_text" "is_text" (defArgs (topS 30)) (defBody (topS 30)) (defScope (topS 30)) .none kV11 dc11 pm11 an11 cd11 ct11), sl11⟩) (c11 : PySem.W.codeIn K cd11 "is_text" = true) (k11 : PySem.W.keepIn K (.ref f11) = true)
    (a12 : PySem.W.nsIn K mainGlobals "is_text_or_none" = some (some (.ref f12))) (l12 : K.lookup f12 = some ⟨oc12, od12, .func (PySem.W.fnOf "is_text_or_none" "is_text_or_none" (defArgs (topS 31)) (defBody (topS 31)) (defScope (topS 31)) .none kV12 dc12 pm12 an12 cd12 ct12), sl12⟩) (c12 : PySem.W.codeIn K cd12 "is_text_or_none" = true) (k12 : PySem.W.keepIn K (.ref f12) = true)
    (a13 : PySem.W.nsIn K mainGlobals "is_row" = some (some (.ref f13))) (l13 : K.lookup f13 = some ⟨oc13, od13, .func (PySem.W.fnOf "is_row" "is_row" (defArgs (topS 32)) (defBody (topS 32)) (defScope (topS 32)) .none kV13 dc13 pm13 an13 cd13 ct13), sl13⟩) (c13 : PySem.W.codeIn K cd13 "is_row" = true) (k13 : PySem.W.keepIn K (.ref f13) = true)
    (a14 : PySem.W.nsIn K mainGlobals "are_rows" = some (some (.ref f14))) (l14 : K.lookup f14 = some ⟨oc14, od14, .func (PySem.W.fnOf "are_rows" "are_rows" (defArgs (topS 33)) (defBody (topS 33)) (defScope (topS 33)) .none kV14 dc14 pm14 an14 cd14 ct14), sl14⟩) (c14 : PySem.W.codeIn K cd14 "are_rows" = true) (k14 : PySem.W.keepIn K (.ref f14) = true)
    (a15 : PySem.W.nsIn K mainGlobals "is_catalog" = some (some (.ref f15))) (l15 : K.lookup f15 = some ⟨oc15, od15, .func (PySem.W.fnOf "is_catalog" "is_catalog" (defArgs (topS 34)) (defBody (topS 34)) (defScope (topS 34)) .none kV15 dc15 pm15 an15 cd15 ct15), sl15⟩) (c15 : PySem.W.codeIn K cd15 "is_catalog" = true) (k15 : PySem.W.keepIn K (.ref f15) = true)
    (a16 : PySem.W.nsIn K mainGlobals "check_catalog" = some (some (.ref f16))) (l16 : K.lookup f16 = some ⟨oc16, od16, .func (PySem.W.fnOf "check_catalog" "check_catalog" (defArgs (topS 35)) (defBody (topS 35)) (defScope (topS 35)) .none kV16 dc16 pm16 an16 cd16 ct16), sl16⟩) (c16 : PySem.W.codeIn K cd16 "check_catalog" = true) (k16 : PySem.W.keepIn K (.ref f16) = true)
    (a17 : PySem.W.nsIn K mainGlobals "is_ascending" = some (some (.ref f17))) (l17 : K.lookup f17 = some ⟨oc17, od17, .func (PySem.W.fnOf "is_ascending" "is_ascending" (defArgs (topS 8)) (defBody (topS 8)) (defScope (topS 8)) .none kV17 dc17 pm17 an17 cd17 ct17), sl17⟩) (c17 : PySem.W.codeIn K cd17 "is_ascending" = true) (k17 : PySem.W.keepIn K (.ref f17) = true)
    (a18 : PySem.W.nsIn K mainGlobals "is_page" = some (some (.ref f18))) (l18 : K.lookup f18 = some ⟨oc18, od18, .func (PySem.W.fnOf "is_page" "is_page" (defArgs (topS 38)) (defBody (topS 38)) (defScope (topS 38)) .none kV18 dc18 pm18 an18 cd18 ct18), sl18⟩) (c18 : PySem.W.codeIn K cd18 "is_page" = true) (k18 : PySem.W.keepIn K (.ref f18) = true)
    (a19 : PySem.W.nsIn K mainGlobals "count_keys" = some (some (.ref f19))) (l19 : K.lookup f19 = some ⟨oc19, od19, .func (PySem.W.fnOf "count_keys" "count_keys" (defArgs (topS 36)) (defBody (topS 36)) (defScope (topS 36)) .none kV19 dc19 pm19 an19 cd19 ct19), sl19⟩) (c19 : PySem.W.codeIn K cd19 "count_keys" = true) (k19 : PySem.W.keepIn K (.ref f19) = true)
    (a20 : PySem.W.nsIn K mainGlobals "check_page" = some (some (.ref f20))) (l20 : K.lookup f20 = some ⟨oc20, od20, .func (PySem.W.fnOf "check_page" "check_page" (defArgs (topS 49)) (defBody (topS 49)) (defScope (topS 49)) .none kV20 dc20 pm20 an20 cd20 ct20), sl20⟩) (c20 : PySem.W.codeIn K cd20 "check_page" = true) (k20 : PySem.W.keepIn K (.ref f20) = true)
    (a21 : PySem.W.nsIn K mainGlobals "path_of" = some (some (.ref f21))) (l21 : K.lookup f21 = some ⟨oc21, od21, .func (PySem.W.fnOf "path_of" "path_of" (defArgs (topS 12)) (defBody (topS 12)) (defScope (topS 12)) .none kV21 dc21 pm21 an21 cd21 ct21), sl21⟩) (c21 : PySem.W.codeIn K cd21 "path_of" = true) (k21 : PySem.W.keepIn K (.ref f21) = true)
    (a22 : PySem.W.nsIn K mainGlobals "passed_by" = some (some (.ref f22))) (l22 : K.lookup f22 = some ⟨oc22, od22, .func (PySem.W.fnOf "passed_by" "passed_by" (defArgs (topS 13)) (defBody (topS 13)) (defScope (topS 13)) .none kV22 dc22 pm22 an22 cd22 ct22), sl22⟩) (c22 : PySem.W.codeIn K cd22 "passed_by" = true) (k22 : PySem.W.keepIn K (.ref f22) = true)
    (a23 : PySem.W.nsIn K mainGlobals "longer" = some (some (.ref f23))) (l23 : K.lookup f23 = some ⟨oc23, od23, .func (PySem.W.fnOf "longer" "longer" (defArgs (topS 15)) (defBody (topS 15)) (defScope (topS 15)) .none kV23 dc23 pm23 an23 cd23 ct23), sl23⟩) (c23 : PySem.W.codeIn K cd23 "longer" = true) (k23 : PySem.W.keepIn K (.ref f23) = true)
    (a24 : PySem.W.nsIn K mainGlobals "short_lists" = some (some (.ref f24))) (l24 : K.lookup f24 = some ⟨oc24, od24, .func (PySem.W.fnOf "short_lists" "short_lists" (defArgs (topS 16)) (defBody (topS 16)) (defScope (topS 16)) .none kV24 dc24 pm24 an24 cd24 ct24), sl24⟩) (c24 : PySem.W.codeIn K cd24 "short_lists" = true) (k24 : PySem.W.keepIn K (.ref f24) = true)
    (a25 : PySem.W.nsIn K mainGlobals "skips" = some (some (.ref f25))) (l25 : K.lookup f25 = some ⟨oc25, od25, .func (PySem.W.fnOf "skips" "skips" (defArgs (topS 19)) (defBody (topS 19)) (defScope (topS 19)) .none kV25 dc25 pm25 an25 cd25 ct25), sl25⟩) (c25 : PySem.W.codeIn K cd25 "skips" = true) (k25 : PySem.W.keepIn K (.ref f25) = true)
    (a26 : PySem.W.nsIn K mainGlobals "chosen_of" = some (some (.ref f26))) (l26 : K.lookup f26 = some ⟨oc26, od26, .func (PySem.W.fnOf "chosen_of" "chosen_of" (defArgs (topS 20)) (defBody (topS 20)) (defScope (topS 20)) .none kV26 dc26 pm26 an26 cd26 ct26), sl26⟩) (c26 : PySem.W.codeIn K cd26 "chosen_of" = true) (k26 : PySem.W.keepIn K (.ref f26) = true)
    (a27 : PySem.W.nsIn K mainGlobals "looked_of" = some (some (.ref f27))) (l27 : K.lookup f27 = some ⟨oc27, od27, .func (PySem.W.fnOf "looked_of" "looked_of" (defArgs (topS 14)) (defBody (topS 14)) (defScope (topS 14)) .none kV27 dc27 pm27 an27 cd27 ct27), sl27⟩) (c27 : PySem.W.codeIn K cd27 "looked_of" = true) (k27 : PySem.W.keepIn K (.ref f27) = true)
    (a28 : PySem.W.nsIn K mainGlobals "sought" = some (some (.ref f28))) (l28 : K.lookup f28 = some ⟨oc28, od28, .func (PySem.W.fnOf "sought" "sought" (defArgs (topS 21)) (defBody (topS 21)) (defScope (topS 21)) .none kV28 dc28 pm28 an28 cd28 ct28), sl28⟩) (c28 : PySem.W.codeIn K cd28 "sought" = true) (k28 : PySem.W.keepIn K (.ref f28) = true)
    (a29 : PySem.W.nsIn K mainGlobals "first_place" = some (some (.ref f29))) (l29 : K.lookup f29 = some ⟨oc29, od29, .func (PySem.W.fnOf "first_place" "first_place" (defArgs (topS 18)) (defBody (topS 18)) (defScope (topS 18)) .none kV29 dc29 pm29 an29 cd29 ct29), sl29⟩) (c29 : PySem.W.codeIn K cd29 "first_place" = true) (k29 : PySem.W.keepIn K (.ref f29) = true)
    (a30 : PySem.W.nsIn K mainGlobals "tongue_of" = some (some (.ref f30))) (l30 : K.lookup f30 = some ⟨oc30, od30, .func (PySem.W.fnOf "tongue_of" "tongue_of" (defArgs (topS 39)) (defBody (topS 39)) (defScope (topS 39)) .none kV30 dc30 pm30 an30 cd30 ct30), sl30⟩) (c30 : PySem.W.codeIn K cd30 "tongue_of" = true) (k30 : PySem.W.keepIn K (.ref f30) = true)
    (a31 : PySem.W.nsIn K mainGlobals "mixes_page" = some (some (.ref f31))) (l31 : K.lookup f31 = some ⟨oc31, od31, .func (PySem.W.fnOf "mixes_page" "mixes_page" (defArgs (topS 40)) (defBody (topS 40)) (defScope (topS 40)) .none kV31 dc31 pm31 an31 cd31 ct31), sl31⟩) (c31 : PySem.W.codeIn K cd31 "mixes_page" = true) (k31 : PySem.W.keepIn K (.ref f31) = true)
    (a32 : PySem.W.nsIn K mainGlobals "first_mixing" = some (some (.ref f32))) (l32 : K.lookup f32 = some ⟨oc32, od32, .func (PySem.W.fnOf "first_mixing" "first_mixing" (defArgs (topS 41)) (defBody (topS 41)) (defScope (topS 41)) .none kV32 dc32 pm32 an32 cd32 ct32), sl32⟩) (c32 : PySem.W.codeIn K cd32 "first_mixing" = true) (k32 : PySem.W.keepIn K (.ref f32) = true)
    (a33 : PySem.W.nsIn K mainGlobals "mixing" = some (some (.ref f33))) (l33 : K.lookup f33 = some ⟨oc33, od33, .func (PySem.W.fnOf "mixing" "mixing" (defArgs (topS 51)) (defBody (topS 51)) (defScope (topS 51)) .none kV33 dc33 pm33 an33 cd33 ct33), sl33⟩) (c33 : PySem.W.codeIn K cd33 "mixing" = true) (k33 : PySem.W.keepIn K (.ref f33) = true)
    (a34 : PySem.W.nsIn K mainGlobals "has_locale" = some (some (.ref f34))) (l34 : K.lookup f34 = some ⟨oc34, od34, .func (PySem.W.fnOf "has_locale" "has_locale" (defArgs (topS 10)) (defBody (topS 10)) (defScope (topS 10)) .none kV34 dc34 pm34 an34 cd34 ct34), sl34⟩) (c34 : PySem.W.codeIn K cd34 "has_locale" = true) (k34 : PySem.W.keepIn K (.ref f34) = true)
    (a35 : PySem.W.nsIn K mainGlobals "has_wishes" = some (some (.ref f35))) (l35 : K.lookup f35 = some ⟨oc35, od35, .func (PySem.W.fnOf "has_wishes" "has_wishes" (defArgs (topS 11)) (defBody (topS 11)) (defScope (topS 11)) .none kV35 dc35 pm35 an35 cd35 ct35), sl35⟩) (c35 : PySem.W.codeIn K cd35 "has_wishes" = true) (k35 : PySem.W.keepIn K (.ref f35) = true)
    (a36 : PySem.W.nsIn K mainGlobals "check_wishes" = some (some (.ref f36))) (l36 : K.lookup f36 = some ⟨oc36, od36, .func (PySem.W.fnOf "check_wishes" "check_wishes" (defArgs (topS 25)) (defBody (topS 25)) (defScope (topS 25)) .none kV36 dc36 pm36 an36 cd36 ct36), sl36⟩) (c36 : PySem.W.codeIn K cd36 "check_wishes" = true) (k36 : PySem.W.keepIn K (.ref f36) = true)
    (a37 : PySem.W.nsIn K mainGlobals "mixes" = some (some (.ref f37))) (l37 : K.lookup f37 = some ⟨oc37, od37, .func (PySem.W.fnOf "mixes" "mixes" (defArgs (topS 50)) (defBody (topS 50)) (defScope (topS 50)) .none kV37 dc37 pm37 an37 cd37 ct37), sl37⟩) (c37 : PySem.W.codeIn K cd37 "mixes" = true) (k37 : PySem.W.keepIn K (.ref f37) = true)
    (a38 : PySem.W.nsIn K mainGlobals "keys_to_have" = some (some (.ref f38))) (l38 : K.lookup f38 = some ⟨oc38, od38, .func (PySem.W.fnOf "keys_to_have" "keys_to_have" (defArgs (topS 43)) (defBody (topS 43)) (defScope (topS 43)) .none kV38 dc38 pm38 an38 cd38 ct38), sl38⟩) (c38 : PySem.W.codeIn K cd38 "keys_to_have" = true) (k38 : PySem.W.keepIn K (.ref f38) = true)
    (a39 : PySem.W.nsIn K mainGlobals "has_any" = some (some (.ref f39))) (l39 : K.lookup f39 = some ⟨oc39, od39, .func (PySem.W.fnOf "has_any" "has_any" (defArgs (topS 42)) (defBody (topS 42)) (defScope (topS 42)) .none kV39 dc39 pm39 an39 cd39 ct39), sl39⟩) (c39 : PySem.W.codeIn K cd39 "has_any" = true) (k39 : PySem.W.keepIn K (.ref f39) = true)
    (a40 : PySem.W.nsIn K mainGlobals "is_in_one_tongue" = some (some (.ref f40))) (l40 : K.lookup f40 = some ⟨oc40, od40, .func (PySem.W.fnOf "is_in_one_tongue" "is_in_one_tongue" (defArgs (topS 44)) (defBody (topS 44)) (defScope (topS 44)) .none kV40 dc40 pm40 an40 cd40 ct40), sl40⟩) (c40 : PySem.W.codeIn K cd40 "is_in_one_tongue" = true) (k40 : PySem.W.keepIn K (.ref f40) = true)
    (a41 : PySem.W.nsIn K mainGlobals "lacked_by" = some (some (.ref f41))) (l41 : K.lookup f41 = some ⟨oc41, od41, .func (PySem.W.fnOf "lacked_by" "lacked_by" (defArgs (topS 45)) (defBody (topS 45)) (defScope (topS 45)) .none kV41 dc41 pm41 an41 cd41 ct41), sl41⟩) (c41 : PySem.W.codeIn K cd41 "lacked_by" = true) (k41 : PySem.W.keepIn K (.ref f41) = true)
    (a42 : PySem.W.nsIn K mainGlobals "added_below" = some (some (.ref f42))) (l42 : K.lookup f42 = some ⟨oc42, od42, .func (PySem.W.fnOf "added_below" "added_below" (defArgs (topS 46)) (defBody (topS 46)) (defScope (topS 46)) .none kV42 dc42 pm42 an42 cd42 ct42), sl42⟩) (c42 : PySem.W.codeIn K cd42 "added_below" = true) (k42 : PySem.W.keepIn K (.ref f42) = true)
    (a43 : PySem.W.nsIn K mainGlobals "added_entries" = some (some (.ref f43))) (l43 : K.lookup f43 = some ⟨oc43, od43, .func (PySem.W.fnOf "added_entries" "added_entries" (defArgs (topS 47)) (defBody (topS 47)) (defScope (topS 47)) .none kV43 dc43 pm43 an43 cd43 ct43), sl43⟩) (c43 : PySem.W.codeIn K cd43 "added_entries" = true) (k43 : PySem.W.keepIn K (.ref f43) = true)
    (a44 : PySem.W.nsIn K mainGlobals "fewest_added" = some (some (.ref f44))) (l44 : K.lookup f44 = some ⟨oc44, od44, .func (PySem.W.fnOf "fewest_added" "fewest_added" (defArgs (topS 52)) (defBody (topS 52)) (defScope (topS 52)) .none kV44 dc44 pm44 an44 cd44 ct44), sl44⟩) (c44 : PySem.W.codeIn K cd44 "fewest_added" = true) (k44 : PySem.W.keepIn K (.ref f44) = true)
    (a45 : PySem.W.nsIn K mainGlobals "_law_pairs_of" = some (some (.ref f45))) (l45 : K.lookup f45 = some ⟨oc45, od45, .func (PySem.W.fnOf "_law_pairs_of" "_law_pairs_of" (defArgs (topS 61)) (defBody (topS 61)) (defScope (topS 61)) .none kV45 dc45 pm45 an45 cd45 ct45), sl45⟩) (c45 : PySem.W.codeIn K cd45 "_law_pairs_of" = true) (k45 : PySem.W.keepIn K (.ref f45) = true)
    (a46 : PySem.W.nsIn K mainGlobals "_law_less_pages_fit" = some (some (.ref f46))) (l46 : K.lookup f46 = some ⟨oc46, od46, .func (PySem.W.fnOf "_law_less_pages_fit" "_law_less_pages_fit" (defArgs (topS 62)) (defBody (topS 62)) (defScope (topS 62)) .none kV46 dc46 pm46 an46 cd46 ct46), sl46⟩) (c46 : PySem.W.codeIn K cd46 "_law_less_pages_fit" = true) (k46 : PySem.W.keepIn K (.ref f46) = true)
    (a47 : PySem.W.nsIn K mainGlobals "law" = some (some (.ref f47))) (l47 : K.lookup f47 = some ⟨oc47, od47, .func (PySem.W.fnOf "law" "law" (defArgs (topS 63)) (defBody (topS 63)) (defScope (topS 63)) .none kV47 dc47 pm47 an47 cd47 ct47), sl47⟩) (c47 : PySem.W.codeIn K cd47 "law" = true) (k47 : PySem.W.keepIn K (.ref f47) = true)
    (z_abs : PySem.W.nsIn K mainGlobals "abs" = some none)
    (z_all : PySem.W.nsIn K mainGlobals "all" = some none)
    (z_any : PySem.W.nsIn K mainGlobals "any" = some none)
    (z_bool : PySem.W.nsIn K mainGlobals "bool" = some none)
    (z_enumerate : PySem.W.nsIn K mainGlobals "enumerate" = some none)
    (z_int : PySem.W.nsIn K mainGlobals "int" = some none)
    (z_isinstance : PySem.W.nsIn K mainGlobals "isinstance" = some none)
    (z_len : PySem.W.nsIn K mainGlobals "len" = some none)
    (z_list : PySem.W.nsIn K mainGlobals "list" = some none)
    (z_max : PySem.W.nsIn K mainGlobals "max" = some none)
    (z_min : PySem.W.nsIn K mainGlobals "min" = some none)
    (z_range : PySem.W.nsIn K mainGlobals "range" = some none)
    (z_repr : PySem.W.nsIn K mainGlobals "repr" = some none)
    (z_sorted : PySem.W.nsIn K mainGlobals "sorted" = some none)
    (z_str : PySem.W.nsIn K mainGlobals "str" = some none)
    (z_tuple : PySem.W.nsIn K mainGlobals "tuple" = some none)
    (z_type : PySem.W.nsIn K mainGlobals "type" = some none)
    (z_zip : PySem.W.nsIn K mainGlobals "zip" = some none)
    (v_MOST_LOCALES : PySem.W.nsIn K mainGlobals "MOST_LOCALES" = some (some (.int (10) tk_MOST_LOCALES)))
    (v_MOST_KEYS : PySem.W.nsIn K mainGlobals "MOST_KEYS" = some (some (.int (4) tk_MOST_KEYS)))
    (v_LAST_TEXT : PySem.W.nsIn K mainGlobals "LAST_TEXT" = some (some (.int (9) tk_LAST_TEXT))) :
    ∃ fd : FuncData, (∀ (s : Shared) (v : Value), BindsTo s fd ⟨[v], []⟩ [("script", v)]) ∧ ∀ base : Heap, K.In base → base.Ns mainGlobals mg → GOk l.prog w K mg base 10 fa fd ["script"] (spD K mg false 1 f_law) := by
  let t : Txt K mg := {
    a__law_digits := f0
    fd__law_digits := PySem.W.fnOf "_law_digits" "_law_digits" (defArgs (topS 54)) (defBody (topS 54)) (defScope (topS 54)) .none kV0 dc0 pm0 an0 cd0 ct0
    F__law_digits := L2Fun.v (fun_mk (st := topS 54) l0 c0 k0)
    g__law_digits := PySem.W.mg_of X G a0
    b__law_digits := (fun_mk (st := topS 54) l0 c0 k0).binds (ps := ["cell"]) (fun _ _ _ _ _ _ us hl => match us, hl with | [_], _ => rfl)
    a__law_pick := f1
    fd__law_pick := PySem.W.fnOf "_law_pick" "_law_pick" (defArgs (topS 55)) (defBody (topS 55)) (defScope (topS 55)) .none kV1 dc1 pm1 an1 cd1 ct1
    F__law_pick := L2Fun.v (fun_mk (st := topS 55) l1 c1 k1)
    g__law_pick := PySem.W.mg_of X G a1
    b__law_pick := (fun_mk (st := topS 55) l1 c1 k1).binds (ps := ["bag", "much"]) (fun _ _ _ _ _ _ us hl => match us, hl with | [_, _], _ => rfl)
    a__law_make_catalog := f2
    fd__law_make_catalog := PySem.W.fnOf "_law_make_catalog" "_law_make_catalog" (defArgs (topS 57)) (defBody (topS 57)) (defScope (topS 57)) .none kV2 dc2 pm2 an2 cd2 ct2
    F__law_make_catalog := L2Fun.v (fun_mk (st := topS 57) l2 c2 k2)
    g__law_make_catalog := PySem.W.mg_of X G a2
    b__law_make_catalog := (fun_mk (st := topS 57) l2 c2 k2).binds (ps := ["bag", "stem", "mode", "width"]) (fun _ _ _ _ _ _ us hl => match us, hl with | [_, _, _, _], _ => rfl)
    a__law_draw_wants := f3
    fd__law_draw_wants := PySem.W.fnOf "_law_draw_wants" "_law_draw_wants" (defArgs (topS 58)) (defBody (topS 58)) (defScope (topS 58)) .none kV3 dc3 pm3 an3 cd3 ct3
    F__law_draw_wants := L2Fun.v (fun_mk (st := topS 58) l3 c3 k3)
    g__law_draw_wants := PySem.W.mg_of X G a3
    b__law_draw_wants := (fun_mk (st := topS 58) l3 c3 k3).binds (ps := ["bag", "size", "longest"]) (fun _ _ _ _ _ _ us hl => match us, hl with | [_, _, _], _ => rfl)
    a__law_moved_catalog := f4
    fd__law_moved_catalog := PySem.W.fnOf "_law_moved_catalog" "_law_moved_catalog" (defArgs (topS 60)) (defBody (topS 60)) (defScope (topS 60)) .none kV4 dc4 pm4 an4 cd4 ct4
    F__law_moved_catalog := L2Fun.v (fun_mk (st := topS 60) l4 c4 k4)
    g__law_moved_catalog := PySem.W.mg_of X G a4
    b__law_moved_catalog := (fun_mk (st := topS 60) l4 c4 k4).binds (ps := ["cat", "step", "more"]) (fun _ _ _ _ _ _ us hl => match us, hl with | [_, _, _], _ => rfl)
    a__law_make_tree := f5
    fd__law_make_tree := PySem.W.fnOf "_law_make_tree" "_law_make_tree" (defArgs (topS 56)) (defBody (topS 56)) (defScope (topS 56)) .none kV5 dc5 pm5 an5 cd5 ct5
    F__law_make_tree := L2Fun.v (fun_mk (st := topS 56) l5 c5 k5)
    g__law_make_tree := PySem.W.mg_of X G a5
    b__law_make_tree := (fun_mk (st := topS 56) l5 c5 k5).binds (ps := ["bag", "fewest", "upto"]) (fun _ _ _ _ _ _ us hl => match us, hl with | [_, _, _], _ => rfl)
    a__law_draw_sheet := f6
    fd__law_draw_sheet := PySem.W.fnOf "_law_draw_sheet" "_law_draw_sheet" (defArgs (topS 59)) (defBody (topS 59)) (defScope (topS 59)) .none kV6 dc6 pm6 an6 cd6 ct6
    F__law_draw_sheet := L2Fun.v (fun_mk (st := topS 59) l6 c6 k6)
    g__law_draw_sheet := PySem.W.mg_of X G a6
    b__law_draw_sheet := (fun_mk (st := topS 59) l6 c6 k6).binds (ps := ["bag", "width"]) (fun _ _ _ _ _ _ us hl => match us, hl with | [_, _], _ => rfl)
    a_is_tuple := f7
    fd_is_tuple := PySem.W.fnOf "is_tuple" "is_tuple" (defArgs (topS 6)) (defBody (topS 6)) (defScope (topS 6)) .none kV7 dc7 pm7 an7 cd7 ct7
    F_is_tuple := L2Fun.v (fun_mk (st := topS 6) l7 c7 k7)
    g_is_tuple := PySem.W.mg_of X G a7
    b_is_tuple := (fun_mk (st := topS 6) l7 c7 k7).binds (ps := ["value"]) (fun _ _ _ _ _ _ us hl => match us, hl with | [_], _ => rfl)
    a_is_integer_within := f8
    fd_is_integer_within := PySem.W.fnOf "is_integer_within" "is_integer_within" (defArgs (topS 7)) (defBody (topS 7)) (defScope (topS 7)) .none kV8 dc8 pm8 an8 cd8 ct8
    F_is_integer_within := L2Fun.v (fun_mk (st := topS 7) l8 c8 k8)
    g_is_integer_within := PySem.W.mg_of X G a8
    b_is_integer_within := (fun_mk (st := topS 7) l8 c8 k8).binds (ps := ["value", "low", "high"]) (fun _ _ _ _ _ _ us hl => match us, hl with | [_, _, _], _ => rfl)
    a_is_tree := f9
    fd_is_tree := PySem.W.fnOf "is_tree" "is_tree" (defArgs (topS 24)) (defBody (topS 24)) (defScope (topS 24)) .none kV9 dc9 pm9 an9 cd9 ct9
    F_is_tree := L2Fun.v (fun_mk (st := topS 24) l9 c9 k9)
    g_is_tree := PySem.W.mg_of X G a9
    b_is_tree := (fun_mk (st := topS 24) l9 c9 k9).binds (ps := ["value"]) (fun _ _ _ _ _ _ us hl => match us, hl with | [_], _ => rfl)
    a_is_way := f10
    fd_is_way := PySem.W.fnOf "is_way" "is_way" (defArgs (topS 29)) (defBody (topS 29)) (defScope (topS 29)) .none kV10 dc10 pm10 an10 cd10 ct10
    F_is_way := L2Fun.v (fun_mk (st := topS 29) l10 c10 k10)
    g_is_way := PySem.W.mg_of X G a10
    b_is_way := (fun_mk (st := topS 29) l10 c10 k10).binds (ps := ["value"]) (fun _ _ _ _ _ _ us hl => match us, hl with | [_], _ => rfl)
    a_is_text := f11
    fd_is_text := PySem.W.fnOf "is_text" "is_text" (defArgs (topS 30)) (defBody (topS 30)) (defScope (topS 30)) .none kV11 dc11 pm11 an11 cd11 ct11
    F_is_text := L2Fun.v (fun_mk (st := topS 30) l11 c11 k11)
    g_is_text := PySem.W.mg_of X G a11
    b_is_text := (fun_mk (st := topS 30) l11 c11 k11).binds (ps := ["value"]) (fun _ _ _ _ _ _ us hl => match us, hl with | [_], _ => rfl)
    a_is_text_or_none := f12
    fd_is_text_or_none := PySem.W.fnOf "is_text_or_none" "is_text_or_none" (defArgs (topS 31)) (defBody (topS 31)) (defScope (topS 31)) .none kV12 dc12 pm12 an12 cd12 ct12
    F_is_text_or_none := L2Fun.v (fun_mk (st := topS 31) l12 c12 k12)
    g_is_text_or_none := PySem.W.mg_of X G a12
    b_is_text_or_none := (fun_mk (st := topS 31) l12 c12 k12).binds (ps := ["value"]) (fun _ _ _ _ _ _ us hl => match us, hl with | [_], _ => rfl)
    a_is_row := f13
    fd_is_row := PySem.W.fnOf "is_row" "is_row" (defArgs (topS 32)) (defBody (topS 32)) (defScope (topS 32)) .none kV13 dc13 pm13 an13 cd13 ct13
    F_is_row := L2Fun.v (fun_mk (st := topS 32) l13 c13 k13)
    g_is_row := PySem.W.mg_of X G a13
    b_is_row := (fun_mk (st := topS 32) l13 c13 k13).binds (ps := ["value"]) (fun _ _ _ _ _ _ us hl => match us, hl with | [_], _ => rfl)
    a_are_rows := f14
    fd_are_rows := PySem.W.fnOf "are_rows" "are_rows" (defArgs (topS 33)) (defBody (topS 33)) (defScope (topS 33)) .none kV14 dc14 pm14 an14 cd14 ct14
    F_are_rows := L2Fun.v (fun_mk (st := topS 33) l14 c14 k14)
    g_are_rows := PySem.W.mg_of X G a14
    b_are_rows := (fun_mk (st := topS 33) l14 c14 k14).binds (ps := ["value", "many"]) (fun _ _ _ _ _ _ us hl => match us, hl with | [_, _], _ => rfl)
    a_is_catalog := f15
    fd_is_catalog := PySem.W.fnOf "is_catalog" "is_catalog" (defArgs (topS 34)) (defBody (topS 34)) (defScope (topS 34)) .none kV15 dc15 pm15 an15 cd15 ct15
    F_is_catalog := L2Fun.v (fun_mk (st := topS 34) l15 c15 k15)
    g_is_catalog := PySem.W.mg_of X G a15
    b_is_catalog := (fun_mk (st := topS 34) l15 c15 k15).binds (ps := ["value"]) (fun _ _ _ _ _ _ us hl => match us, hl with | [_], _ => rfl)
    a_check_catalog := f16
    fd_check_catalog := PySem.W.fnOf "check_catalog" "check_catalog" (defArgs (topS 35)) (defBody (topS 35)) (defScope (topS 35)) .none kV16 dc16 pm16 an16 cd16 ct16
    F_check_catalog := L2Fun.v (fun_mk (st := topS 35) l16 c16 k16)
    g_check_catalog := PySem.W.mg_of X G a16
    b_check_catalog := (fun_mk (st := topS 35) l16 c16 k16).binds (ps := ["catalog"]) (fun _ _ _ _ _ _ us hl => match us, hl with | [_], _ => rfl)
    a_is_ascending := f17
    fd_is_ascending := PySem.W.fnOf "is_ascending" "is_ascending" (defArgs (topS 8)) (defBody (topS 8)) (defScope (topS 8)) .none kV17 dc17 pm17 an17 cd17 ct17
    F_is_ascending := L2Fun.v (fun_mk (st := topS 8) l17 c17 k17)
    g_is_ascending := PySem.W.mg_of X G a17
    b_is_ascending := (fun_mk (st := topS 8) l17 c17 k17).binds (ps := ["values"]) (fun _ _ _ _ _ _ us hl => match us, hl with | [_], _ => rfl)
    a_is_page := f18
    fd_is_page := PySem.W.fnOf "is_page" "is_page" (defArgs (topS 38)) (defBody (topS 38)) (defScope (topS 38)) .none kV18 dc18 pm18 an18 cd18 ct18
    F_is_page := L2Fun.v (fun_mk (st := topS 38) l18 c18 k18)
    g_is_page := PySem.W.mg_of X G a18
    b_is_page := (fun_mk (st := topS 38) l18 c18 k18).binds (ps := ["many", "value"]) (fun _ _ _ _ _ _ us hl => match us, hl with | [_, _], _ => rfl)
    a_count_keys := f19
    fd_count_keys := PySem.W.fnOf "count_keys" "count_keys" (defArgs (topS 36)) (defBody (topS 36)) (defScope (topS 36)) .none kV19 dc19 pm19 an19 cd19 ct19
    F_count_keys := L2Fun.v (fun_mk (st := topS 36) l19 c19 k19)
    g_count_keys := PySem.W.mg_of X G a19
    b_count_keys := (fun_mk (st := topS 36) l19 c19 k19).binds (ps := ["catalog"]) (fun _ _ _ _ _ _ us hl => match us, hl with | [_], _ => rfl)
    a_check_page := f20
    fd_check_page := PySem.W.fnOf "check_page" "check_page" (defArgs (topS 49)) (defBody (topS 49)) (defScope (topS 49)) .none kV20 dc20 pm20 an20 cd20 ct20
    F_check_page := L2Fun.v (fun_mk (st := topS 49) l20 c20 k20)
    g_check_page := PySem.W.mg_of X G a20
    b_check_page := (fun_mk (st := topS 49) l20 c20 k20).binds (ps := ["catalog", "page"]) (fun _ _ _ _ _ _ us hl => match us, hl with | [_, _], _ => rfl)
    a_path_of := f21
    fd_path_of := PySem.W.fnOf "path_of" "path_of" (defArgs (topS 12)) (defBody (topS 12)) (defScope (topS 12)) .none kV21 dc21 pm21 an21 cd21 ct21
    F_path_of := L2Fun.v (fun_mk (st := topS 12) l21 c21 k21)
    g_path_of := PySem.W.mg_of X G a21
    b_path_of := (fun_mk (st := topS 12) l21 c21 k21).binds (ps := ["tree", "locale"]) (fun _ _ _ _ _ _ us hl => match us, hl with | [_, _], _ => rfl)
    a_passed_by := f22
    fd_passed_by := PySem.W.fnOf "passed_by" "passed_by" (defArgs (topS 13)) (defBody (topS 13)) (defScope (topS 13)) .none kV22 dc22 pm22 an22 cd22 ct22
    F_passed_by := L2Fun.v (fun_mk (st := topS 13) l22 c22 k22)
    g_passed_by := PySem.W.mg_of X G a22
    b_passed_by := (fun_mk (st := topS 13) l22 c22 k22).binds (ps := ["tree", "wishes"]) (fun _ _ _ _ _ _ us hl => match us, hl with | [_, _], _ => rfl)
    a_longer := f23
    fd_longer := PySem.W.fnOf "longer" "longer" (defArgs (topS 15)) (defBody (topS 15)) (defScope (topS 15)) .none kV23 dc23 pm23 an23 cd23 ct23
    F_longer := L2Fun.v (fun_mk (st := topS 15) l23 c23 k23)
    g_longer := PySem.W.mg_of X G a23
    b_longer := (fun_mk (st := topS 15) l23 c23 k23).binds (ps := ["tree", "lists"]) (fun _ _ _ _ _ _ us hl => match us, hl with | [_, _], _ => rfl)
    a_short_lists := f24
    fd_short_lists := PySem.W.fnOf "short_lists" "short_lists" (defArgs (topS 16)) (defBody (topS 16)) (defScope (topS 16)) .none kV24 dc24 pm24 an24 cd24 ct24
    F_short_lists := L2Fun.v (fun_mk (st := topS 16) l24 c24 k24)
    g_short_lists := PySem.W.mg_of X G a24
    b_short_lists := (fun_mk (st := topS 16) l24 c24 k24).binds (ps := ["tree", "longest"]) (fun _ _ _ _ _ _ us hl => match us, hl with | [_, _], _ => rfl)
    a_skips := f25
    fd_skips := PySem.W.fnOf "skips" "skips" (defArgs (topS 19)) (defBody (topS 19)) (defScope (topS 19)) .none kV25 dc25 pm25 an25 cd25 ct25
    F_skips := L2Fun.v (fun_mk (st := topS 19) l25 c25 k25)
    g_skips := PySem.W.mg_of X G a25
    b_skips := (fun_mk (st := topS 19) l25 c25 k25).binds (ps := ["catalog", "locale"]) (fun _ _ _ _ _ _ us hl => match us, hl with | [_, _], _ => rfl)
    a_chosen_of := f26
    fd_chosen_of := PySem.W.fnOf "chosen_of" "chosen_of" (defArgs (topS 20)) (defBody (topS 20)) (defScope (topS 20)) .none kV26 dc26 pm26 an26 cd26 ct26
    F_chosen_of := L2Fun.v (fun_mk (st := topS 20) l26 c26 k26)
    g_chosen_of := PySem.W.mg_of X G a26
    b_chosen_of := (fun_mk (st := topS 20) l26 c26 k26).binds (ps := ["catalog", "wishes"]) (fun _ _ _ _ _ _ us hl => match us, hl with | [_, _], _ => rfl)
    a_looked_of := f27
    fd_looked_of := PySem.W.fnOf "looked_of" "looked_of" (defArgs (topS 14)) (defBody (topS 14)) (defScope (topS 14)) .none kV27 dc27 pm27 an27 cd27 ct27
    F_looked_of := L2Fun.v (fun_mk (st := topS 14) l27 c27 k27)
    g_looked_of := PySem.W.mg_of X G a27
    b_looked_of := (fun_mk (st := topS 14) l27 c27 k27).binds (ps := ["tree", "wishes"]) (fun _ _ _ _ _ _ us hl => match us, hl with | [_, _], _ => rfl)
    a_sought := f28
    fd_sought := PySem.W.fnOf "sought" "sought" (defArgs (topS 21)) (defBody (topS 21)) (defScope (topS 21)) .none kV28 dc28 pm28 an28 cd28 ct28
    F_sought := L2Fun.v (fun_mk (st := topS 21) l28 c28 k28)
    g_sought := PySem.W.mg_of X G a28
    b_sought := (fun_mk (st := topS 21) l28 c28 k28).binds (ps := ["catalog", "wishes"]) (fun _ _ _ _ _ _ us hl => match us, hl with | [_, _], _ => rfl)
    a_first_place := f29
    fd_first_place := PySem.W.fnOf "first_place" "first_place" (defArgs (topS 18)) (defBody (topS 18)) (defScope (topS 18)) .none kV29 dc29 pm29 an29 cd29 ct29
    F_first_place := L2Fun.v (fun_mk (st := topS 18) l29 c29 k29)
    g_first_place := PySem.W.mg_of X G a29
    b_first_place := (fun_mk (st := topS 18) l29 c29 k29).binds (ps := ["rows", "locales", "key"]) (fun _ _ _ _ _ _ us hl => match us, hl with | [_, _, _], _ => rfl)
    a_tongue_of := f30
    fd_tongue_of := PySem.W.fnOf "tongue_of" "tongue_of" (defArgs (topS 39)) (defBody (topS 39)) (defScope (topS 39)) .none kV30 dc30 pm30 an30 cd30 ct30
    F_tongue_of := L2Fun.v (fun_mk (st := topS 39) l30 c30 k30)
    g_tongue_of := PySem.W.mg_of X G a30
    b_tongue_of := (fun_mk (st := topS 39) l30 c30 k30).binds (ps := ["tree", "locale"]) (fun _ _ _ _ _ _ us hl => match us, hl with | [_, _], _ => rfl)
    a_mixes_page := f31
    fd_mixes_page := PySem.W.fnOf "mixes_page" "mixes_page" (defArgs (topS 40)) (defBody (topS 40)) (defScope (topS 40)) .none kV31 dc31 pm31 an31 cd31 ct31
    F_mixes_page := L2Fun.v (fun_mk (st := topS 40) l31 c31 k31)
    g_mixes_page := PySem.W.mg_of X G a31
    b_mixes_page := (fun_mk (st := topS 40) l31 c31 k31).binds (ps := ["catalog", "wishes", "page"]) (fun _ _ _ _ _ _ us hl => match us, hl with | [_, _, _], _ => rfl)
    a_first_mixing := f32
    fd_first_mixing := PySem.W.fnOf "first_mixing" "first_mixing" (defArgs (topS 41)) (defBody (topS 41)) (defScope (topS 41)) .none kV32 dc32 pm32 an32 cd32 ct32
    F_first_mixing := L2Fun.v (fun_mk (st := topS 41) l32 c32 k32)
    g_first_mixing := PySem.W.mg_of X G a32
    b_first_mixing := (fun_mk (st := topS 41) l32 c32 k32).binds (ps := ["catalog", "page"]) (fun _ _ _ _ _ _ us hl => match us, hl with | [_, _], _ => rfl)
    a_mixing := f33
    fd_mixing := PySem.W.fnOf "mixing" "mixing" (defArgs (topS 51)) (defBody (topS 51)) (defScope (topS 51)) .none kV33 dc33 pm33 an33 cd33 ct33
    F_mixing := L2Fun.v (fun_mk (st := topS 51) l33 c33 k33)
    g_mixing := PySem.W.mg_of X G a33
    b_mixing := (fun_mk (st := topS 51) l33 c33 k33).binds (ps := ["catalog", "page"]) (fun _ _ _ _ _ _ us hl => match us, hl with | [_, _], _ => rfl)
    a_has_locale := f34
    fd_has_locale := PySem.W.fnOf "has_locale" "has_locale" (defArgs (topS 10)) (defBody (topS 10)) (defScope (topS 10)) .none kV34 dc34 pm34 an34 cd34 ct34
    F_has_locale := L2Fun.v (fun_mk (st := topS 10) l34 c34 k34)
    g_has_locale := PySem.W.mg_of X G a34
    b_has_locale := (fun_mk (st := topS 10) l34 c34 k34).binds (ps := ["tree", "value"]) (fun _ _ _ _ _ _ us hl => match us, hl with | [_, _], _ => rfl)
    a_has_wishes := f35
    fd_has_wishes := PySem.W.fnOf "has_wishes" "has_wishes" (defArgs (topS 11)) (defBody (topS 11)) (defScope (topS 11)) .none kV35 dc35 pm35 an35 cd35 ct35
    F_has_wishes := L2Fun.v (fun_mk (st := topS 11) l35 c35 k35)
    g_has_wishes := PySem.W.mg_of X G a35
    b_has_wishes := (fun_mk (st := topS 11) l35 c35 k35).binds (ps := ["tree", "value"]) (fun _ _ _ _ _ _ us hl => match us, hl with | [_, _], _ => rfl)
    a_check_wishes := f36
    fd_check_wishes := PySem.W.fnOf "check_wishes" "check_wishes" (defArgs (topS 25)) (defBody (topS 25)) (defScope (topS 25)) .none kV36 dc36 pm36 an36 cd36 ct36
    F_check_wishes := L2Fun.v (fun_mk (st := topS 25) l36 c36 k36)
    g_check_wishes := PySem.W.mg_of X G a36
    b_check_wishes := (fun_mk (st := topS 25) l36 c36 k36).binds (ps := ["tree", "wishes"]) (fun _ _ _ _ _ _ us hl => match us, hl with | [_, _], _ => rfl)
    a_mixes := f37
    fd_mixes := PySem.W.fnOf "mixes" "mixes" (defArgs (topS 50)) (defBody (topS 50)) (defScope (topS 50)) .none kV37 dc37 pm37 an37 cd37 ct37
    F_mixes := L2Fun.v (fun_mk (st := topS 50) l37 c37 k37)
    g_mixes := PySem.W.mg_of X G a37
    b_mixes := (fun_mk (st := topS 50) l37 c37 k37).binds (ps := ["catalog", "wishes", "page"]) (fun _ _ _ _ _ _ us hl => match us, hl with | [_, _, _], _ => rfl)
    a_keys_to_have := f38
    fd_keys_to_have := PySem.W.fnOf "keys_to_have" "keys_to_have" (defArgs (topS 43)) (defBody (topS 43)) (defScope (topS 43)) .none kV38 dc38 pm38 an38 cd38 ct38
    F_keys_to_have := L2Fun.v (fun_mk (st := topS 43) l38 c38 k38)
    g_keys_to_have := PySem.W.mg_of X G a38
    b_keys_to_have := (fun_mk (st := topS 43) l38 c38 k38).binds (ps := ["catalog", "page"]) (fun _ _ _ _ _ _ us hl => match us, hl with | [_, _], _ => rfl)
    a_has_any := f39
    fd_has_any := PySem.W.fnOf "has_any" "has_any" (defArgs (topS 42)) (defBody (topS 42)) (defScope (topS 42)) .none kV39 dc39 pm39 an39 cd39 ct39
    F_has_any := L2Fun.v (fun_mk (st := topS 42) l39 c39 k39)
    g_has_any := PySem.W.mg_of X G a39
    b_has_any := (fun_mk (st := topS 42) l39 c39 k39).binds (ps := ["row", "page"]) (fun _ _ _ _ _ _ us hl => match us, hl with | [_, _], _ => rfl)
    a_is_in_one_tongue := f40
    fd_is_in_one_tongue := PySem.W.fnOf "is_in_one_tongue" "is_in_one_tongue" (defArgs (topS 44)) (defBody (topS 44)) (defScope (topS 44)) .none kV40 dc40 pm40 an40 cd40 ct40
    F_is_in_one_tongue := L2Fun.v (fun_mk (st := topS 44) l40 c40 k40)
    g_is_in_one_tongue := PySem.W.mg_of X G a40
    b_is_in_one_tongue := (fun_mk (st := topS 44) l40 c40 k40).binds (ps := ["catalog", "page"]) (fun _ _ _ _ _ _ us hl => match us, hl with | [_, _], _ => rfl)
    a_lacked_by := f41
    fd_lacked_by := PySem.W.fnOf "lacked_by" "lacked_by" (defArgs (topS 45)) (defBody (topS 45)) (defScope (topS 45)) .none kV41 dc41 pm41 an41 cd41 ct41
    F_lacked_by := L2Fun.v (fun_mk (st := topS 45) l41 c41 k41)
    g_lacked_by := PySem.W.mg_of X G a41
    b_lacked_by := (fun_mk (st := topS 45) l41 c41 k41).binds (ps := ["rows", "locale", "keys"]) (fun _ _ _ _ _ _ us hl => match us, hl with | [_, _, _], _ => rfl)
    a_added_below := f42
    fd_added_below := PySem.W.fnOf "added_below" "added_below" (defArgs (topS 46)) (defBody (topS 46)) (defScope (topS 46)) .none kV42 dc42 pm42 an42 cd42 ct42
    F_added_below := L2Fun.v (fun_mk (st := topS 46) l42 c42 k42)
    g_added_below := PySem.W.mg_of X G a42
    b_added_below := (fun_mk (st := topS 46) l42 c42 k42).binds (ps := ["catalog", "page", "keys"]) (fun _ _ _ _ _ _ us hl => match us, hl with | [_, _, _], _ => rfl)
    a_added_entries := f43
    fd_added_entries := PySem.W.fnOf "added_entries" "added_entries" (defArgs (topS 47)) (defBody (topS 47)) (defScope (topS 47)) .none kV43 dc43 pm43 an43 cd43 ct43
    F_added_entries := L2Fun.v (fun_mk (st := topS 47) l43 c43 k43)
    g_added_entries := PySem.W.mg_of X G a43
    b_added_entries := (fun_mk (st := topS 47) l43 c43 k43).binds (ps := ["catalog", "page"]) (fun _ _ _ _ _ _ us hl => match us, hl with | [_, _], _ => rfl)
    a_fewest_added := f44
    fd_fewest_added := PySem.W.fnOf "fewest_added" "fewest_added" (defArgs (topS 52)) (defBody (topS 52)) (defScope (topS 52)) .none kV44 dc44 pm44 an44 cd44 ct44
    F_fewest_added := L2Fun.v (fun_mk (st := topS 52) l44 c44 k44)
    g_fewest_added := PySem.W.mg_of X G a44
    b_fewest_added := (fun_mk (st := topS 52) l44 c44 k44).binds (ps := ["catalog", "page"]) (fun _ _ _ _ _ _ us hl => match us, hl with | [_, _], _ => rfl)
    a__law_pairs_of := f45
    fd__law_pairs_of := PySem.W.fnOf "_law_pairs_of" "_law_pairs_of" (defArgs (topS 61)) (defBody (topS 61)) (defScope (topS 61)) .none kV45 dc45 pm45 an45 cd45 ct45
    F__law_pairs_of := L2Fun.v (fun_mk (st := topS 61) l45 c45 k45)
    g__law_pairs_of := PySem.W.mg_of X G a45
    b__law_pairs_of := (fun_mk (st := topS 61) l45 c45 k45).binds (ps := ["sheet"]) (fun _ _ _ _ _ _ us hl => match us, hl with | [_], _ => rfl)
    a__law_less_pages_fit := f46
    fd__law_less_pages_fit := PySem.W.fnOf "_law_less_pages_fit" "_law_less_pages_fit" (defArgs (topS 62)) (defBody (topS 62)) (defScope (topS 62)) .none kV46 dc46 pm46 an46 cd46 ct46
    F__law_less_pages_fit := L2Fun.v (fun_mk (st := topS 62) l46 c46 k46)
    g__law_less_pages_fit := PySem.W.mg_of X G a46
    b__law_less_pages_fit := (fun_mk (st := topS 62) l46 c46 k46).binds (ps := ["cat", "sheet"]) (fun _ _ _ _ _ _ us hl => match us, hl with | [_, _], _ => rfl)
    a_law := f47
    fd_law := PySem.W.fnOf "law" "law" (defArgs (topS 63)) (defBody (topS 63)) (defScope (topS 63)) .none kV47 dc47 pm47 an47 cd47 ct47
    F_law := L2Fun.v (fun_mk (st := topS 63) l47 c47 k47)
    g_law := PySem.W.mg_of X G a47
    b_law := (fun_mk (st := topS 63) l47 c47 k47).binds (ps := ["script"]) (fun _ _ _ _ _ _ us hl => match us, hl with | [_], _ => rfl)
    m_abs := PySem.W.mg_none_of X G z_abs
    m_all := PySem.W.mg_none_of X G z_all
    m_any := PySem.W.mg_none_of X G z_any
    m_bool := PySem.W.mg_none_of X G z_bool
    m_enumerate := PySem.W.mg_none_of X G z_enumerate
    m_int := PySem.W.mg_none_of X G z_int
    m_isinstance := PySem.W.mg_none_of X G z_isinstance
    m_len := PySem.W.mg_none_of X G z_len
    m_list := PySem.W.mg_none_of X G z_list
    m_max := PySem.W.mg_none_of X G z_max
    m_min := PySem.W.mg_none_of X G z_min
    m_range := PySem.W.mg_none_of X G z_range
    m_repr := PySem.W.mg_none_of X G z_repr
    m_sorted := PySem.W.mg_none_of X G z_sorted
    m_str := PySem.W.mg_none_of X G z_str
    m_tuple := PySem.W.mg_none_of X G z_tuple
    m_type := PySem.W.mg_none_of X G z_type
    m_zip := PySem.W.mg_none_of X G z_zip
    k_MOST_LOCALES := tk_MOST_LOCALES
    c_MOST_LOCALES := PySem.W.mg_of X G v_MOST_LOCALES
    k_MOST_KEYS := tk_MOST_KEYS
    c_MOST_KEYS := PySem.W.mg_of X G v_MOST_KEYS
    k_LAST_TEXT := tk_LAST_TEXT
    c_LAST_TEXT := PySem.W.mg_of X G v_LAST_TEXT }
  have e : t.a_law = fa := by
    have := hfa.symm.trans t.g_law
    cases this
    rfl
  rw [← e]
  exact ⟨t.fd_law, fun s v => .of_eq rfl, fun base _ _ => ok_law t⟩
end My
/-! DM: reckoning with the data's worths; what is known of lists of numbers. -/
namespace DL
open PySem PySem.Spec PyProof.Rows L2
section
variable (a b : Int) (xs ys : List D) (d : D) (p q : Bool)
@[simp] theorem p_sub : pSub [.int a, .int b] = some (.d (.int (a - b))) := id rfl
@[simp] theorem p_fdiv : pFdiv [.int a, .int b] = if 0 < b ∧ b.natAbs.log2 < 9000 then some (.d (.int (a / b))) else none := by
  simp only [pFdiv, pInt2]; split <;> rfl
@[simp] theorem p_mod : pMod [.int a, .int b] = if 0 < b then some (.d (.int (a % b))) else none := by
  simp only [pMod, pInt2]; split <;> rfl
@[simp] theorem p_pow : pPow [.int a, .int b] = if 0 ≤ b ∧ b ≤ 1000000 ∧ a.natAbs < 2 ^ 64 then some (.d (.int (a ^ b.toNat))) else none := by
  simp only [pPow, pInt2]; split <;> rfl
@[simp] theorem p_cmp (f : Int → Int → Bool) : pCmp f [.int a, .int b] = some (.d (.bl (f a b))) := id rfl
@[simp] theorem p_neg : pNeg [.int a] = some (.d (.int (-a))) := id rfl
@[simp] theorem p_addI : pAdd [.int a, .int b] = some (.d (.int (a + b))) := id rfl
@[simp] theorem p_addT : pAdd [.tup xs, .tup ys] = if xs.length + ys.length ≤ sizeLine then some (.d (.tup (xs ++ ys))) else none := id rfl
@[simp] theorem p_addL : pAdd [.lst xs, .lst ys] = if xs.length + ys.length ≤ sizeLine then some (.nl (xs ++ ys)) else none := id rfl
@[simp] theorem p_mul : pMul [.int a, .int b] = if wideMul a b = true then some (.d (.int (a * b))) else none := id rfl
@[simp] theorem p_isN : pIsN [d, .non] = some (.d (.bl (isNonD d))) := id rfl
@[simp] theorem p_notN : pNotN [d, .non] = some (.d (.bl (!isNonD d))) := id rfl
@[simp] theorem p_isB : pIsB [.bl p, .bl q] = some (.d (.bl (decide (p = q)))) := id rfl
@[simp] theorem p_notB : pNotB [.bl p, .bl q] = some (.d (.bl (!decide (p = q)))) := id rfl
@[simp] theorem p_ixL : pIx [.lst xs, .int a] = (atI xs a).map PR.d := id rfl
@[simp] theorem p_ixT : pIx [.tup xs, .int a] = (atI xs a).map PR.d := id rfl
@[simp] theorem p_ixF : pIx [.fz xs, .int a] = (atI xs a).map PR.d := id rfl
@[simp] theorem p_lenL : pLen [.lst xs] = some (.d (.int xs.length)) := id rfl
@[simp] theorem p_lenT : pLen [.tup xs] = some (.d (.int xs.length)) := id rfl
@[simp] theorem p_lenF : pLen [.fz xs] = some (.d (.int xs.length)) := id rfl
@[simp] theorem p_int : pIntOf [.int a] = some (.d (.int a)) := id rfl
@[simp] theorem p_intB : pIntOf [.bl p] = some (.d (.int (if p then 1 else 0))) := id rfl
@[simp] theorem p_max : pMax [.int a, .int b] = some (.d (.int (if b > a then b else a))) := id rfl
@[simp] theorem p_min : pMin [.int a, .int b] = some (.d (.int (if b < a then b else a))) := id rfl
@[simp] theorem p_tupL : pTupOf [.lst xs] = some (.d (.tup xs)) := id rfl
@[simp] theorem p_tupT : pTupOf [.tup xs] = some (.d (.tup xs)) := id rfl
@[simp] theorem p_lstL : pLstOf [.lst xs] = some (.nl xs) := id rfl
@[simp] theorem p_lstT : pLstOf [.tup xs] = some (.nl xs) := id rfl
@[simp] theorem p_lstF : pLstOf [.fz xs] = some (.nl xs) := id rfl
@[simp] theorem p_lst : pLst xs = if xs.length ≤ sizeLine then some (.nl xs) else none := id rfl
@[simp] theorem p_tup : pTup xs = if xs.length ≤ sizeLine then some (.d (.tup xs)) else none := id rfl
@[simp] theorem m_app : mApp xs [d] = if xs.length < sizeLine then some (xs ++ [d], .non) else none := id rfl
end

def FinD {α : Type} (r : R α) (P : α → DEnv → Prop) : Prop := match r with
  | .ok a e => P a e
  | _ => False
theorem fin_congr_D {α : Type} {r r' : R α} {P : α → DEnv → Prop} (h : r = r') : FinD r P = FinD r' P := by rw [h]
theorem fin_ok_D {α : Type} {a : α} {e : DEnv} {P : α → DEnv → Prop} : FinD (.ok a e) P ↔ P a e := ⟨fun h => h, fun h => h⟩
theorem fin_bad_D {α : Type} {P : α → DEnv → Prop} : FinD (R.bad : R α) P ↔ False := ⟨fun h => h, fun h => h⟩
theorem bind_ok {α β : Type} {f : α → DEnv → R β} {a : α} {e : DEnv} : (R.ok a e).bind f = f a e := rfl
theorem bind_bad {α β : Type} {f : α → DEnv → R β} : (R.bad : R α).bind f = .bad := rfl
theorem fin_bind_D {α β : Type} {r : R α} {f : α → DEnv → R β} {P : β → DEnv → Prop} : FinD (r.bind f) P ↔ FinD r fun a e => FinD (f a e) P := by
  cases r <;> exact Iff.rfl
theorem fin_iff_D {α : Type} {r : R α} {P : α → DEnv → Prop} : FinD r P ↔ ∃ a e, r = .ok a e ∧ P a e := by
  cases r with
  | ok a e => exact ⟨fun h => ⟨a, e, rfl, h⟩, fun ⟨_, _, z, h⟩ => by cases z; exact h⟩
  | err x e => exact ⟨fun h => h.elim, fun ⟨_, _, z, h⟩ => by cases z⟩
  | bad => exact ⟨fun h => h.elim, fun ⟨_, _, z, h⟩ => by cases z⟩
theorem FinD.mono {α : Type} {r : R α} {P P' : α → DEnv → Prop} (h : FinD r P) (k : ∀ a e, P a e → P' a e) : FinD r P' := by
  cases r with
  | ok a e => exact k a e h
  | err x e => exact h
  | bad => exact h
def contS (b : DS) : Fl → DS
  | .nx => b
  | fl => fun env => .ok fl env
theorem contS_nx_D {b : DS} {e : DEnv} {P : Fl → DEnv → Prop} : FinD (contS b .nx e) P ↔ FinD (b e) P := ⟨id, id⟩
theorem contS_ret_D {b : DS} {r : Ent} {e : DEnv} {P : Fl → DEnv → Prop} : FinD (contS b (.ret r) e) P ↔ P (.ret r) e := ⟨id, id⟩
theorem contS_brk_D {b : DS} {e : DEnv} {P : Fl → DEnv → Prop} : FinD (contS b .brk e) P ↔ P .brk e := ⟨id, id⟩
theorem contS_cnt_D {b : DS} {e : DEnv} {P : Fl → DEnv → Prop} : FinD (contS b .cnt e) P ↔ P .cnt e := ⟨id, id⟩
theorem fin_seq_D {a b : DS} {env : DEnv} {P : Fl → DEnv → Prop} : FinD (dSeq a b env) P ↔ FinD (a env) fun fl e => FinD (contS b fl e) P := by
  unfold dSeq
  cases a env with
  | ok fl e => cases fl <;> exact Iff.rfl
  | err x e => exact Iff.rfl
  | bad => exact Iff.rfl
/-! each piece, from the left to the right -/
def ofO (o : Option (Option Ent)) (env : DEnv) : R Ent := match o with
  | some (some e) => .ok e env
  | _ => .bad
theorem fin_ofO_D {e : Ent} {env : DEnv} {P : Ent → DEnv → Prop} : FinD (ofO (some (some e)) env) P ↔ P e env := ⟨id, id⟩
def resP (o : Option PR) (env : DEnv) : R Ent := match o with
  | some r => .ok r.ent env
  | none => .bad
theorem fin_resD_D {x : D} {env : DEnv} {P : Ent → DEnv → Prop} : FinD (resP (some (.d x)) env) P ↔ P ⟨.shr, x⟩ env := ⟨id, id⟩
theorem fin_resN_D {xs : List D} {env : DEnv} {P : Ent → DEnv → Prop} : FinD (resP (some (.nl xs)) env) P ↔ P ⟨.own, .lst xs⟩ env := ⟨id, id⟩
def resA {α : Type} (o : Option α) (env : DEnv) : R α := match o with
  | some r => .ok r env
  | none => .bad
theorem fin_resA_D {α : Type} {x : α} {env : DEnv} {P : α → DEnv → Prop} : FinD (resA (some x) env) P ↔ P x env := ⟨id, id⟩
section
variable {env : DEnv} {PF : Fl → DEnv → Prop} {PE : Ent → DEnv → Prop} {PB : Bool → DEnv → Prop} {PL : List D → DEnv → Prop}
theorem fin_ifs_D {c : DT} {a b : DS} : FinD (dIfS c a b env) PF ↔ FinD (c env) fun k e => FinD (if k = true then a e else b e) PF := fin_bind_D
theorem fin_next_D : FinD (dNext env) PF ↔ PF .nx env := ⟨id, id⟩
theorem fin_brk_D : FinD (dBrk env) PF ↔ PF .brk env := ⟨id, id⟩
theorem fin_cnt_D : FinD (dCnt env) PF ↔ PF .cnt env := ⟨id, id⟩
theorem fin_never_D : FinD (dNever env) PF ↔ False := ⟨id, id⟩
theorem fin_set_D {i : Nat} {m : DE} : FinD (dSet i m env) PF ↔ FinD (m env) fun r e => PF .nx (e.set i (some r)) := fin_bind_D
theorem fin_drop_D {m : DE} : FinD (dDrop m env) PF ↔ FinD (m env) fun r e => PF .nx e := fin_bind_D
theorem fin_ret_D {m : DE} : FinD (dRet m env) PF ↔ FinD (m env) fun r e => PF (.ret r) e := fin_bind_D
theorem fin_retV_D {i : Nat} : FinD (dRetV i env) PF ↔ FinD (ofO env[i]? env) fun r e => PF (.ret r) (e.set i none) := by
  unfold dRetV ofO
  cases env[i]? with
  | none => exact Iff.rfl
  | some o => cases o <;> exact Iff.rfl
theorem fin_c_D {d : D} : FinD (dC d env) PE ↔ PE ⟨.shr, d⟩ env := ⟨id, id⟩
theorem fin_var_D {i : Nat} : FinD (dVar i env) PE ↔ FinD (ofO env[i]? env) fun r e => PE ⟨.shr, r.d⟩ (e.set i (some ⟨.shr, r.d⟩)) := by
  unfold dVar ofO
  cases env[i]? with
  | none => exact Iff.rfl
  | some o => cases o <;> exact Iff.rfl
theorem fin_os_nil_D {P : List AV → DEnv → Prop} : FinD (evOs [] env) P ↔ P [] env := ⟨id, id⟩
theorem fin_os_v_D {m : DE} {os : List Opd} {P : List AV → DEnv → Prop} : FinD (evOs (.v m :: os) env) P ↔ FinD (m env) fun r e => FinD (evOs os e) fun avs e2 => P (.d r.d :: avs) e2 := by
  rw [evOs, fin_bind_D]
  refine ⟨fun h => h.mono fun r e k => fin_bind_D.mp k, fun h => h.mono fun r e k => fin_bind_D.mpr k⟩
theorem fin_os_s_D {i : Nat} {os : List Opd} {P : List AV → DEnv → Prop} : FinD (evOs (.s i :: os) env) P ↔ FinD (ofO env[i]? env) fun _ e => FinD (evOs os e) fun avs e2 => P (.s i :: avs) e2 := by
  rw [evOs]
  unfold ofO
  cases env[i]? with
  | none => exact Iff.rfl
  | some o => cases o with
    | none => exact Iff.rfl
    | some e => exact fin_bind_D
theorem fin_prim_D {p : Pr} {os : List Opd} : FinD (dPrim p os env) PE ↔ FinD (evOs os env) fun avs e => FinD (resP ((getAVs e avs).bind p) e) PE := by
  unfold dPrim
  rw [fin_bind_D]
  have key : ∀ (avs : List AV) (e : DEnv), FinD (match (getAVs e avs).bind p with
    | some r => R.ok r.ent e
    | none => R.bad) PE ↔ FinD (resP ((getAVs e avs).bind p) e) PE := fun avs e => by
    unfold resP
    cases (getAVs e avs).bind p <;> exact Iff.rfl
  exact ⟨fun h => h.mono fun a e k => (key a e).mp k, fun h => h.mono fun a e k => (key a e).mpr k⟩
def tstB (r : Ent) (env : DEnv) : R Bool := match r with
  | ⟨.shr, .bl b⟩ => .ok b env
  | _ => .bad
theorem fin_tstB_D {b : Bool} : FinD (tstB ⟨.shr, .bl b⟩ env) PB ↔ PB b env := ⟨id, id⟩
theorem fin_tst_D {m : DE} : FinD (dTst m env) PB ↔ FinD (m env) fun r e => FinD (tstB r e) PB := fin_bind_D
theorem fin_and_D {a b : DT} : FinD (dAnd a b env) PB ↔ FinD (a env) fun c e => FinD (if c = true then b e else .ok false e) PB := fin_bind_D
theorem fin_or_D {a b : DT} : FinD (dOr a b env) PB ↔ FinD (a env) fun c e => FinD (if c = true then .ok true e else b e) PB := fin_bind_D
theorem fin_not_D {a : DT} : FinD (dNot a env) PB ↔ FinD (a env) fun c e => PB (!c) e := fin_bind_D
theorem fin_yes_D : FinD (dYes env) PB ↔ PB true env := ⟨id, id⟩
theorem fin_B_D {m : DT} : FinD (dB m env) PE ↔ FinD (m env) fun b e => PE ⟨.shr, .bl b⟩ e := fin_bind_D
theorem fin_andV_D {a : DT} {b : DE} : FinD (dAndV a b env) PE ↔ FinD (a env) fun c e => FinD (if c = true then b e else .ok ⟨.shr, .bl false⟩ e) PE := fin_bind_D
theorem fin_orV_D {a : DT} {b : DE} : FinD (dOrV a b env) PE ↔ FinD (a env) fun c e => FinD (if c = true then .ok ⟨.shr, .bl true⟩ e else b e) PE := fin_bind_D
theorem fin_if_D {c : DT} {a b : DE} : FinD (dIf c a b env) PE ↔ FinD (c env) fun k e => FinD (if k = true then a e else b e) PE := fin_bind_D
def secondV : List AV → Option D
  | [_, .d y] => some y
  | _ => none
@[simp] theorem secondV_d {a : AV} {y : D} : secondV [a, .d y] = some y := rfl
def chainN (p' : Pr) (oc : Opd) (y : Option D) (o : Option PR) (env : DEnv) : R Ent := match y, o with
  | some y, some (.d (.bl k)) => if k = true then dPrim p' [.v (dC y), oc] env else .ok ⟨.shr, .bl false⟩ env
  | _, _ => .bad
theorem fin_chainN_D {p' : Pr} {oc : Opd} {y : D} {k : Bool} : FinD (chainN p' oc (some y) (some (.d (.bl k))) env) PE ↔ FinD (if k = true then dPrim p' [.v (dC y), oc] env else .ok ⟨.shr, .bl false⟩ env) PE := ⟨id, id⟩
theorem chain_eq {p p' : Pr} {oa ob oc : Opd} : dChain p p' oa ob oc env = (evOs [oa, ob] env).bind fun avs e => chainN p' oc (secondV avs) ((getAVs e avs).bind p) e := by
  unfold dChain
  congr 1
  funext avs e
  generalize (getAVs e avs).bind p = o
  rcases avs with _ | ⟨a, _ | ⟨b, _ | ⟨c, t⟩⟩⟩
  · rfl
  · rfl
  · rcases o with _ | (d | l)
    · cases b <;> rfl
    · cases b <;> cases d <;> rfl
    · cases b <;> rfl
  · rcases o with _ | (d | l)
    · cases b <;> rfl
    · cases b <;> cases d <;> rfl
    · cases b <;> rfl
theorem fin_chain_D {p p' : Pr} {oa ob oc : Opd} : FinD (dChain p p' oa ob oc env) PE ↔ FinD (evOs [oa, ob] env) fun avs e => FinD (chainN p' oc (secondV avs) ((getAVs e avs).bind p) e) PE := by
  rw [chain_eq, fin_bind_D]
theorem fin_call_D {f : DFn} {os : List Opd} : FinD (dCall f os env) PE ↔ FinD (evOs os env) fun avs e => FinD (resA (getAVs e avs) e) fun ds e => FinD (afterC e (f (shrs ds))) PE := by
  unfold dCall
  rw [fin_bind_D]
  have key : ∀ (avs : List AV) (e : DEnv), FinD (match getAVs e avs with
    | some ds => afterC e (f (shrs ds))
    | none => .bad) PE ↔ FinD (resA (getAVs e avs) e) fun ds e => FinD (afterC e (f (shrs ds))) PE := fun avs e => by
    unfold resA
    cases getAVs e avs <;> exact Iff.rfl
  exact ⟨fun h => h.mono fun a e k => (key a e).mp k, fun h => h.mono fun a e k => (key a e).mpr k⟩
theorem fin_afterOk_D {r : Ent} {o : D} : FinD (afterC env (.ok r o)) PE ↔ PE r env := ⟨id, id⟩
theorem fin_afterROk_D {r : Ent} {o : D} {i : Nat} : FinD (afterR env i (.ok r o)) PE ↔ PE r (env.set i (some ⟨.own, o⟩)) := ⟨id, id⟩
def ownO (o : Option (Option Ent)) (env : DEnv) : R D := match o with
  | some (some (Ent.mk Md.own d)) => .ok d env
  | _ => .bad
theorem fin_ownO_D {d : D} {P : D → DEnv → Prop} : FinD (ownO (some (some ⟨.own, d⟩)) env) P ↔ P d env := ⟨id, id⟩
def ownL (o : Option (Option Ent)) (env : DEnv) : R (List D) := match o with
  | some (some (Ent.mk Md.own (.lst d))) => .ok d env
  | _ => .bad
theorem fin_ownL_D {d : List D} : FinD (ownL (some (some ⟨.own, .lst d⟩)) env) PL ↔ PL d env := ⟨id, id⟩
theorem fin_callR_D {f : DFn} {i : Nat} {os : List Opd} : FinD (dCallR f i os env) PE ↔ FinD (ownO env[i]? env) fun _ e => FinD (evOs os e) fun avs e => FinD (resA (getAVs e avs) e) fun ds e => FinD (ownO e[i]? e) fun d e => FinD (afterR e i (f (⟨.own, d⟩ :: shrs ds))) PE := by
  unfold dCallR
  cases env[i]? with
  | none => exact Iff.rfl
  | some o => cases o with
    | none => exact Iff.rfl
    | some w =>
      obtain ⟨md, d⟩ := w
      cases md with
      | own =>
        refine Iff.trans fin_bind_D ?_
        have key : ∀ (avs : List AV) (e : DEnv), FinD (match getAVs e avs, (e[i]? : Option (Option Ent)) with
          | some ds, some (some (Ent.mk Md.own d)) => afterR e i (f (⟨.own, d⟩ :: shrs ds))
          | _, _ => .bad) PE ↔ FinD (resA (getAVs e avs) e) fun ds e => FinD (ownO e[i]? e) fun d e => FinD (afterR e i (f (⟨.own, d⟩ :: shrs ds))) PE := fun avs e => by
          cases getAVs e avs with
          | none => exact Iff.rfl
          | some ds =>
            refine Iff.trans ?_ (fin_resA_D (x := ds)).symm
            cases e[i]? with
            | none => exact Iff.rfl
            | some o => cases o with
              | none => exact Iff.rfl
              | some w =>
                obtain ⟨md, d⟩ := w
                cases md <;> exact Iff.rfl
        exact ⟨fun h => fin_ownO_D.mpr (h.mono fun a e k => (key a e).mp k), fun h => (fin_ownO_D.mp h).mono fun a e k => (key a e).mpr k⟩
      | shr => exact Iff.rfl
      | bor => exact Iff.rfl
theorem fin_mut_D {op : List D → List D → Option (List D × D)} {i : Nat} {os : List Opd} : FinD (dMut op i os env) PE ↔ FinD (ownL env[i]? env) fun _ e => FinD (evOs os e) fun avs e => FinD (resA (getAVs e avs) e) fun ds e => FinD (ownL e[i]? e) fun xs e => FinD (resA (op xs ds) e) fun y e => PE ⟨.shr, y.2⟩ (e.set i (some ⟨.own, .lst y.1⟩)) := by
  unfold dMut
  cases env[i]? with
  | none => exact Iff.rfl
  | some o => cases o with
    | none => exact Iff.rfl
    | some w =>
      obtain ⟨md, d⟩ := w
      cases md with
      | own =>
        cases d with
        | lst d =>
          refine Iff.trans fin_bind_D ?_
          have key : ∀ (avs : List AV) (e : DEnv), FinD (match getAVs e avs, (e[i]? : Option (Option Ent)) with
            | some ds, some (some (Ent.mk Md.own (.lst xs))) => (match op xs ds with
              | some (ys, r) => .ok ⟨.shr, r⟩ (e.set i (some ⟨.own, .lst ys⟩))
              | none => .bad)
            | _, _ => .bad) PE ↔ FinD (resA (getAVs e avs) e) fun ds e => FinD (ownL e[i]? e) fun xs e => FinD (resA (op xs ds) e) fun y e => PE ⟨.shr, y.2⟩ (e.set i (some ⟨.own, .lst y.1⟩)) := fun avs e => by
            cases getAVs e avs with
            | none => exact Iff.rfl
            | some ds =>
              refine Iff.trans ?_ (fin_resA_D (x := ds)).symm
              cases e[i]? with
              | none => exact Iff.rfl
              | some o => cases o with
                | none => exact Iff.rfl
                | some w =>
                  obtain ⟨md, d⟩ := w
                  cases md with
                  | own =>
                    cases d with
                    | lst xs =>
                      refine Iff.trans ?_ (fin_ownL_D (d := xs)).symm
                      dsimp only
                      unfold resA
                      cases op xs ds <;> exact Iff.rfl
                    | _ => exact Iff.rfl
                  | shr => exact Iff.rfl
                  | bor => exact Iff.rfl
          exact ⟨fun h => fin_ownL_D.mpr (h.mono fun a e k => (key a e).mp k), fun h => (fin_ownL_D.mp h).mono fun a e k => (key a e).mpr k⟩
        | _ => exact Iff.rfl
      | shr => exact Iff.rfl
      | bor => exact Iff.rfl
def intO (ds : Option (List D)) (env : DEnv) : R Int := match ds with
  | some [.int k] => .ok k env
  | _ => .bad
theorem fin_intO_D {k : Int} {P : Int → DEnv → Prop} : FinD (intO (some [.int k]) env) P ↔ P k env := ⟨id, id⟩
theorem fin_setIx_D {i : Nat} {os : List Opd} {m : DE} : FinD (dSetIx i os m env) PF ↔ FinD (m env) fun r e => FinD (ownL e[i]? e) fun _ e => FinD (evOs os e) fun avs e => FinD (intO (getAVs e avs) e) fun k e => FinD (ownL e[i]? e) fun xs e => FinD (resA (ixN xs.length k) e) fun j e => PF .nx (e.set i (some ⟨.own, .lst (xs.set j r.d)⟩)) := by
  unfold dSetIx
  rw [fin_bind_D]
  have key : ∀ (r : Ent) (e : DEnv), FinD (match (e[i]? : Option (Option Ent)) with
    | some (some (Ent.mk Md.own (.lst _))) => (evOs os e).bind fun avs env2 => match getAVs env2 avs, (env2[i]? : Option (Option Ent)) with
      | some [.int k], some (some (Ent.mk Md.own (.lst xs))) => (match ixN xs.length k with
        | some j => .ok .nx (env2.set i (some ⟨.own, .lst (xs.set j r.d)⟩))
        | none => .bad)
      | _, _ => .bad
    | _ => .bad) PF ↔ FinD (ownL e[i]? e) fun _ e => FinD (evOs os e) fun avs e => FinD (intO (getAVs e avs) e) fun k e => FinD (ownL e[i]? e) fun xs e => FinD (resA (ixN xs.length k) e) fun j e => PF .nx (e.set i (some ⟨.own, .lst (xs.set j r.d)⟩)) := fun r e => by
    cases e[i]? with
    | none => exact Iff.rfl
    | some o => cases o with
      | none => exact Iff.rfl
      | some w =>
        obtain ⟨md, d⟩ := w
        cases md with
        | shr => exact Iff.rfl
        | bor => exact Iff.rfl
        | own =>
          cases d with
          | lst d =>
            refine Iff.trans fin_bind_D ?_
            have key : ∀ (avs : List AV) (e : DEnv), FinD (match getAVs e avs, (e[i]? : Option (Option Ent)) with
              | some [.int k], some (some (Ent.mk Md.own (.lst xs))) => (match ixN xs.length k with
                | some j => .ok .nx (e.set i (some ⟨.own, .lst (xs.set j r.d)⟩))
                | none => .bad)
              | _, _ => .bad) PF ↔ FinD (intO (getAVs e avs) e) fun k e => FinD (ownL e[i]? e) fun xs e => FinD (resA (ixN xs.length k) e) fun j e => PF .nx (e.set i (some ⟨.own, .lst (xs.set j r.d)⟩)) := fun avs e => by
              rcases getAVs e avs with _ | (_ | ⟨d1, _ | ⟨d2, t⟩⟩)
              · exact Iff.rfl
              · exact Iff.rfl
              · cases d1 with
                | int k =>
                  refine Iff.trans ?_ (fin_intO_D (k := k)).symm
                  cases e[i]? with
                  | none => exact Iff.rfl
                  | some o => cases o with
                    | none => exact Iff.rfl
                    | some w =>
                      obtain ⟨md, d⟩ := w
                      cases md with
                      | own =>
                        cases d with
                        | lst xs =>
                          refine Iff.trans ?_ (fin_ownL_D (d := xs)).symm
                          dsimp only
                          unfold resA
                          cases ixN xs.length k <;> exact Iff.rfl
                        | _ => exact Iff.rfl
                      | shr => exact Iff.rfl
                      | bor => exact Iff.rfl
                | _ => exact Iff.rfl
              · cases d1 <;> exact Iff.rfl
            exact ⟨fun h => fin_ownL_D.mpr (h.mono fun a e k => (key a e).mp k), fun h => (fin_ownL_D.mp h).mono fun a e k => (key a e).mpr k⟩
          | _ => exact Iff.rfl
  exact ⟨fun h => h.mono fun a e k => (key a e).mp k, fun h => h.mono fun a e k => (key a e).mpr k⟩
def intB (r : Ent) (env : DEnv) : R (Option Int) := match r with
  | ⟨.shr, .int b⟩ => .ok (some b) env
  | _ => .bad
theorem fin_intB_D {b : Int} {P : Option Int → DEnv → Prop} : FinD (intB ⟨.shr, .int b⟩ env) P ↔ P (some b) env := ⟨id, id⟩
theorem fin_partN_D {P : Option Int → DEnv → Prop} : FinD (dPart none env) P ↔ P none env := ⟨id, id⟩
theorem fin_partS_D {m : DE} {P : Option Int → DEnv → Prop} : FinD (dPart (some m) env) P ↔ FinD (m env) fun r e => FinD (intB r e) P := by
  unfold dPart
  exact fin_bind_D
def oneO (ds : Option (List D)) (env : DEnv) : R D := match ds with
  | some [d] => .ok d env
  | _ => .bad
theorem fin_oneO_D {d : D} {P : D → DEnv → Prop} : FinD (oneO (some [d]) env) P ↔ P d env := ⟨id, id⟩
theorem fin_slice_D {p : Ps} {o : Opd} {lo hi : Option DE} : FinD (dSlice p o lo hi env) PE ↔ FinD (evOs [o] env) fun avs e => FinD (dPart lo e) fun l e => FinD (dPart hi e) fun u e => FinD (oneO (getAVs e avs) e) fun d e => FinD (resP (p d l u) e) PE := by
  unfold dSlice
  rw [fin_bind_D]
  have key : ∀ (avs : List AV) (l u : Option Int) (e : DEnv), FinD (match getAVs e avs with
    | some [d] => (match p d l u with
      | some r => R.ok r.ent e
      | none => .bad)
    | _ => .bad) PE ↔ FinD (oneO (getAVs e avs) e) fun d e => FinD (resP (p d l u) e) PE := fun avs l u e => by
    rcases getAVs e avs with _ | (_ | ⟨d1, _ | ⟨d2, t⟩⟩)
    · exact Iff.rfl
    · exact Iff.rfl
    · refine Iff.trans ?_ (fin_oneO_D (d := d1)).symm
      dsimp only
      unfold resP
      cases p d1 l u <;> exact Iff.rfl
    · exact Iff.rfl
  refine ⟨fun h => h.mono fun avs e k => (fin_bind_D.mp k).mono fun l e k => (fin_bind_D.mp k).mono fun u e k => (key avs l u e).mp k, fun h => h.mono fun avs e k => fin_bind_D.mpr (k.mono fun l e k => fin_bind_D.mpr (k.mono fun u e k => (key avs l u e).mpr k))⟩
theorem fin_forI_D {it : DI} {g : DG} {body : DS} : FinD (dForI it g body env) PF ↔ FinD (it env) fun xs e => FinD (dFor g body xs e) PF := fin_bind_D
theorem fin_iArgs_D {p : List D → Option (List D)} {os : List Opd} : FinD (iArgs p os env) PL ↔ FinD (evOs os env) fun avs e => FinD (resA ((getAVs e avs).bind p) e) PL := by
  unfold iArgs
  rw [fin_bind_D]
  have key : ∀ (avs : List AV) (e : DEnv), FinD (match (getAVs e avs).bind p with
    | some xs => R.ok xs e
    | none => R.bad) PL ↔ FinD (resA ((getAVs e avs).bind p) e) PL := fun avs e => by
    unfold resA
    cases (getAVs e avs).bind p <;> exact Iff.rfl
  exact ⟨fun h => h.mono fun a e k => (key a e).mp k, fun h => h.mono fun a e k => (key a e).mpr k⟩
theorem fin_iSeq_D {m : DE} : FinD (iSeq m env) PL ↔ FinD (m env) fun r e => FinD (resA (dSeqOf r.d) e) PL := by
  unfold iSeq
  rw [fin_bind_D]
  have key : ∀ (r : Ent) (e : DEnv), FinD (match dSeqOf r.d with
    | some xs => R.ok xs e
    | none => R.bad) PL ↔ FinD (resA (dSeqOf r.d) e) PL := fun r e => by
    unfold resA
    cases dSeqOf r.d <;> exact Iff.rfl
  exact ⟨fun h => h.mono fun a e k => (key a e).mp k, fun h => h.mono fun a e k => (key a e).mpr k⟩
end
def Goes : Fl → Prop
  | .nx => True
  | .cnt => True
  | _ => False
@[simp] theorem goes_nx : Goes .nx ↔ True := Iff.rfl
@[simp] theorem goes_cnt : Goes .cnt ↔ True := Iff.rfl
/-- what a function gives -/
def FinFD (r : FR) (P : Ent → D → Prop) : Prop := match r with
  | .ok a o => P a o
  | _ => False
theorem finF_congr_D {r r' : FR} {P : Ent → D → Prop} (h : r = r') : FinFD r P = FinFD r' P := by rw [h]
theorem finF_ok_D {a : Ent} {o : D} {P : Ent → D → Prop} : FinFD (.ok a o) P ↔ P a o := Iff.rfl
theorem finF_iff_D {r : FR} {P : Ent → D → Prop} : FinFD r P ↔ ∃ a o, r = .ok a o ∧ P a o := by
  cases r with
  | ok a e => exact ⟨fun h => ⟨a, e, rfl, h⟩, fun ⟨_, _, z, h⟩ => by cases z; exact h⟩
  | err x e => exact ⟨fun h => h.elim, fun ⟨_, _, z, h⟩ => by cases z⟩
  | bad => exact ⟨fun h => h.elim, fun ⟨_, _, z, h⟩ => by cases z⟩
def EndS (br : Bool) (P : Ent → D → Prop) (fl : Fl) (e : DEnv) : Prop := match fl with
  | .ret r => ∃ o, outOf br e = some o ∧ P r o
  | .nx => ∃ o, outOf br e = some o ∧ P ⟨.shr, .non⟩ o
  | _ => False
@[simp] theorem endS_ret {br : Bool} {P : Ent → D → Prop} {r : Ent} {e : DEnv} : EndS br P (.ret r) e ↔ ∃ o, outOf br e = some o ∧ P r o := Iff.rfl
@[simp] theorem endS_nx {br : Bool} {P : Ent → D → Prop} {e : DEnv} : EndS br P .nx e ↔ ∃ o, outOf br e = some o ∧ P ⟨.shr, .non⟩ o := Iff.rfl
@[simp] theorem outOf_false {e : DEnv} : outOf false e = some .non := rfl
@[simp] theorem outOf_true {d : D} {e : DEnv} : outOf true (some ⟨.own, d⟩ :: e) = some d := rfl
theorem finF_def_D {br : Bool} {n ns : Nat} {body : DS} {args : List Ent} {P : Ent → D → Prop} (hn : args.length = n) (h : FinD (body (args.map some ++ List.replicate (ns - n) none)) (EndS br P)) : FinFD (dDef br n ns body args) P := by
  unfold dDef
  rw [if_pos hn]
  revert h
  cases body (args.map some ++ List.replicate (ns - n) none) with
  | ok fl e =>
    cases fl with
    | nx => exact fun ⟨o, h1, h2⟩ => by simp only [h1]; exact h2
    | ret r => exact fun ⟨o, h1, h2⟩ => by simp only [h1]; exact h2
    | brk => exact fun h => h
    | cnt => exact fun h => h
  | err x e => exact fun h => h.elim
  | bad => exact fun h => h
/-- a function that changes nothing: its answer, told as an equation -/
theorem def_eq_D {n ns : Nat} {body : DS} {args : List Ent} {r : Ent} (hn : args.length = n) (h : FinD (body (args.map some ++ List.replicate (ns - n) none)) fun fl _ => fl = .ret r ∨ (fl = .nx ∧ r = ⟨.shr, .non⟩)) : dDef false n ns body args = .ok r .non := by
  have q := finF_def_D (br := false) (P := fun a o => a = r ∧ o = .non) hn (h.mono fun fl e k => by
    rcases k with rfl | ⟨rfl, rfl⟩
    · exact ⟨.non, rfl, rfl, rfl⟩
    · exact ⟨.non, rfl, rfl, rfl⟩)
  obtain ⟨a, o, e, rfl, rfl⟩ := finF_iff_D.mp q
  exact e
theorem fin_after_D {env : DEnv} {r : FR} {P : Ent → DEnv → Prop} : FinFD r (fun a _ => P a env) → FinD (afterC env r) P := by
  cases r <;> exact id
theorem fin_afterR_D {env : DEnv} {i : Nat} {r : FR} {P : Ent → DEnv → Prop} : FinFD r (fun a o => P a (env.set i (some ⟨.own, o⟩))) → FinD (afterR env i r) P := by
  cases r <;> exact id

/-! ### loops -/
theorem fin_for_from_D {g : DG} {body : DS} {P : Fl → DEnv → Prop} (I : Nat → DEnv → Prop) : ∀ (xs : List D) (k : Nat) (env : DEnv), I k env →
    (∀ j x env, xs[j]? = some x → I (k + j) env → ∃ env1, g x env = some env1 ∧ FinD (body env1) fun fl e => Goes fl ∧ I (k + j + 1) e) →
    (∀ env, I (k + xs.length) env → P .nx env) → FinD (dFor g body xs env) P
  | [], k, env, h, _, z => z env h
  | x :: xs, k, env, h, step, z => by
    obtain ⟨env1, e1, h1⟩ := step 0 x env rfl h
    have go : ∀ env2, I (k + 1) env2 → FinD (dFor g body xs env2) P := fun env2 h2 => fin_for_from_D (g := g) (body := body) I xs (k + 1) env2 h2 (fun j y en hj hi => by
      have q := step (j + 1) y en (by simpa using hj) (by rw [show k + (j + 1) = k + 1 + j by omega]; exact hi)
      rw [show k + (j + 1) + 1 = k + 1 + j + 1 by omega] at q
      exact q) (fun en hi => z en (by rw [List.length_cons, show k + (xs.length + 1) = k + 1 + xs.length by omega]; exact hi))
    rw [dFor, e1]
    revert h1
    simp only [Nat.add_zero]
    cases body env1 with
    | ok fl e2 =>
      cases fl with
      | nx => exact fun ⟨_, h2⟩ => go e2 h2
      | cnt => exact fun ⟨_, h2⟩ => go e2 h2
      | brk => exact fun ⟨h2, _⟩ => h2.elim
      | ret r => exact fun ⟨h2, _⟩ => h2.elim
    | err x e => exact fun h => h
    | bad => exact fun h => h
/-- a loop that goes to its end -/
theorem fin_for_D {g : DG} {body : DS} {P : Fl → DEnv → Prop} {xs : List D} {env : DEnv} (I : Nat → DEnv → Prop) (h0 : I 0 env)
    (step : ∀ j x env, xs[j]? = some x → I j env → ∃ env1, g x env = some env1 ∧ FinD (body env1) fun fl e => Goes fl ∧ I (j + 1) e)
    (z : ∀ env, I xs.length env → P .nx env) : FinD (dFor g body xs env) P :=
  fin_for_from_D I xs 0 env h0 (fun j x en hj hi => by
    rw [Nat.zero_add] at *
    exact step j x en hj hi) (fun en hi => z en (by rw [Nat.zero_add] at hi; exact hi))
theorem fin_while_D {c : DT} {body : DS} {P : Fl → DEnv → Prop} (I : Nat → DEnv → Prop)
    (step : ∀ k env, I k env → FinD (c env) fun b e => if b = true then FinD (body e) (fun fl e2 => Goes fl ∧ ∃ k', k' < k ∧ I k' e2) else P .nx e) : ∀ (n k : Nat) (env : DEnv), k < n → I k env → FinD (dWhile c body n env) P
  | 0, k, env, h, _ => absurd h (Nat.not_lt_zero k)
  | n + 1, k, env, h, hi => by
    have q := step k env hi
    rw [dWhile, fin_bind_D]
    refine q.mono fun b e hb => ?_
    cases b with
    | false => exact hb
    | true =>
      simp only [if_true] at hb ⊢
      revert hb
      cases body e with
      | ok fl e2 =>
        cases fl with
        | nx => exact fun ⟨_, k', h1, h2⟩ => fin_while_D I step n k' e2 (by omega) h2
        | cnt => exact fun ⟨_, k', h1, h2⟩ => fin_while_D I step n k' e2 (by omega) h2
        | brk => exact fun ⟨h2, _⟩ => h2.elim
        | ret r => exact fun ⟨h2, _⟩ => h2.elim
      | err x e => exact fun h => h
      | bad => exact fun h => h
/-- a comprehension without a condition: its items, one by one -/
theorem dLoop_map {vs : List Nat} {g : DG} {e : DE} (I : DEnv → Prop) (F : D → D) : ∀ (xs acc : List D) (env : DEnv), I env → acc.length + xs.length ≤ sizeLine →
    (∀ x ∈ xs, ∀ env, I env → ∃ env1, g x env = some env1 ∧ ∃ env2 md, e env1 = .ok ⟨md, F x⟩ env2 ∧ I (wipeD env2 vs)) →
    ∃ env', dLoop vs g dYes e xs acc env = .ok (acc ++ xs.map F) env' ∧ I env'
  | [], acc, env, h, _, _ => ⟨env, by simp [dLoop], h⟩
  | x :: xs, acc, env, h, hl, step => by
    obtain ⟨env1, e1, env2, md, e2, h2⟩ := step x (List.mem_cons_self ..) env h
    rw [List.length_cons] at hl
    obtain ⟨env', e3, h3⟩ := dLoop_map I F xs (acc ++ [F x]) (wipeD env2 vs) h2 (by rw [List.length_append, List.length_singleton]; omega) fun y hy => step y (List.mem_cons_of_mem _ hy)
    refine ⟨env', ?_, h3⟩
    rw [dLoop, e1]
    simp only [dYes, e2]
    rw [if_pos (by omega), e3, List.map_cons, List.append_assoc]
    rfl

theorem fin_comp_D {vs : List Nat} {it : DI} {g : DG} {e : DE} {env env1 : DEnv} {xs : List D} {P : Ent → DEnv → Prop} (hi : FinD (it env) fun ys e => ys = xs ∧ e = env1) (I : DEnv → Prop) (F : D → D) (h0 : I (wipeD env1 vs)) (hl : xs.length ≤ sizeLine)
    (step : ∀ x ∈ xs, ∀ env, I env → ∃ env1, g x env = some env1 ∧ FinD (e env1) fun r env2 => r.d = F x ∧ I (wipeD env2 vs))
    (z : ∀ env', I env' → P ⟨.own, .lst (xs.map F)⟩ (backD env1 env' vs)) : FinD (dComp vs it g dYes e env) P := by
  obtain ⟨env', e1, h1⟩ := dLoop_map (g := g) (e := e) (vs := vs) I F xs [] (wipeD env1 vs) h0 (by simpa using hl) fun x hx en hI => by
    obtain ⟨en1, q1, q2⟩ := step x hx en hI
    obtain ⟨r, en2, q3, q4, q5⟩ := fin_iff_D.mp q2
    exact ⟨en1, q1, en2, r.md, by rw [q3, ← q4], q5⟩
  obtain ⟨ys, e2, hi1, rfl, rfl⟩ := fin_iff_D.mp hi
  unfold dComp
  rw [hi1, bind_ok, e1]
  exact z env' h1


/-! the same, closed to unfolding -/
structure Fin {α : Type} (r : R α) (P : α → DEnv → Prop) : Prop where
  out : FinD r P
structure FinF (r : FR) (P : Ent → D → Prop) : Prop where
  out : FinFD r P
def bindO {α : Type} (o : Option (List D)) (p : List D → Option α) : Option α := o.bind p
@[simp] theorem bindO_some {α : Type} {l : List D} {p : List D → Option α} : bindO (some l) p = p l := id rfl
theorem fin_eq {α : Type} : @FinD α = @Fin α := by
  funext r P
  exact propext ⟨fun h => ⟨h⟩, fun h => h.out⟩
theorem finF_eq : FinFD = FinF := by
  funext r P
  exact propext ⟨fun h => ⟨h⟩, fun h => h.out⟩
theorem fin_congr {α : Type} {r r' : R α} {P : α → DEnv → Prop} (h : r = r') : Fin r P = Fin r' P := by
  have h := @fin_congr_D
  simp only [fin_eq, finF_eq] at h
  first | exact h | exact h (by assumption) | exact h (by assumption) (by assumption) | exact h _ (by assumption) (by assumption) (by assumption) | exact h _ _ _ _ (by assumption) (by assumption) (by assumption)
@[simp] theorem fin_ok {α : Type} {a : α} {e : DEnv} {P : α → DEnv → Prop} : Fin (.ok a e) P ↔ P a e := by
  have h := @fin_ok_D
  simp only [fin_eq, finF_eq] at h
  first | exact h | exact h (by assumption) | exact h (by assumption) (by assumption) | exact h _ (by assumption) (by assumption) (by assumption) | exact h _ _ _ _ (by assumption) (by assumption) (by assumption)
@[simp] theorem fin_bad {α : Type} {P : α → DEnv → Prop} : Fin (R.bad : R α) P ↔ False := by
  have h := @fin_bad_D
  simp only [fin_eq, finF_eq] at h
  first | exact h | exact h (by assumption) | exact h (by assumption) (by assumption) | exact h _ (by assumption) (by assumption) (by assumption) | exact h _ _ _ _ (by assumption) (by assumption) (by assumption)
@[simp ↓] theorem fin_bind {α β : Type} {r : R α} {f : α → DEnv → R β} {P : β → DEnv → Prop} : Fin (r.bind f) P ↔ Fin r fun a e => Fin (f a e) P := by
  have h := @fin_bind_D
  simp only [fin_eq, finF_eq] at h
  first | exact h | exact h (by assumption) | exact h (by assumption) (by assumption) | exact h _ (by assumption) (by assumption) (by assumption) | exact h _ _ _ _ (by assumption) (by assumption) (by assumption)
theorem fin_iff {α : Type} {r : R α} {P : α → DEnv → Prop} : Fin r P ↔ ∃ a e, r = .ok a e ∧ P a e := by
  have h := @fin_iff_D
  simp only [fin_eq, finF_eq] at h
  first | exact h | exact h (by assumption) | exact h (by assumption) (by assumption) | exact h _ (by assumption) (by assumption) (by assumption) | exact h _ _ _ _ (by assumption) (by assumption) (by assumption)
theorem Fin.mono {α : Type} {r : R α} {P P' : α → DEnv → Prop} (h : Fin r P) (k : ∀ a e, P a e → P' a e) : Fin r P' := by
  have h := @FinD.mono
  simp only [fin_eq, finF_eq] at h
  first | exact h | exact h (by assumption) | exact h (by assumption) (by assumption) | exact h _ (by assumption) (by assumption) (by assumption) | exact h _ _ _ _ (by assumption) (by assumption) (by assumption)
@[simp ↓] theorem contS_nx {b : DS} {e : DEnv} {P : Fl → DEnv → Prop} : Fin (contS b .nx e) P ↔ Fin (b e) P := by
  have h := @contS_nx_D
  simp only [fin_eq, finF_eq] at h
  first | exact h | exact h (by assumption) | exact h (by assumption) (by assumption) | exact h _ (by assumption) (by assumption) (by assumption) | exact h _ _ _ _ (by assumption) (by assumption) (by assumption)
@[simp ↓] theorem contS_ret {b : DS} {r : Ent} {e : DEnv} {P : Fl → DEnv → Prop} : Fin (contS b (.ret r) e) P ↔ P (.ret r) e := by
  have h := @contS_ret_D
  simp only [fin_eq, finF_eq] at h
  first | exact h | exact h (by assumption) | exact h (by assumption) (by assumption) | exact h _ (by assumption) (by assumption) (by assumption) | exact h _ _ _ _ (by assumption) (by assumption) (by assumption)
@[simp ↓] theorem contS_brk {b : DS} {e : DEnv} {P : Fl → DEnv → Prop} : Fin (contS b .brk e) P ↔ P .brk e := by
  have h := @contS_brk_D
  simp only [fin_eq, finF_eq] at h
  first | exact h | exact h (by assumption) | exact h (by assumption) (by assumption) | exact h _ (by assumption) (by assumption) (by assumption) | exact h _ _ _ _ (by assumption) (by assumption) (by assumption)
@[simp ↓] theorem contS_cnt {b : DS} {e : DEnv} {P : Fl → DEnv → Prop} : Fin (contS b .cnt e) P ↔ P .cnt e := by
  have h := @contS_cnt_D
  simp only [fin_eq, finF_eq] at h
  first | exact h | exact h (by assumption) | exact h (by assumption) (by assumption) | exact h _ (by assumption) (by assumption) (by assumption) | exact h _ _ _ _ (by assumption) (by assumption) (by assumption)
@[simp ↓] theorem fin_seq {a b : DS} {env : DEnv} {P : Fl → DEnv → Prop} : Fin (dSeq a b env) P ↔ Fin (a env) fun fl e => Fin (contS b fl e) P := by
  have h := @fin_seq_D
  simp only [fin_eq, finF_eq] at h
  first | exact h | exact h (by assumption) | exact h (by assumption) (by assumption) | exact h _ (by assumption) (by assumption) (by assumption) | exact h _ _ _ _ (by assumption) (by assumption) (by assumption)
@[simp] theorem fin_ofO {e : Ent} {env : DEnv} {P : Ent → DEnv → Prop} : Fin (ofO (some (some e)) env) P ↔ P e env := by
  have h := @fin_ofO_D
  simp only [fin_eq, finF_eq] at h
  first | exact h | exact h (by assumption) | exact h (by assumption) (by assumption) | exact h _ (by assumption) (by assumption) (by assumption) | exact h _ _ _ _ (by assumption) (by assumption) (by assumption)
@[simp] theorem fin_resD {x : D} {env : DEnv} {P : Ent → DEnv → Prop} : Fin (resP (some (.d x)) env) P ↔ P ⟨.shr, x⟩ env := by
  have h := @fin_resD_D
  simp only [fin_eq, finF_eq] at h
  first | exact h | exact h (by assumption) | exact h (by assumption) (by assumption) | exact h _ (by assumption) (by assumption) (by assumption) | exact h _ _ _ _ (by assumption) (by assumption) (by assumption)
@[simp] theorem fin_resN {xs : List D} {env : DEnv} {P : Ent → DEnv → Prop} : Fin (resP (some (.nl xs)) env) P ↔ P ⟨.own, .lst xs⟩ env := by
  have h := @fin_resN_D
  simp only [fin_eq, finF_eq] at h
  first | exact h | exact h (by assumption) | exact h (by assumption) (by assumption) | exact h _ (by assumption) (by assumption) (by assumption) | exact h _ _ _ _ (by assumption) (by assumption) (by assumption)
@[simp] theorem fin_resA {α : Type} {x : α} {env : DEnv} {P : α → DEnv → Prop} : Fin (resA (some x) env) P ↔ P x env := by
  have h := @fin_resA_D
  simp only [fin_eq, finF_eq] at h
  first | exact h | exact h (by assumption) | exact h (by assumption) (by assumption) | exact h _ (by assumption) (by assumption) (by assumption) | exact h _ _ _ _ (by assumption) (by assumption) (by assumption)
section
variable {env : DEnv} {PF : Fl → DEnv → Prop} {PE : Ent → DEnv → Prop} {PB : Bool → DEnv → Prop} {PL : List D → DEnv → Prop}
@[simp ↓] theorem fin_ifs {c : DT} {a b : DS} : Fin (dIfS c a b env) PF ↔ Fin (c env) fun k e => Fin (if k = true then a e else b e) PF := by
  have h := @fin_ifs_D
  simp only [fin_eq, finF_eq] at h
  first | exact h | exact h (by assumption) | exact h (by assumption) (by assumption) | exact h _ (by assumption) (by assumption) (by assumption) | exact h _ _ _ _ (by assumption) (by assumption) (by assumption)
@[simp ↓] theorem fin_next : Fin (dNext env) PF ↔ PF .nx env := by
  have h := @fin_next_D
  simp only [fin_eq, finF_eq] at h
  first | exact h | exact h (by assumption) | exact h (by assumption) (by assumption) | exact h _ (by assumption) (by assumption) (by assumption) | exact h _ _ _ _ (by assumption) (by assumption) (by assumption)
@[simp ↓] theorem fin_brk : Fin (dBrk env) PF ↔ PF .brk env := by
  have h := @fin_brk_D
  simp only [fin_eq, finF_eq] at h
  first | exact h | exact h (by assumption) | exact h (by assumption) (by assumption) | exact h _ (by assumption) (by assumption) (by assumption) | exact h _ _ _ _ (by assumption) (by assumption) (by assumption)
@[simp ↓] theorem fin_cnt : Fin (dCnt env) PF ↔ PF .cnt env := by
  have h := @fin_cnt_D
  simp only [fin_eq, finF_eq] at h
  first | exact h | exact h (by assumption) | exact h (by assumption) (by assumption) | exact h _ (by assumption) (by assumption) (by assumption) | exact h _ _ _ _ (by assumption) (by assumption) (by assumption)
@[simp ↓] theorem fin_never : Fin (dNever env) PF ↔ False := by
  have h := @fin_never_D
  simp only [fin_eq, finF_eq] at h
  first | exact h | exact h (by assumption) | exact h (by assumption) (by assumption) | exact h _ (by assumption) (by assumption) (by assumption) | exact h _ _ _ _ (by assumption) (by assumption) (by assumption)
@[simp ↓] theorem fin_set {i : Nat} {m : DE} : Fin (dSet i m env) PF ↔ Fin (m env) fun r e => PF .nx (e.set i (some r)) := by
  have h := @fin_set_D
  simp only [fin_eq, finF_eq] at h
  first | exact h | exact h (by assumption) | exact h (by assumption) (by assumption) | exact h _ (by assumption) (by assumption) (by assumption) | exact h _ _ _ _ (by assumption) (by assumption) (by assumption)
@[simp ↓] theorem fin_drop {m : DE} : Fin (dDrop m env) PF ↔ Fin (m env) fun r e => PF .nx e := by
  have h := @fin_drop_D
  simp only [fin_eq, finF_eq] at h
  first | exact h | exact h (by assumption) | exact h (by assumption) (by assumption) | exact h _ (by assumption) (by assumption) (by assumption) | exact h _ _ _ _ (by assumption) (by assumption) (by assumption)
@[simp ↓] theorem fin_ret {m : DE} : Fin (dRet m env) PF ↔ Fin (m env) fun r e => PF (.ret r) e := by
  have h := @fin_ret_D
  simp only [fin_eq, finF_eq] at h
  first | exact h | exact h (by assumption) | exact h (by assumption) (by assumption) | exact h _ (by assumption) (by assumption) (by assumption) | exact h _ _ _ _ (by assumption) (by assumption) (by assumption)
@[simp ↓] theorem fin_retV {i : Nat} : Fin (dRetV i env) PF ↔ Fin (ofO env[i]? env) fun r e => PF (.ret r) (e.set i none) := by
  have h := @fin_retV_D
  simp only [fin_eq, finF_eq] at h
  first | exact h | exact h (by assumption) | exact h (by assumption) (by assumption) | exact h _ (by assumption) (by assumption) (by assumption) | exact h _ _ _ _ (by assumption) (by assumption) (by assumption)
@[simp ↓] theorem fin_c {d : D} : Fin (dC d env) PE ↔ PE ⟨.shr, d⟩ env := by
  have h := @fin_c_D
  simp only [fin_eq, finF_eq] at h
  first | exact h | exact h (by assumption) | exact h (by assumption) (by assumption) | exact h _ (by assumption) (by assumption) (by assumption) | exact h _ _ _ _ (by assumption) (by assumption) (by assumption)
@[simp ↓] theorem fin_var {i : Nat} : Fin (dVar i env) PE ↔ Fin (ofO env[i]? env) fun r e => PE ⟨.shr, r.d⟩ (e.set i (some ⟨.shr, r.d⟩)) := by
  have h := @fin_var_D
  simp only [fin_eq, finF_eq] at h
  first | exact h | exact h (by assumption) | exact h (by assumption) (by assumption) | exact h _ (by assumption) (by assumption) (by assumption) | exact h _ _ _ _ (by assumption) (by assumption) (by assumption)
@[simp ↓] theorem fin_os_nil {P : List AV → DEnv → Prop} : Fin (evOs [] env) P ↔ P [] env := by
  have h := @fin_os_nil_D
  simp only [fin_eq, finF_eq] at h
  first | exact h | exact h (by assumption) | exact h (by assumption) (by assumption) | exact h _ (by assumption) (by assumption) (by assumption) | exact h _ _ _ _ (by assumption) (by assumption) (by assumption)
@[simp ↓] theorem fin_os_v {m : DE} {os : List Opd} {P : List AV → DEnv → Prop} : Fin (evOs (.v m :: os) env) P ↔ Fin (m env) fun r e => Fin (evOs os e) fun avs e2 => P (.d r.d :: avs) e2 := by
  have h := @fin_os_v_D
  simp only [fin_eq, finF_eq] at h
  first | exact h | exact h (by assumption) | exact h (by assumption) (by assumption) | exact h _ (by assumption) (by assumption) (by assumption) | exact h _ _ _ _ (by assumption) (by assumption) (by assumption)
@[simp ↓] theorem fin_os_s {i : Nat} {os : List Opd} {P : List AV → DEnv → Prop} : Fin (evOs (.s i :: os) env) P ↔ Fin (ofO env[i]? env) fun _ e => Fin (evOs os e) fun avs e2 => P (.s i :: avs) e2 := by
  have h := @fin_os_s_D
  simp only [fin_eq, finF_eq] at h
  first | exact h | exact h (by assumption) | exact h (by assumption) (by assumption) | exact h _ (by assumption) (by assumption) (by assumption) | exact h _ _ _ _ (by assumption) (by assumption) (by assumption)
@[simp ↓] theorem fin_prim {p : Pr} {os : List Opd} : Fin (dPrim p os env) PE ↔ Fin (evOs os env) fun avs e => Fin (resP (bindO (getAVs e avs) p) e) PE := by
  have h := @fin_prim_D
  simp only [fin_eq, finF_eq] at h
  first | exact h | exact h (by assumption) | exact h (by assumption) (by assumption) | exact h _ (by assumption) (by assumption) (by assumption) | exact h _ _ _ _ (by assumption) (by assumption) (by assumption)
@[simp ↓] theorem fin_tstB {b : Bool} : Fin (tstB ⟨.shr, .bl b⟩ env) PB ↔ PB b env := by
  have h := @fin_tstB_D
  simp only [fin_eq, finF_eq] at h
  first | exact h | exact h (by assumption) | exact h (by assumption) (by assumption) | exact h _ (by assumption) (by assumption) (by assumption) | exact h _ _ _ _ (by assumption) (by assumption) (by assumption)
@[simp ↓] theorem fin_tst {m : DE} : Fin (dTst m env) PB ↔ Fin (m env) fun r e => Fin (tstB r e) PB := by
  have h := @fin_tst_D
  simp only [fin_eq, finF_eq] at h
  first | exact h | exact h (by assumption) | exact h (by assumption) (by assumption) | exact h _ (by assumption) (by assumption) (by assumption) | exact h _ _ _ _ (by assumption) (by assumption) (by assumption)
@[simp ↓] theorem fin_and {a b : DT} : Fin (dAnd a b env) PB ↔ Fin (a env) fun c e => Fin (if c = true then b e else .ok false e) PB := by
  have h := @fin_and_D
  simp only [fin_eq, finF_eq] at h
  first | exact h | exact h (by assumption) | exact h (by assumption) (by assumption) | exact h _ (by assumption) (by assumption) (by assumption) | exact h _ _ _ _ (by assumption) (by assumption) (by assumption)
@[simp ↓] theorem fin_or {a b : DT} : Fin (dOr a b env) PB ↔ Fin (a env) fun c e => Fin (if c = true then .ok true e else b e) PB := by
  have h := @fin_or_D
  simp only [fin_eq, finF_eq] at h
  first | exact h | exact h (by assumption) | exact h (by assumption) (by assumption) | exact h _ (by assumption) (by assumption) (by assumption) | exact h _ _ _ _ (by assumption) (by assumption) (by assumption)
@[simp ↓] theorem fin_not {a : DT} : Fin (dNot a env) PB ↔ Fin (a env) fun c e => PB (!c) e := by
  have h := @fin_not_D
  simp only [fin_eq, finF_eq] at h
  first | exact h | exact h (by assumption) | exact h (by assumption) (by assumption) | exact h _ (by assumption) (by assumption) (by assumption) | exact h _ _ _ _ (by assumption) (by assumption) (by assumption)
@[simp ↓] theorem fin_yes : Fin (dYes env) PB ↔ PB true env := by
  have h := @fin_yes_D
  simp only [fin_eq, finF_eq] at h
  first | exact h | exact h (by assumption) | exact h (by assumption) (by assumption) | exact h _ (by assumption) (by assumption) (by assumption) | exact h _ _ _ _ (by assumption) (by assumption) (by assumption)
@[simp ↓] theorem fin_B {m : DT} : Fin (dB m env) PE ↔ Fin (m env) fun b e => PE ⟨.shr, .bl b⟩ e := by
  have h := @fin_B_D
  simp only [fin_eq, finF_eq] at h
  first | exact h | exact h (by assumption) | exact h (by assumption) (by assumption) | exact h _ (by assumption) (by assumption) (by assumption) | exact h _ _ _ _ (by assumption) (by assumption) (by assumption)
@[simp ↓] theorem fin_andV {a : DT} {b : DE} : Fin (dAndV a b env) PE ↔ Fin (a env) fun c e => Fin (if c = true then b e else .ok ⟨.shr, .bl false⟩ e) PE := by
  have h := @fin_andV_D
  simp only [fin_eq, finF_eq] at h
  first | exact h | exact h (by assumption) | exact h (by assumption) (by assumption) | exact h _ (by assumption) (by assumption) (by assumption) | exact h _ _ _ _ (by assumption) (by assumption) (by assumption)
@[simp ↓] theorem fin_orV {a : DT} {b : DE} : Fin (dOrV a b env) PE ↔ Fin (a env) fun c e => Fin (if c = true then .ok ⟨.shr, .bl true⟩ e else b e) PE := by
  have h := @fin_orV_D
  simp only [fin_eq, finF_eq] at h
  first | exact h | exact h (by assumption) | exact h (by assumption) (by assumption) | exact h _ (by assumption) (by assumption) (by assumption) | exact h _ _ _ _ (by assumption) (by assumption) (by assumption)
@[simp ↓] theorem fin_if {c : DT} {a b : DE} : Fin (dIf c a b env) PE ↔ Fin (c env) fun k e => Fin (if k = true then a e else b e) PE := by
  have h := @fin_if_D
  simp only [fin_eq, finF_eq] at h
  first | exact h | exact h (by assumption) | exact h (by assumption) (by assumption) | exact h _ (by assumption) (by assumption) (by assumption) | exact h _ _ _ _ (by assumption) (by assumption) (by assumption)
@[simp] theorem fin_chainN {p' : Pr} {oc : Opd} {y : D} {k : Bool} : Fin (chainN p' oc (some y) (some (.d (.bl k))) env) PE ↔ Fin (if k = true then dPrim p' [.v (dC y), oc] env else .ok ⟨.shr, .bl false⟩ env) PE := by
  have h := @fin_chainN_D
  simp only [fin_eq, finF_eq] at h
  first | exact h | exact h (by assumption) | exact h (by assumption) (by assumption) | exact h _ (by assumption) (by assumption) (by assumption) | exact h _ _ _ _ (by assumption) (by assumption) (by assumption)
@[simp ↓] theorem fin_chain {p p' : Pr} {oa ob oc : Opd} : Fin (dChain p p' oa ob oc env) PE ↔ Fin (evOs [oa, ob] env) fun avs e => Fin (chainN p' oc (secondV avs) (bindO (getAVs e avs) p) e) PE := by
  have h := @fin_chain_D
  simp only [fin_eq, finF_eq] at h
  first | exact h | exact h (by assumption) | exact h (by assumption) (by assumption) | exact h _ (by assumption) (by assumption) (by assumption) | exact h _ _ _ _ (by assumption) (by assumption) (by assumption)
@[simp ↓] theorem fin_call {f : DFn} {os : List Opd} : Fin (dCall f os env) PE ↔ Fin (evOs os env) fun avs e => Fin (resA (getAVs e avs) e) fun ds e => Fin (afterC e (f (shrs ds))) PE := by
  have h := @fin_call_D
  simp only [fin_eq, finF_eq] at h
  first | exact h | exact h (by assumption) | exact h (by assumption) (by assumption) | exact h _ (by assumption) (by assumption) (by assumption) | exact h _ _ _ _ (by assumption) (by assumption) (by assumption)
@[simp] theorem fin_afterOk {r : Ent} {o : D} : Fin (afterC env (.ok r o)) PE ↔ PE r env := by
  have h := @fin_afterOk_D
  simp only [fin_eq, finF_eq] at h
  first | exact h | exact h (by assumption) | exact h (by assumption) (by assumption) | exact h _ (by assumption) (by assumption) (by assumption) | exact h _ _ _ _ (by assumption) (by assumption) (by assumption)
@[simp] theorem fin_afterROk {r : Ent} {o : D} {i : Nat} : Fin (afterR env i (.ok r o)) PE ↔ PE r (env.set i (some ⟨.own, o⟩)) := by
  have h := @fin_afterROk_D
  simp only [fin_eq, finF_eq] at h
  first | exact h | exact h (by assumption) | exact h (by assumption) (by assumption) | exact h _ (by assumption) (by assumption) (by assumption) | exact h _ _ _ _ (by assumption) (by assumption) (by assumption)
@[simp] theorem fin_ownO {d : D} {P : D → DEnv → Prop} : Fin (ownO (some (some ⟨.own, d⟩)) env) P ↔ P d env := by
  have h := @fin_ownO_D
  simp only [fin_eq, finF_eq] at h
  first | exact h | exact h (by assumption) | exact h (by assumption) (by assumption) | exact h _ (by assumption) (by assumption) (by assumption) | exact h _ _ _ _ (by assumption) (by assumption) (by assumption)
@[simp] theorem fin_ownL {d : List D} : Fin (ownL (some (some ⟨.own, .lst d⟩)) env) PL ↔ PL d env := by
  have h := @fin_ownL_D
  simp only [fin_eq, finF_eq] at h
  first | exact h | exact h (by assumption) | exact h (by assumption) (by assumption) | exact h _ (by assumption) (by assumption) (by assumption) | exact h _ _ _ _ (by assumption) (by assumption) (by assumption)
@[simp ↓] theorem fin_callR {f : DFn} {i : Nat} {os : List Opd} : Fin (dCallR f i os env) PE ↔ Fin (ownO env[i]? env) fun _ e => Fin (evOs os e) fun avs e => Fin (resA (getAVs e avs) e) fun ds e => Fin (ownO e[i]? e) fun d e => Fin (afterR e i (f (⟨.own, d⟩ :: shrs ds))) PE := by
  have h := @fin_callR_D
  simp only [fin_eq, finF_eq] at h
  first | exact h | exact h (by assumption) | exact h (by assumption) (by assumption) | exact h _ (by assumption) (by assumption) (by assumption) | exact h _ _ _ _ (by assumption) (by assumption) (by assumption)
@[simp ↓] theorem fin_mut {op : List D → List D → Option (List D × D)} {i : Nat} {os : List Opd} : Fin (dMut op i os env) PE ↔ Fin (ownL env[i]? env) fun _ e => Fin (evOs os e) fun avs e => Fin (resA (getAVs e avs) e) fun ds e => Fin (ownL e[i]? e) fun xs e => Fin (resA (op xs ds) e) fun y e => PE ⟨.shr, y.2⟩ (e.set i (some ⟨.own, .lst y.1⟩)) := by
  have h := @fin_mut_D
  simp only [fin_eq, finF_eq] at h
  first | exact h | exact h (by assumption) | exact h (by assumption) (by assumption) | exact h _ (by assumption) (by assumption) (by assumption) | exact h _ _ _ _ (by assumption) (by assumption) (by assumption)
@[simp] theorem fin_intO {k : Int} {P : Int → DEnv → Prop} : Fin (intO (some [.int k]) env) P ↔ P k env := by
  have h := @fin_intO_D
  simp only [fin_eq, finF_eq] at h
  first | exact h | exact h (by assumption) | exact h (by assumption) (by assumption) | exact h _ (by assumption) (by assumption) (by assumption) | exact h _ _ _ _ (by assumption) (by assumption) (by assumption)
@[simp ↓] theorem fin_setIx {i : Nat} {os : List Opd} {m : DE} : Fin (dSetIx i os m env) PF ↔ Fin (m env) fun r e => Fin (ownL e[i]? e) fun _ e => Fin (evOs os e) fun avs e => Fin (intO (getAVs e avs) e) fun k e => Fin (ownL e[i]? e) fun xs e => Fin (resA (ixN xs.length k) e) fun j e => PF .nx (e.set i (some ⟨.own, .lst (xs.set j r.d)⟩)) := by
  have h := @fin_setIx_D
  simp only [fin_eq, finF_eq] at h
  first | exact h | exact h (by assumption) | exact h (by assumption) (by assumption) | exact h _ (by assumption) (by assumption) (by assumption) | exact h _ _ _ _ (by assumption) (by assumption) (by assumption)
@[simp ↓] theorem fin_intB {b : Int} {P : Option Int → DEnv → Prop} : Fin (intB ⟨.shr, .int b⟩ env) P ↔ P (some b) env := by
  have h := @fin_intB_D
  simp only [fin_eq, finF_eq] at h
  first | exact h | exact h (by assumption) | exact h (by assumption) (by assumption) | exact h _ (by assumption) (by assumption) (by assumption) | exact h _ _ _ _ (by assumption) (by assumption) (by assumption)
@[simp ↓] theorem fin_partN {P : Option Int → DEnv → Prop} : Fin (dPart none env) P ↔ P none env := by
  have h := @fin_partN_D
  simp only [fin_eq, finF_eq] at h
  first | exact h | exact h (by assumption) | exact h (by assumption) (by assumption) | exact h _ (by assumption) (by assumption) (by assumption) | exact h _ _ _ _ (by assumption) (by assumption) (by assumption)
@[simp ↓] theorem fin_partS {m : DE} {P : Option Int → DEnv → Prop} : Fin (dPart (some m) env) P ↔ Fin (m env) fun r e => Fin (intB r e) P := by
  have h := @fin_partS_D
  simp only [fin_eq, finF_eq] at h
  first | exact h | exact h (by assumption) | exact h (by assumption) (by assumption) | exact h _ (by assumption) (by assumption) (by assumption) | exact h _ _ _ _ (by assumption) (by assumption) (by assumption)
@[simp] theorem fin_oneO {d : D} {P : D → DEnv → Prop} : Fin (oneO (some [d]) env) P ↔ P d env := by
  have h := @fin_oneO_D
  simp only [fin_eq, finF_eq] at h
  first | exact h | exact h (by assumption) | exact h (by assumption) (by assumption) | exact h _ (by assumption) (by assumption) (by assumption) | exact h _ _ _ _ (by assumption) (by assumption) (by assumption)
@[simp ↓] theorem fin_slice {p : Ps} {o : Opd} {lo hi : Option DE} : Fin (dSlice p o lo hi env) PE ↔ Fin (evOs [o] env) fun avs e => Fin (dPart lo e) fun l e => Fin (dPart hi e) fun u e => Fin (oneO (getAVs e avs) e) fun d e => Fin (resP (p d l u) e) PE := by
  have h := @fin_slice_D
  simp only [fin_eq, finF_eq] at h
  first | exact h | exact h (by assumption) | exact h (by assumption) (by assumption) | exact h _ (by assumption) (by assumption) (by assumption) | exact h _ _ _ _ (by assumption) (by assumption) (by assumption)
@[simp ↓] theorem fin_forI {it : DI} {g : DG} {body : DS} : Fin (dForI it g body env) PF ↔ Fin (it env) fun xs e => Fin (dFor g body xs e) PF := by
  have h := @fin_forI_D
  simp only [fin_eq, finF_eq] at h
  first | exact h | exact h (by assumption) | exact h (by assumption) (by assumption) | exact h _ (by assumption) (by assumption) (by assumption) | exact h _ _ _ _ (by assumption) (by assumption) (by assumption)
@[simp ↓] theorem fin_iArgs {p : List D → Option (List D)} {os : List Opd} : Fin (iArgs p os env) PL ↔ Fin (evOs os env) fun avs e => Fin (resA (bindO (getAVs e avs) p) e) PL := by
  have h := @fin_iArgs_D
  simp only [fin_eq, finF_eq] at h
  first | exact h | exact h (by assumption) | exact h (by assumption) (by assumption) | exact h _ (by assumption) (by assumption) (by assumption) | exact h _ _ _ _ (by assumption) (by assumption) (by assumption)
@[simp ↓] theorem fin_iSeq {m : DE} : Fin (iSeq m env) PL ↔ Fin (m env) fun r e => Fin (resA (dSeqOf r.d) e) PL := by
  have h := @fin_iSeq_D
  simp only [fin_eq, finF_eq] at h
  first | exact h | exact h (by assumption) | exact h (by assumption) (by assumption) | exact h _ (by assumption) (by assumption) (by assumption) | exact h _ _ _ _ (by assumption) (by assumption) (by assumption)
end
theorem finF_congr {r r' : FR} {P : Ent → D → Prop} (h : r = r') : FinF r P = FinF r' P := by
  have h := @finF_congr_D
  simp only [fin_eq, finF_eq] at h
  first | exact h | exact h (by assumption) | exact h (by assumption) (by assumption) | exact h _ (by assumption) (by assumption) (by assumption) | exact h _ _ _ _ (by assumption) (by assumption) (by assumption)
@[simp] theorem finF_ok {a : Ent} {o : D} {P : Ent → D → Prop} : FinF (.ok a o) P ↔ P a o := by
  have h := @finF_ok_D
  simp only [fin_eq, finF_eq] at h
  first | exact h | exact h (by assumption) | exact h (by assumption) (by assumption) | exact h _ (by assumption) (by assumption) (by assumption) | exact h _ _ _ _ (by assumption) (by assumption) (by assumption)
theorem finF_iff {r : FR} {P : Ent → D → Prop} : FinF r P ↔ ∃ a o, r = .ok a o ∧ P a o := by
  have h := @finF_iff_D
  simp only [fin_eq, finF_eq] at h
  first | exact h | exact h (by assumption) | exact h (by assumption) (by assumption) | exact h _ (by assumption) (by assumption) (by assumption) | exact h _ _ _ _ (by assumption) (by assumption) (by assumption)
theorem finF_def {br : Bool} {n ns : Nat} {body : DS} {args : List Ent} {P : Ent → D → Prop} (hn : args.length = n) (h : Fin (body (args.map some ++ List.replicate (ns - n) none)) (EndS br P)) : FinF (dDef br n ns body args) P := by
  have h := @finF_def_D
  simp only [fin_eq, finF_eq] at h
  first | exact h | exact h (by assumption) | exact h (by assumption) (by assumption) | exact h _ (by assumption) (by assumption) (by assumption) | exact h _ _ _ _ (by assumption) (by assumption) (by assumption)
theorem def_eq {n ns : Nat} {body : DS} {args : List Ent} {r : Ent} (hn : args.length = n) (h : Fin (body (args.map some ++ List.replicate (ns - n) none)) fun fl _ => fl = .ret r ∨ (fl = .nx ∧ r = ⟨.shr, .non⟩)) : dDef false n ns body args = .ok r .non := by
  have h := @def_eq_D
  simp only [fin_eq, finF_eq] at h
  first | exact h | exact h (by assumption) | exact h (by assumption) (by assumption) | exact h _ (by assumption) (by assumption) (by assumption) | exact h _ _ _ _ (by assumption) (by assumption) (by assumption)
theorem fin_after {env : DEnv} {r : FR} {P : Ent → DEnv → Prop} : FinF r (fun a _ => P a env) → Fin (afterC env r) P := by
  have h := @fin_after_D
  simp only [fin_eq, finF_eq] at h
  first | exact h | exact h (by assumption) | exact h (by assumption) (by assumption) | exact h _ (by assumption) (by assumption) (by assumption) | exact h _ _ _ _ (by assumption) (by assumption) (by assumption)
theorem fin_afterR {env : DEnv} {i : Nat} {r : FR} {P : Ent → DEnv → Prop} : FinF r (fun a o => P a (env.set i (some ⟨.own, o⟩))) → Fin (afterR env i r) P := by
  have h := @fin_afterR_D
  simp only [fin_eq, finF_eq] at h
  first | exact h | exact h (by assumption) | exact h (by assumption) (by assumption) | exact h _ (by assumption) (by assumption) (by assumption) | exact h _ _ _ _ (by assumption) (by assumption) (by assumption)
theorem fin_for_from {g : DG} {body : DS} {P : Fl → DEnv → Prop} (I : Nat → DEnv → Prop) : ∀ (xs : List D) (k : Nat) (env : DEnv), I k env →
    (∀ j x env, xs[j]? = some x → I (k + j) env → ∃ env1, g x env = some env1 ∧ Fin (body env1) fun fl e => Goes fl ∧ I (k + j + 1) e) →
    (∀ env, I (k + xs.length) env → P .nx env) → Fin (dFor g body xs env) P := by
  have h := @fin_for_from_D
  simp only [fin_eq, finF_eq] at h
  first | exact h | exact h (by assumption) | exact h (by assumption) (by assumption) | exact h _ (by assumption) (by assumption) (by assumption) | exact h _ _ _ _ (by assumption) (by assumption) (by assumption)
theorem fin_for {g : DG} {body : DS} {P : Fl → DEnv → Prop} {xs : List D} {env : DEnv} (I : Nat → DEnv → Prop) (h0 : I 0 env)
    (step : ∀ j x env, xs[j]? = some x → I j env → ∃ env1, g x env = some env1 ∧ Fin (body env1) fun fl e => Goes fl ∧ I (j + 1) e)
    (z : ∀ env, I xs.length env → P .nx env) : Fin (dFor g body xs env) P := by
  have h := @fin_for_D
  simp only [fin_eq, finF_eq] at h
  first | exact h | exact h (by assumption) | exact h (by assumption) (by assumption) | exact h _ (by assumption) (by assumption) (by assumption) | exact h _ _ _ _ (by assumption) (by assumption) (by assumption)
theorem fin_while {c : DT} {body : DS} {P : Fl → DEnv → Prop} (I : Nat → DEnv → Prop)
    (step : ∀ k env, I k env → Fin (c env) fun b e => if b = true then Fin (body e) (fun fl e2 => Goes fl ∧ ∃ k', k' < k ∧ I k' e2) else P .nx e) : ∀ (n k : Nat) (env : DEnv), k < n → I k env → Fin (dWhile c body n env) P := by
  have h := @fin_while_D
  simp only [fin_eq, finF_eq] at h
  first | exact h | exact h (by assumption) | exact h (by assumption) (by assumption) | exact h _ (by assumption) (by assumption) (by assumption) | exact h _ _ _ _ (by assumption) (by assumption) (by assumption)
theorem fin_comp {vs : List Nat} {it : DI} {g : DG} {e : DE} {env env1 : DEnv} {xs : List D} {P : Ent → DEnv → Prop} (hi : Fin (it env) fun ys e => ys = xs ∧ e = env1) (I : DEnv → Prop) (F : D → D) (h0 : I (wipeD env1 vs)) (hl : xs.length ≤ sizeLine)
    (step : ∀ x ∈ xs, ∀ env, I env → ∃ env1, g x env = some env1 ∧ Fin (e env1) fun r env2 => r.d = F x ∧ I (wipeD env2 vs))
    (z : ∀ env', I env' → P ⟨.own, .lst (xs.map F)⟩ (backD env1 env' vs)) : Fin (dComp vs it g dYes e env) P := by
  have h := @fin_comp_D
  simp only [fin_eq, finF_eq] at h
  exact h hi I F h0 hl step z

/-! ### positions -/
theorem atI_nat {α : Type} (xs : List α) (n : Nat) : atI xs (n : Int) = xs[n]? := by
  unfold atI ixN
  rw [if_pos (by omega)]
  by_cases h : n < xs.length
  · rw [if_pos (by omega)]
    simp
  · rw [if_neg (by omega)]
    simp at h
    simp [h]
theorem atI_last {α : Type} (xs : List α) (a : α) : atI (xs ++ [a]) (-1) = some a := by
  unfold atI ixN
  rw [if_neg (by omega), if_pos (by rw [List.length_append, List.length_singleton]; omega)]
  rw [List.length_append, List.length_singleton, Option.bind_some, show ((-1 : Int) + ((xs.length + 1 : Nat) : Int)).toNat = xs.length by omega]
  simp
@[simp] theorem atI_0 {α : Type} (xs : List α) : atI xs 0 = xs[0]? := atI_nat xs 0
@[simp] theorem atI_1 {α : Type} (xs : List α) : atI xs 1 = xs[1]? := atI_nat xs 1
@[simp] theorem atI_2 {α : Type} (xs : List α) : atI xs 2 = xs[2]? := atI_nat xs 2
@[simp] theorem atI_3 {α : Type} (xs : List α) : atI xs 3 = xs[3]? := atI_nat xs 3
theorem ixN_nat {n k : Nat} (h : k < n) : ixN n (k : Int) = some k := by
  unfold ixN
  rw [if_pos (by omega), if_pos (by omega)]
  simp
theorem ixN_0 {n : Nat} (h : 0 < n) : ixN n 0 = some 0 := ixN_nat h
theorem ixN_1 {n : Nat} (h : 1 < n) : ixN n 1 = some 1 := ixN_nat h
theorem ixN_2 {n : Nat} (h : 2 < n) : ixN n 2 = some 2 := ixN_nat h

/-! ### numbers in a row -/
def dNats (ns : List Nat) : List D := ns.map fun n => .int (n : Nat)
theorem mem_rngD {lo : Int} : ∀ {n : Nat} {d : D}, d ∈ rngD lo n → ∃ k : Int, d = .int k ∧ lo ≤ k ∧ k < lo + n
  | n + 1, d, h => by
    rcases List.mem_cons.mp h with rfl | h
    · exact ⟨lo, rfl, by omega, by omega⟩
    · obtain ⟨k, rfl, h1, h2⟩ := mem_rngD h
      exact ⟨k, rfl, by omega, by omega⟩

/-! ### values told equal, shown -/
theorem plains_nats : ∀ ns : List Nat, plains (dNats ns) = true
  | [] => by simp only [dNats, List.map_nil, plains]
  | n :: ns => by
    have := plains_nats ns
    simp only [dNats, List.map_cons, plains, plain, Bool.true_and] at *
    exact this
theorem toPs_nats : ∀ ns : List Nat, toPs (dNats ns) = ns.map fun n => PyData.int (n : Nat)
  | [] => by simp only [dNats, List.map_nil, toPs]
  | n :: ns => by
    have := toPs_nats ns
    simp only [dNats, List.map_cons, toPs, toP] at *
    rw [this]
theorem shaped_nats (ns : List Nat) : SeqAt.shaped (.tuple (ns.map fun n => PyData.int (n : Nat))) = true := by
  have h1 : ∀ ms : List Nat, PyData.canLayAll0 (ms.map fun n => PyData.int (n : Nat)) = true := fun ms => by
    induction ms with
    | nil => simp only [List.map_nil, PyData.canLayAll0]
    | cons m ms ih => simp only [List.map_cons, PyData.canLayAll0, PyData.canLay0, ih, Bool.and_self]
  have h2 : ∀ ms : List Nat, PyData.depthAll (ms.map fun n => PyData.int (n : Nat)) = 0 := fun ms => by
    induction ms with
    | nil => simp only [List.map_nil, PyData.depthAll]
    | cons m ms ih => simp only [List.map_cons, PyData.depthAll, PyData.depth, ih, Nat.max_self]
  simp only [SeqAt.shaped, PyData.canLay0, PyData.depth, h1, h2, Bool.true_and]
  decide
theorem okD_nats (ns : List Nat) : okD (.tup (dNats ns)) = true := by
  simp only [okD, plain, toP, plains_nats, toPs_nats, shaped_nats, Bool.and_self]
@[simp] theorem okD_int (i : Int) : okD (.int i) = true := by
  simp only [okD, plain, toP, SeqAt.shaped, PyData.canLay0, PyData.depth, Bool.true_and]
  decide
@[simp] theorem okD_bl (b : Bool) : okD (.bl b) = true := by
  simp only [okD, plain, toP, SeqAt.shaped, PyData.canLay0, PyData.depth, Bool.true_and]
  decide
@[simp] theorem okD_non : okD .non = true := by
  simp only [okD, plain, toP, SeqAt.shaped, PyData.canLay0, PyData.depth, Bool.true_and]
  decide
theorem strOk_of (s : String) : PyData.strOk (Str.ofString s) = true := by
  rw [Str.ofString_eq_toList]
  unfold PyData.strOk
  rw [Array.all_eq_true_iff_forall_mem]
  intro c hc
  simp only [List.mem_toArray, List.mem_map] at hc
  obtain ⟨ch, _, rfl⟩ := hc
  have h := ch.valid
  simp only [decide_eq_true_eq]
  have : ch.toNat < 0x110000 := by
    rcases h with h | ⟨_, h⟩
    · exact Nat.lt_trans h (by decide)
    · exact h
  exact this
theorem strOk_append {x y : Str} (h1 : PyData.strOk x = true) (h2 : PyData.strOk y = true) : PyData.strOk (x ++ y) = true := by
  show Array.all (x.cps ++ y.cps) _ = true
  rw [Array.all_append]
  exact Bool.and_eq_true_iff.mpr ⟨h1, h2⟩
theorem strOk_join {s : Str} (hs : PyData.strOk s = true) : ∀ ts : List Str, (∀ t ∈ ts, PyData.strOk t = true) → PyData.strOk (Str.join s ts) = true
  | [], _ => strOk_of ""
  | [x], h => h x (List.mem_cons_self ..)
  | x :: y :: r, h => strOk_append (strOk_append (h x (List.mem_cons_self ..)) hs) (strOk_join hs (y :: r) fun t ht => h t (List.mem_cons_of_mem _ ht))
theorem strOk_textFrom : ∀ (ts : List Str) (k : Nat) (acc : Str), PyData.strOk acc = true → (∀ t ∈ ts, PyData.strOk t = true) → PyData.strOk (textFrom k acc ts) = true
  | [], _, acc, h, _ => h
  | t :: ts, k, acc, h, ht => strOk_textFrom ts (k + 1) _ (strOk_append (strOk_append h (strOk_of _)) (ht t (List.mem_cons_self ..))) fun y hy => ht y (List.mem_cons_of_mem _ hy)
theorem strOk_listText {ts : List Str} (h : ∀ t ∈ ts, PyData.strOk t = true) : PyData.strOk (listText ts) = true := strOk_append (strOk_textFrom ts 0 _ (strOk_of _) h) (strOk_of _)
theorem strOk_tupleText {ts : List Str} (h : ∀ t ∈ ts, PyData.strOk t = true) : PyData.strOk (tupleText ts) = true := strOk_append (strOk_append (strOk_of _) (strOk_join (strOk_of _) ts h)) (strOk_of _)
mutual
/-- no strings in it -/
def noStr : PyData → Bool
  | .str _ => false
  | .list xs => noStrs xs
  | .tuple xs => noStrs xs
  | .dict _ => false
  | _ => true
def noStrs : List PyData → Bool
  | [] => true
  | x :: xs => noStr x && noStrs xs
end
mutual
theorem strOk_shown : ∀ d : PyData, noStr d = true → PyData.strOk d.shown = true
  | .none, _ => strOk_of _
  | .bool b, _ => by cases b <;> exact strOk_of _
  | .int i, _ => strOk_of _
  | .str x, h => by simp [noStr] at h
  | .list xs, h => strOk_listText (strOk_shownAll xs (by simpa [noStr] using h))
  | .tuple xs, h => strOk_tupleText (strOk_shownAll xs (by simpa [noStr] using h))
  | .dict _, h => by simp [noStr] at h
theorem strOk_shownAll : ∀ xs : List PyData, noStrs xs = true → ∀ t ∈ PyData.shownAll xs, PyData.strOk t = true
  | [], _ => fun t h => by simp [PyData.shownAll] at h
  | x :: xs, h => fun t ht => by
    simp only [noStrs, Bool.and_eq_true] at h
    simp only [PyData.shownAll, List.mem_cons] at ht
    rcases ht with rfl | ht
    · exact strOk_shown x h.1
    · exact strOk_shownAll xs h.2 t ht
end
theorem okD_str {x : Str} (h : PyData.strOk x = true) : okD (.str x) = true := by
  simp only [okD, plain, toP, SeqAt.shaped, PyData.canLay0, PyData.depth, Bool.true_and, h]
  decide
theorem noStrs_nats : ∀ ns : List Nat, noStrs (ns.map fun n => PyData.int (n : Nat)) = true
  | [] => rfl
  | n :: ns => by simp only [List.map_cons, noStrs, noStr, noStrs_nats ns, Bool.and_self]
theorem okS_nats (ns : List Nat) : okD (.str (toP (.tup (dNats ns))).shown) = true := okD_str (strOk_shown _ (by simp only [toP, toPs_nats, noStr]; exact noStrs_nats ns))
theorem okS_int (i : Int) : okD (.str (toP (.int i)).shown) = true := okD_str (strOk_shown _ rfl)
theorem okS_bl (i : Bool) : okD (.str (toP (.bl i)).shown) = true := okD_str (strOk_shown _ rfl)
theorem okS_non : okD (.str (toP .non).shown) = true := okD_str (strOk_shown _ rfl)
mutual
theorem eqv_self : ∀ d : PyData, PyData.hasDict d = false → PyData.eqv d d = true
  | .none, _ => by simp only [PyData.eqv]
  | .bool _, _ => by simp only [PyData.eqv, beq_self_eq_true]
  | .int _, _ => by simp only [PyData.eqv, beq_self_eq_true]
  | .str x, _ => by simp [PyData.eqv]
  | .list xs, h => by simp only [PyData.eqv]; exact eqvAll_self xs (by simpa only [PyData.hasDict] using h)
  | .tuple xs, h => by simp only [PyData.eqv]; exact eqvAll_self xs (by simpa only [PyData.hasDict] using h)
  | .dict _, h => by simp only [PyData.hasDict] at h; cases h
theorem eqvAll_self : ∀ xs : List PyData, PyData.hasDictAll xs = false → PyData.eqvAll xs xs = true
  | [], _ => by simp only [PyData.eqvAll]
  | x :: xs, h => by
    simp only [PyData.hasDictAll, Bool.or_eq_false_iff] at h
    simp only [PyData.eqvAll, eqv_self x h.1, eqvAll_self xs h.2, Bool.and_self]
end
theorem deq_self {d : D} (h : okD d = true) : deq d d = true := by
  simp only [okD, Bool.and_eq_true] at h
  exact eqv_self _ (PyData.hasDict_of_canLay _ (SeqAt.canLay_of_shaped h.2))
/-- a number of at most twelve digits -/
def twelve (n : Nat) : Prop := n ≤ 999999999999
theorem log_small {n : Nat} (h : twelve n) : n.log2 < 1920 := by
  unfold twelve at h
  by_cases h0 : n = 0
  · subst h0; decide
  · exact (Nat.log2_lt h0).mpr (Nat.lt_of_le_of_lt h (by decide))
theorem showAll_nats (ns : List Nat) (h : ∀ n ∈ ns, twelve n) : PyData.showableAll (ns.map fun n => PyData.int (n : Nat)) = true := by
  induction ns with
  | nil => simp only [List.map_nil, PyData.showableAll]
  | cons n ns ih =>
    simp only [List.map_cons, PyData.showableAll, ih fun m hm => h m (List.mem_cons_of_mem _ hm), PyData.showable, Bool.and_true, decide_eq_true_eq, Int.natAbs_natCast]
    exact log_small (h n (List.mem_cons_self ..))
theorem okR_nats {ns : List Nat} (h : ∀ n ∈ ns, twelve n) (hl : ns.length ≤ 4096) : okR (.tup (dNats ns)) = true := by
  have k := okD_nats ns
  simp only [okD, Bool.and_eq_true] at k
  simp only [okR, k, Bool.true_and, Bool.and_eq_true, decide_eq_true_eq]
  refine ⟨by simp only [toP, toPs_nats, PyData.showable]; exact showAll_nats ns h, ?_⟩
  simp only [toP, toPs_nats, PyData.shown]
  refine Nat.le_trans (tupleText_len_le _) ?_
  have e : ∀ ms : List Nat, (∀ n ∈ ms, twelve n) → ((PyData.shownAll (ms.map fun n => PyData.int (n : Nat))).map (·.length)).sum ≤ 13 * ms.length ∧ (PyData.shownAll (ms.map fun n => PyData.int (n : Nat))).length = ms.length := fun ms hm => by
    induction ms with
    | nil => simp [PyData.shownAll]
    | cons m ms ih =>
      obtain ⟨i1, i2⟩ := ih fun x hx => hm x (List.mem_cons_of_mem _ hx)
      have q := hm m (List.mem_cons_self ..)
      unfold twelve at q
      have b := PyData.shown_int_le2 (i := (m : Int)) (by omega) (by omega)
      simp only [List.map_cons, PyData.shownAll, List.sum_cons, List.length_cons]
      omega
  obtain ⟨e1, e2⟩ := e ns h
  rw [e2, sizeLine_eq]
  omega
theorem okR_nat {n : Nat} (h : twelve n) : okR (.int n) = true := by
  have k := okD_int (n : Nat)
  simp only [okD, Bool.and_eq_true] at k
  simp only [okR, k, Bool.true_and, Bool.and_eq_true, decide_eq_true_eq]
  refine ⟨by simp only [toP, PyData.showable, Int.natAbs_natCast, decide_eq_true_eq]; exact log_small h, ?_⟩
  unfold twelve at h
  have b := PyData.shown_int_le2 (i := (n : Int)) (by omega) (by omega)
  simp only [toP]
  rw [sizeLine_eq]
  omega
theorem okR_bl (b : Bool) : okR (.bl b) = true := by
  have k := okD_bl b
  simp only [okD, Bool.and_eq_true] at k
  simp only [okR, k, Bool.true_and, Bool.and_eq_true, decide_eq_true_eq]
  cases b <;> exact ⟨by simp only [toP, PyData.showable], by simp only [toP]; rw [sizeLine_eq]; decide⟩
theorem okR_non : okR .non = true := by
  have k := okD_non
  simp only [okD, Bool.and_eq_true] at k
  simp only [okR, k, Bool.true_and, Bool.and_eq_true, decide_eq_true_eq]
  exact ⟨by simp only [toP, PyData.showable], by simp only [toP]; rw [sizeLine_eq]; decide⟩
theorem sm62 {i : Int} (h0 : -1000000 ≤ i) (h1 : i ≤ 1000000) : small62 i = true := by
  simp only [small62, Bool.and_eq_true, decide_eq_true_eq]
  omega
theorem rng2_eq {i j : Int} (h1 : small62 i = true) (h2 : small62 j = true) : rng2 [.int i, .int j] = some (rngD i (j - i).toNat) := by
  simp only [rng2]
  rw [if_pos h1, if_pos h2]
theorem rng1_eq {j : Int} (h2 : small62 j = true) : rng1 [.int j] = some (rngD 0 j.toNat) := by
  simp only [rng1]
  rw [if_pos h2]
end DL
/-! DM2: reckoning with the new pieces; loops that end early; comprehensions over mapped lists. -/
namespace DL
open PySem PySem.Spec PyProof.Rows L2
section
variable (a b : Int) (xs ys : List D) (d e : D)
@[simp] theorem p_abs : pAbs [.int a] = some (.d (.int (if a < 0 then -a else a))) := id rfl
@[simp] theorem p_band : pBand [.int a, .int b] = some (.d (.int (Builtin.bitAnd a b))) := id rfl
@[simp] theorem p_rg2 : pRg2 [.int a, .int b] = some (.d (.rng a b)) := id rfl
@[simp] theorem p_lstRg1 : pLstRg1 [.int a] = if rgOk 0 a = true then some (.nl (rngD 0 a.toNat)) else none := id rfl
@[simp] theorem p_cnt : pCnt xs [d] = if (okD (.tup xs) && okD d) = true then some (.int (xs.countP fun y => deq y d : Nat)) else none := id rfl
@[simp] theorem isNonD_pr : isNonD (.pr d e) = false := id rfl
@[simp] theorem gs_nilE (env : DEnv) : gsNil [] env = some env := id rfl
@[simp] theorem gs_consE (g : DG) (h : List D → DEnv → Option DEnv) (env : DEnv) : gsCons g h (d :: xs) env = (g d env).bind (h xs) := id rfl
@[simp] theorem g_pr (m : List D → DEnv → Option DEnv) (env : DEnv) : gTupD 2 m (.pr d e) env = m [d, e] env := id rfl
theorem g_tupE (n : Nat) (m : List D → DEnv → Option DEnv) (env : DEnv) (h : xs.length = n) : gTupD n m (.tup xs) env = m xs env := by
  simp only [gTupD, if_pos h]
@[simp] theorem g_tup2 (m : List D → DEnv → Option DEnv) (env : DEnv) : gTupD 2 m (.tup [d, e]) env = m [d, e] env := id rfl
@[simp] theorem g_tup3 (f : D) (m : List D → DEnv → Option DEnv) (env : DEnv) : gTupD 3 m (.tup [d, e, f]) env = m [d, e, f] env := id rfl
@[simp] theorem g_setE (i : Nat) (env : DEnv) : gSet i d env = some (env.set i (some ⟨.shr, d⟩)) := id rfl
end
def tupOfO (o : Option (Option Ent)) (env : DEnv) : R (List D) := match o with
  | some (some (Ent.mk Md.shr (.tup d))) => .ok d env
  | _ => .bad
def intOfO (o : Option (Option Ent)) (env : DEnv) : R Int := match o with
  | some (some (Ent.mk Md.shr (.int d))) => .ok d env
  | _ => .bad
def intOfE (r : Ent) (env : DEnv) : R Int := match r with
  | ⟨.shr, .int b⟩ => .ok b env
  | _ => .bad
def intOfD (o : Option D) (env : DEnv) : R Int := match o with
  | some (.int d) => .ok d env
  | _ => .bad
def lstOfD (o : D) (env : DEnv) : R (List D) := match o with
  | .lst d => .ok d env
  | _ => .bad
def rngOfD (o : D) (env : DEnv) : R (Int × Int) := match o with
  | .rng lo hi => .ok (lo, hi) env
  | _ => .bad
section
variable {env : DEnv} {PF : Fl → DEnv → Prop} {PE : Ent → DEnv → Prop} {PL : List D → DEnv → Prop} {PI : Int → DEnv → Prop}
theorem fin_tupOfO_D {d : List D} : FinD (tupOfO (some (some ⟨.shr, .tup d⟩)) env) PL ↔ PL d env := ⟨id, id⟩
theorem fin_intOfO_D {d : Int} : FinD (intOfO (some (some ⟨.shr, .int d⟩)) env) PI ↔ PI d env := ⟨id, id⟩
theorem fin_intOfE_D {d : Int} : FinD (intOfE ⟨.shr, .int d⟩ env) PI ↔ PI d env := ⟨id, id⟩
theorem fin_intOfD_D {d : Int} : FinD (intOfD (some (.int d)) env) PI ↔ PI d env := ⟨id, id⟩
theorem fin_lstOfD_D {d : List D} : FinD (lstOfD (.lst d) env) PL ↔ PL d env := ⟨id, id⟩
theorem fin_rngOfD_D {lo hi : Int} {P : Int × Int → DEnv → Prop} : FinD (rngOfD (.rng lo hi) env) P ↔ P (lo, hi) env := ⟨id, id⟩
theorem augP_eq {i : Nat} {f : Int → Int → Option Int} {m : DE} : dAugP i f m env = (intOfO env[i]? env).bind fun a e => (m e).bind fun r e => (intOfE r e).bind fun b e => (resA (f a b) e).bind fun c e => .ok .nx (e.set i (some ⟨.shr, .int c⟩)) := by
  unfold dAugP intOfO
  rcases env[i]? with _ | (_ | ⟨md, d⟩)
  · rfl
  · rfl
  · cases md with
    | shr =>
      cases d with
      | int a =>
        simp only [bind_ok]
        congr 1
        funext r e
        obtain ⟨md, d⟩ := r
        cases md with
        | shr =>
          cases d with
          | int b =>
            show (match f a b with
              | some c => R.ok Fl.nx (e.set i (some ⟨.shr, .int c⟩))
              | none => R.bad) = (resA (f a b) e).bind fun c e => R.ok Fl.nx (e.set i (some ⟨.shr, .int c⟩))
            generalize f a b = o
            cases o <;> rfl
          | _ => rfl
        | _ => rfl
      | _ => rfl
    | _ => rfl
theorem aug_eq {i : Nat} {f : Int → Int → Int} {m : DE} : dAug i f m env = (intOfO env[i]? env).bind fun a e => (m e).bind fun r e => (intOfE r e).bind fun b e => .ok .nx (e.set i (some ⟨.shr, .int (f a b)⟩)) := by
  unfold dAug intOfO
  rcases env[i]? with _ | (_ | ⟨md, d⟩)
  · rfl
  · rfl
  · cases md with
    | shr =>
      cases d with
      | int a =>
        simp only [bind_ok]
        congr 1
        funext r e
        obtain ⟨md, d⟩ := r
        cases md with
        | shr => cases d <;> rfl
        | _ => rfl
      | _ => rfl
    | _ => rfl
theorem augL_eq {i : Nat} {m : DE} : dAugL i m env = (ownL env[i]? env).bind fun _ e => (m e).bind fun r e => (lstOfD r.d e).bind fun ys e => (ownL e[i]? e).bind fun xs e => if xs.length + ys.length ≤ sizeLine then .ok .nx (e.set i (some ⟨.own, .lst (xs ++ ys)⟩)) else .bad := by
  unfold dAugL ownL
  rcases env[i]? with _ | (_ | ⟨md, d⟩)
  · rfl
  · rfl
  · cases md with
    | own =>
      cases d with
      | lst l0 =>
        simp only [bind_ok]
        congr 1
        funext r e
        obtain ⟨md2, d2⟩ := r
        cases d2 with
        | lst ys =>
          show _ = R.bind (match e[i]? with
            | some (some (Ent.mk Md.own (.lst d))) => .ok d e
            | _ => .bad) _
          rcases e[i]? with _ | (_ | ⟨md3, d3⟩)
          · rfl
          · rfl
          · cases md3 with
            | own => cases d3 <;> rfl
            | _ => rfl
        | _ => rfl
      | _ => rfl
    | _ => rfl
theorem augIx_eq {i : Nat} {k n : Int} : dAugIx i k n env = (ownL env[i]? env).bind fun xs e => (resA (ixN xs.length k) e).bind fun j e => (intOfD xs[j]? e).bind fun a e => .ok .nx (e.set i (some ⟨.own, .lst (xs.set j (.int (a + n)))⟩)) := by
  unfold dAugIx ownL
  rcases env[i]? with _ | (_ | ⟨md, d⟩)
  · rfl
  · rfl
  · cases md with
    | own =>
      cases d with
      | lst l0 =>
        simp only [bind_ok]
        unfold resA
        cases ixN l0.length k with
        | none => rfl
        | some j =>
          simp only [bind_ok]
          unfold intOfD
          rcases l0[j]? with _ | d
          · rfl
          · cases d <;> rfl
      | _ => rfl
    | _ => rfl
theorem count_eq {i : Nat} {os : List Opd} : dCount i os env = (tupOfO env[i]? env).bind fun xs e => (evOs os e).bind fun avs e => (resA (getAVs e avs) e).bind fun ds e => (resA (pCnt xs ds) e).bind fun d e => .ok ⟨.shr, d⟩ e := by
  unfold dCount tupOfO
  rcases env[i]? with _ | (_ | ⟨md, d⟩)
  · rfl
  · rfl
  · cases md with
    | shr =>
      cases d with
      | tup xs =>
        simp only [bind_ok]
        congr 1
        funext avs e
        unfold resA
        cases getAVs e avs with
        | none => rfl
        | some ds =>
          simp only [bind_ok]
          cases pCnt xs ds <;> rfl
      | _ => rfl
    | _ => rfl
theorem iRng_eq {m : DE} : iRng m env = (m env).bind fun r e => (rngOfD r.d e).bind fun p e => if small62 p.1 = true then (if small62 p.2 = true then .ok (rngD p.1 (p.2 - p.1).toNat) e else .bad) else .bad := by
  unfold iRng
  congr 1
  funext r e
  obtain ⟨md, d⟩ := r
  cases d <;> rfl
@[simp] theorem fin_tupOfO {d : List D} : Fin (tupOfO (some (some ⟨.shr, .tup d⟩)) env) PL ↔ PL d env := by
  have h := @fin_tupOfO_D
  simp only [fin_eq] at h
  exact h
@[simp] theorem fin_intOfO {d : Int} : Fin (intOfO (some (some ⟨.shr, .int d⟩)) env) PI ↔ PI d env := by
  have h := @fin_intOfO_D
  simp only [fin_eq] at h
  exact h
@[simp] theorem fin_intOfE {d : Int} : Fin (intOfE ⟨.shr, .int d⟩ env) PI ↔ PI d env := by
  have h := @fin_intOfE_D
  simp only [fin_eq] at h
  exact h
@[simp] theorem fin_intOfD {d : Int} : Fin (intOfD (some (.int d)) env) PI ↔ PI d env := by
  have h := @fin_intOfD_D
  simp only [fin_eq] at h
  exact h
@[simp] theorem fin_lstOfD {d : List D} : Fin (lstOfD (.lst d) env) PL ↔ PL d env := by
  have h := @fin_lstOfD_D
  simp only [fin_eq] at h
  exact h
@[simp] theorem fin_rngOfD {lo hi : Int} {P : Int × Int → DEnv → Prop} : Fin (rngOfD (.rng lo hi) env) P ↔ P (lo, hi) env := by
  have h := @fin_rngOfD_D
  simp only [fin_eq] at h
  exact h
@[simp ↓] theorem fin_augP {i : Nat} {f : Int → Int → Option Int} {m : DE} : Fin (dAugP i f m env) PF ↔ Fin (intOfO env[i]? env) fun a e => Fin (m e) fun r e => Fin (intOfE r e) fun b e => Fin (resA (f a b) e) fun c e => PF .nx (e.set i (some ⟨.shr, .int c⟩)) := by
  rw [augP_eq]; simp only [fin_bind, fin_ok]
@[simp ↓] theorem fin_aug {i : Nat} {f : Int → Int → Int} {m : DE} : Fin (dAug i f m env) PF ↔ Fin (intOfO env[i]? env) fun a e => Fin (m e) fun r e => Fin (intOfE r e) fun b e => PF .nx (e.set i (some ⟨.shr, .int (f a b)⟩)) := by
  rw [aug_eq]; simp only [fin_bind, fin_ok]
@[simp ↓] theorem fin_augL {i : Nat} {m : DE} : Fin (dAugL i m env) PF ↔ Fin (ownL env[i]? env) fun _ e => Fin (m e) fun r e => Fin (lstOfD r.d e) fun ys e => Fin (ownL e[i]? e) fun xs e => Fin (if xs.length + ys.length ≤ sizeLine then R.ok Fl.nx (e.set i (some ⟨.own, .lst (xs ++ ys)⟩)) else .bad) PF := by
  rw [augL_eq]; simp only [fin_bind]
@[simp ↓] theorem fin_augIx {i : Nat} {k n : Int} : Fin (dAugIx i k n env) PF ↔ Fin (ownL env[i]? env) fun xs e => Fin (resA (ixN xs.length k) e) fun j e => Fin (intOfD xs[j]? e) fun a e => PF .nx (e.set i (some ⟨.own, .lst (xs.set j (.int (a + n)))⟩)) := by
  rw [augIx_eq]; simp only [fin_bind, fin_ok]
@[simp ↓] theorem fin_count {i : Nat} {os : List Opd} : Fin (dCount i os env) PE ↔ Fin (tupOfO env[i]? env) fun xs e => Fin (evOs os e) fun avs e => Fin (resA (getAVs e avs) e) fun ds e => Fin (resA (pCnt xs ds) e) fun d e => PE ⟨.shr, d⟩ e := by
  rw [count_eq]; simp only [fin_bind, fin_ok]
@[simp ↓] theorem fin_iRng {m : DE} : Fin (iRng m env) PL ↔ Fin (m env) fun r e => Fin (rngOfD r.d e) fun p e => Fin (if small62 p.1 = true then (if small62 p.2 = true then R.ok (rngD p.1 (p.2 - p.1).toNat) e else .bad) else .bad) PL := by
  rw [iRng_eq]; simp only [fin_bind]
end
@[simp ↓] theorem fin_asg {g : DG} {m : DE} {env : DEnv} {PF : Fl → DEnv → Prop} : Fin (dAsg g m env) PF ↔ Fin (m env) fun r e => ∃ e2, g r.d e = some e2 ∧ PF .nx e2 := by
  unfold dAsg
  rw [fin_bind]
  have key : ∀ (r : Ent) (e : DEnv), Fin (match g r.d e with
    | some env2 => R.ok Fl.nx env2
    | none => .bad) PF ↔ ∃ e2, g r.d e = some e2 ∧ PF .nx e2 := fun r e => by
    cases g r.d e with
    | none => simp
    | some e2 => simp
  exact ⟨fun h => h.mono fun a e k => (key a e).mp k, fun h => h.mono fun a e k => (key a e).mpr k⟩
@[simp] theorem goes_ret {r : Ent} : Goes (.ret r) ↔ False := Iff.rfl
@[simp] theorem goes_brk : Goes .brk ↔ False := Iff.rfl
/-- a turn that ends the loop -/
def Outs (P : Fl → DEnv → Prop) : Fl → DEnv → Prop
  | .ret r, e => P (.ret r) e
  | .brk, e => P .nx e
  | _, _ => False
@[simp] theorem outs_ret {P : Fl → DEnv → Prop} {r : Ent} {e : DEnv} : Outs P (.ret r) e ↔ P (.ret r) e := Iff.rfl
@[simp] theorem outs_brk {P : Fl → DEnv → Prop} {e : DEnv} : Outs P .brk e ↔ P .nx e := Iff.rfl
@[simp] theorem outs_nx {P : Fl → DEnv → Prop} {e : DEnv} : Outs P .nx e ↔ False := Iff.rfl
@[simp] theorem outs_cnt {P : Fl → DEnv → Prop} {e : DEnv} : Outs P .cnt e ↔ False := Iff.rfl
/-- a loop that may end early; I by what is left of the list -/
theorem fin_forL {g : DG} {body : DS} {P : Fl → DEnv → Prop} {α : Type} (G : α → D) (I : List α → DEnv → Prop) : ∀ (xs : List α) (env : DEnv), I xs env →
    (∀ x rest env, I (x :: rest) env → ∃ env1, g (G x) env = some env1 ∧ Fin (body env1) fun fl e => (Goes fl ∧ I rest e) ∨ Outs P fl e) →
    (∀ env, I [] env → P .nx env) → Fin (dFor g body (xs.map G) env) P
  | [], env, h, _, z => fin_iff.mpr ⟨_, _, rfl, z env h⟩
  | x :: xs, env, h, step, z => by
    obtain ⟨env1, e1, h1⟩ := step x xs env h
    obtain ⟨fl, e2, q1, q2⟩ := fin_iff.mp h1
    have go : ∀ e, I xs e → Fin (dFor g body (xs.map G) e) P := fun e he => fin_forL G I xs e he step z
    rw [List.map_cons, dFor, e1]
    simp only [q1]
    rcases q2 with ⟨k1, k2⟩ | k
    · cases fl with
      | nx => exact go e2 k2
      | cnt => exact go e2 k2
      | brk => exact k1.elim
      | ret r => exact k1.elim
    · cases fl with
      | nx => exact k.elim
      | cnt => exact k.elim
      | brk => exact fin_iff.mpr ⟨_, _, rfl, k⟩
      | ret r => exact fin_iff.mpr ⟨_, _, rfl, k⟩
theorem dLoop_M {α : Type} {vs : List Nat} {g : DG} {c : DT} {e : DE} {E : DEnv} (G : α → D) (p : α → Bool) (F : α → D) : ∀ (ys : List α) (acc : List D), acc.length + ys.length ≤ sizeLine →
    (∀ y ∈ ys, ∃ env1, g (G y) E = some env1 ∧ Fin (c env1) fun b e2 => b = p y ∧ (if p y = true then Fin (e e2) fun r e3 => r.d = F y ∧ wipeD e3 vs = E else wipeD e2 vs = E)) →
    dLoop vs g c e (ys.map G) acc E = .ok (acc ++ (ys.filter p).map F) E
  | [], acc, _, _ => by simp [dLoop]
  | y :: ys, acc, hl, step => by
    obtain ⟨env1, e1, hc⟩ := step y (List.mem_cons_self ..)
    obtain ⟨b, e2, q1, q2, q3⟩ := fin_iff.mp hc
    rw [List.length_cons] at hl
    have st : ∀ z ∈ ys, _ := fun z hz => step z (List.mem_cons_of_mem _ hz)
    rw [List.map_cons, dLoop, e1]
    subst q2
    cases hp : p y with
    | true =>
      rw [hp, if_pos rfl] at q3
      rw [hp] at q1
      obtain ⟨r, e3, q4, q5, q6⟩ := fin_iff.mp q3
      simp only [q1, q4]
      rw [if_pos (by omega), q5, q6, dLoop_M G p F ys (acc ++ [F y]) (by rw [List.length_append, List.length_singleton]; omega) st, List.filter_cons, if_pos hp, List.map_cons, List.append_assoc]
      rfl
    | false =>
      rw [hp, if_neg (by simp)] at q3
      rw [hp] at q1
      simp only [q1]
      rw [q3, dLoop_M G p F ys acc (by omega) st, List.filter_cons, if_neg (by rw [hp]; simp)]
/-- a comprehension over a mapped list -/
theorem fin_compM {α : Type} {vs : List Nat} {it : DI} {g : DG} {c : DT} {e : DE} {env : DEnv} {P : Ent → DEnv → Prop} (env1 : DEnv) (G : α → D) (p : α → Bool) (F : α → D) (ys : List α) (hi : Fin (it env) fun xs e => xs = ys.map G ∧ e = env1) (hl : ys.length ≤ sizeLine)
    (step : ∀ y ∈ ys, ∃ env2, g (G y) (wipeD env1 vs) = some env2 ∧ Fin (c env2) fun b e2 => b = p y ∧ (if p y = true then Fin (e e2) fun r e3 => r.d = F y ∧ wipeD e3 vs = wipeD env1 vs else wipeD e2 vs = wipeD env1 vs))
    (z : P ⟨.own, .lst ((ys.filter p).map F)⟩ (backD env1 (wipeD env1 vs) vs)) : Fin (dComp vs it g c e env) P := by
  have e1 := dLoop_M (g := g) (c := c) (e := e) (vs := vs) (E := wipeD env1 vs) G p F ys [] (by simpa using hl) step
  obtain ⟨ys', e2, hi1, rfl, rfl⟩ := fin_iff.mp hi
  refine fin_iff.mpr ⟨_, _, ?_, z⟩
  unfold dComp
  rw [hi1, bind_ok, e1]
  rfl
/-- the same without a condition -/
theorem fin_compN {α : Type} {vs : List Nat} {it : DI} {g : DG} {e : DE} {env : DEnv} {P : Ent → DEnv → Prop} (env1 : DEnv) (G : α → D) (F : α → D) (ys : List α) (hi : Fin (it env) fun xs e => xs = ys.map G ∧ e = env1) (hl : ys.length ≤ sizeLine)
    (step : ∀ y ∈ ys, ∃ env2, g (G y) (wipeD env1 vs) = some env2 ∧ Fin (e env2) fun r e3 => r.d = F y ∧ wipeD e3 vs = wipeD env1 vs)
    (z : P ⟨.own, .lst (ys.map F)⟩ (backD env1 (wipeD env1 vs) vs)) : Fin (dComp vs it g dYes e env) P := by
  refine fin_compM env1 G (fun _ => true) F ys hi hl (fun y hy => ?_) ?_
  · obtain ⟨env2, h1, h2⟩ := step y hy
    refine ⟨env2, h1, ?_⟩
    simp only [fin_yes, if_true]
    exact ⟨trivial, h2⟩
  · rw [List.filter_eq_self.mpr fun _ _ => rfl]
    exact z
theorem rngD_map (lo : Int) : ∀ n : Nat, rngD lo n = (List.range n).map fun (i : Nat) => D.int (lo + (i : Nat))
  | 0 => rfl
  | n + 1 => by
    rw [rngD, List.range_succ_eq_map, List.map_cons, List.map_map, rngD_map (lo + 1) n]
    congr 1
    · simp
    · apply List.map_congr_left
      intro i _
      show D.int (lo + 1 + (i : Nat)) = D.int (lo + ((i + 1 : Nat) : Int))
      congr 1
      omega
theorem rngD0 (n : Nat) : rngD 0 n = (List.range n).map fun (i : Nat) => D.int (i : Nat) := by
  rw [rngD_map]
  apply List.map_congr_left
  intro i _
  simp
theorem enumD_map (k : Nat) (xs : List D) : enumD k xs = (xs.zipIdx k).map fun (p : D × Nat) => D.pr (.int (p.2 : Nat)) p.1 := by
  induction xs generalizing k with
  | nil => rfl
  | cons x xs ih => rw [enumD, List.zipIdx_cons, List.map_cons, ih]
end DL
namespace My
open PySem PySem.Spec PyProof.Rows L2 DL
@[simp] theorem deq_int (a b : Int) : deq (.int a) (.int b) = decide (a = b) := by
  simp only [deq, toP, PyData.eqv]
  rfl
@[simp] theorem pEq_int (a b : Int) : pEq [.int a, .int b] = some (.d (.bl (decide (a = b)))) := by simp [pEq]
@[simp] theorem pNe_int (a b : Int) : pNe [.int a, .int b] = some (.d (.bl (!decide (a = b)))) := by simp [pNe]
theorem log_le {x : Int} {k : Nat} (h0 : 0 ≤ x) (h : x < 2 ^ k) (hk : 0 < k) : x.natAbs.log2 < k := by
  by_cases hx : x.natAbs = 0
  · rw [hx]; simpa using hk
  · refine (Nat.log2_lt hx).mpr ?_
    have e : ((x.natAbs : Nat) : Int) = x := Int.natAbs_of_nonneg h0
    have : ((x.natAbs : Nat) : Int) < ((2 ^ k : Nat) : Int) := by rw [e]; simpa using h
    exact Int.ofNat_lt.mp this
theorem mul_wide {x y : Int} {i j : Nat} (hx : 0 ≤ x) (hx' : x < 2 ^ i) (hy : 0 ≤ y) (hy' : y < 2 ^ j) (hi : 0 < i) (hj : 0 < j) (h : i + j ≤ 1000000) : wideMul x y = true := by
  have h1 := log_le hx hx' hi
  have h2 := log_le hy hy' hj
  unfold wideMul
  exact decide_eq_true (by omega)
def treeD (ps : List Nat) : D := .tup (.non :: dNats ps)
structure TreeOk (ps : List Nat) : Prop where
  len : ps.length ≤ 9
  par : ∀ (i p : Nat), ps[i]? = some p → p ≤ i
theorem dNats_snoc (ps : List Nat) (p : Nat) : dNats (ps ++ [p]) = dNats ps ++ [.int (p : Nat)] := by
  simp [dNats]
theorem dNats_get (ps : List Nat) (i : Nat) : (dNats ps)[i]? = (ps[i]?).map fun n => D.int (n : Nat) := by simp [dNats]
theorem dNats_len (ps : List Nat) : (dNats ps).length = ps.length := by simp [dNats]
theorem TreeOk.snoc {ps : List Nat} {p : Nat} (h : TreeOk ps) (hl : ps.length < 9) (hp : p ≤ ps.length) : TreeOk (ps ++ [p]) := ⟨by rw [List.length_append, List.length_singleton]; omega, fun i q hq => by
  by_cases hi : i < ps.length
  · rw [List.getElem?_append_left hi] at hq
    exact h.par i q hq
  · rw [List.getElem?_append_right (by omega)] at hq
    by_cases h0 : i - ps.length = 0
    · rw [h0] at hq
      cases hq
      omega
    · rw [List.getElem?_eq_none (by simp; omega)] at hq
      cases hq⟩
@[simp] theorem pTyIs_tup (xs : List D) : pTyIs "tuple" [.tup xs] = some (.d (.bl true)) := by
  have h : metaN.contains "tuple" = true := by decide
  simp only [pTyIs, h, if_true, tyOf]
  rfl
@[simp] theorem pTyIs_lst (xs : List D) : pTyIs "tuple" [.lst xs] = some (.d (.bl false)) := by
  have h : metaN.contains "tuple" = true := by decide
  simp only [pTyIs, h, if_true, tyOf]
  rfl
@[simp] theorem pIsI_int (a : Int) : pIsI "int" [.int a] = some (.d (.bl true)) := by
  have h : kitB "int" "int" = some true := by decide
  simp [pIsI, tyOf, h]
@[simp] theorem pIsI_bool (a : Int) : pIsI "bool" [.int a] = some (.d (.bl false)) := by
  have h : kitB "int" "bool" = some false := by decide
  simp [pIsI, tyOf, h]
theorem is_tuple_tup (xs : List D) : f_is_tuple [⟨.shr, .tup xs⟩] = .ok ⟨.shr, .bl true⟩ .non := def_eq rfl (by simp [m_is_tuple])
theorem is_tuple_lst (xs : List D) : f_is_tuple [⟨.shr, .lst xs⟩] = .ok ⟨.shr, .bl false⟩ .non := def_eq rfl (by simp [m_is_tuple])
theorem within_eq (a lo hi : Int) : f_is_integer_within [⟨.shr, .int a⟩, ⟨.shr, .int lo⟩, ⟨.shr, .int hi⟩] = .ok ⟨.shr, .bl (decide (lo ≤ a) && decide (a ≤ hi))⟩ .non := def_eq rfl (by
  by_cases h : lo ≤ a <;> simp [m_is_integer_within, h])
theorem blsOf_map {α : Type} (xs : List α) (f : α → Bool) : blsOf (xs.map fun x => D.bl (f x)) = some (xs.map f) := by
  induction xs with
  | nil => rfl
  | cons x xs ih => simp [blsOf, ih]
theorem tree_at {ps : List Nat} (k : Nat) (p : Nat) (h : ps[k]? = some p) : atI (D.non :: dNats ps) ((k : Int) + 1) = some (.int (p : Nat)) := by
  have := atI_nat (D.non :: dNats ps) (k + 1)
  rw [show (((k + 1 : Nat)) : Int) = (k : Int) + 1 by omega] at this
  rw [this, List.getElem?_cons_succ, dNats_get, h]
  rfl
theorem is_tree_lst (xs : List D) : f_is_tree [⟨.shr, .lst xs⟩] = .ok ⟨.shr, .bl false⟩ .non := def_eq rfl (by simp [m_is_tree, is_tuple_lst])
theorem is_tree_eq {ps : List Nat} (ht : TreeOk ps) : f_is_tree [⟨.shr, treeD ps⟩] = .ok ⟨.shr, .bl true⟩ .non := def_eq rfl (by
  have hl := ht.len
  have h1 : (ps.length : Int) + 1 ≤ 10 := by omega
  have h2 : (1 : Int) ≤ ps.length + 1 := by omega
  have d1 := dNats_len ps
  have d2 := is_tuple_tup (D.non :: dNats ps)
  simp [m_is_tree, treeD, d1, d2, h1, h2]
  refine fin_comp (xs := rngD 1 ps.length) (env1 := [some ⟨.shr, treeD ps⟩, none]) ?_ (fun env => env = [some ⟨.shr, treeD ps⟩, none]) (fun _ => .bl true) rfl (by rw [rngD_len, sizeLine_eq]; omega) (fun x hx env hI => ?_) fun env hI => ?_
  · have e : ((ps.length : Int) + 1 - 1).toNat = ps.length := by omega
    have r := rng2_eq (i := 1) (j := (ps.length : Int) + 1) (by decide) (sm62 (by omega) (by omega))
    rw [e] at r
    simp [d1, r, treeD]
  · subst hI
    obtain ⟨k, rfl, hk1, hk2⟩ := mem_rngD hx
    obtain ⟨i, rfl⟩ : ∃ i : Nat, k = (i : Int) + 1 := ⟨(k - 1).toNat, by omega⟩
    refine ⟨_, rfl, ?_⟩
    have hi : i < ps.length := by omega
    obtain ⟨p, hp⟩ : ∃ p, ps[i]? = some p := ⟨ps[i], by simp [hi]⟩
    have hpi := ht.par i p hp
    simp [treeD, tree_at i p hp, within_eq]
    omega
  · subst hI
    have := blsOf_map (rngD 1 ps.length) fun _ => true
    simp [pAll, this])
theorem has_locale_eq {ps : List Nat} (l : Int) : f_has_locale [⟨.shr, treeD ps⟩, ⟨.shr, .int l⟩] = .ok ⟨.shr, .bl (decide (0 ≤ l) && decide (l ≤ ps.length))⟩ .non := by
  have h := within_eq l 0 ps.length
  have d1 := dNats_len ps
  exact def_eq rfl (by simp [m_has_locale, treeD, d1, h])
def pOf (ps : List Nat) (k : Nat) : Nat := ps.getD k 0
def parD (ps : List Nat) : Nat → D
  | 0 => .non
  | k + 1 => .int ((pOf ps k : Nat) : Int)
theorem at_par {ps : List Nat} {l : Nat} (h : l ≤ ps.length) : atI (D.non :: dNats ps) (l : Int) = some (parD ps l) := by
  rw [DL.atI_nat]
  cases l with
  | zero => rfl
  | succ k =>
    rw [List.getElem?_cons_succ, dNats_get]
    have hk : k < ps.length := by omega
    simp [parD, pOf, List.getD, hk]
def upF (ps : List Nat) : Nat → Nat → List Nat
  | 0, l => [l]
  | f + 1, l => match l with
    | 0 => [0]
    | k + 1 => match pOf ps k with
      | 0 => [k + 1]
      | p + 1 => (k + 1) :: upF ps f (p + 1)
def up (ps : List Nat) (l : Nat) : List Nat := upF ps l l
theorem upF_end {ps : List Nat} {f l : Nat} (h : parD ps l = .non ∨ parD ps l = .int 0) (hf : l ≤ f) : upF ps f l = [l] := by
  cases f with
  | zero => rw [upF]
  | succ f =>
    cases l with
    | zero => rfl
    | succ k =>
      rcases h with h | h
      · cases h
      · have e : pOf ps k = 0 := by
          simp only [parD, D.int.injEq] at h
          omega
        rw [upF, e]
theorem upF_step {ps : List Nat} {f k p : Nat} (h : pOf ps k = p + 1) : upF ps (f + 1) (k + 1) = (k + 1) :: upF ps f (p + 1) := by
  rw [upF, h]
theorem TreeOk.getD {ps : List Nat} (ht : TreeOk ps) (k : Nat) : pOf ps k ≤ k := by
  by_cases h : k < ps.length
  · have := ht.par k ps[k] (by simp [h])
    simpa [pOf, List.getD, h] using this
  · simp [pOf, List.getD, h]
theorem path_of_eq {ps : List Nat} (ht : TreeOk ps) {l : Nat} (hl : l ≤ ps.length) : f_path_of [⟨.shr, treeD ps⟩, ⟨.shr, .int (l : Nat)⟩] = .ok ⟨.shr, .tup (dNats (up ps l))⟩ .non := def_eq rfl (by
  have hlen := ht.len
  have h1 := at_par hl
  simp [m_path_of, treeD, h1, sizeLine_eq]
  refine fin_while (fun k env => ∃ acc m, env = [some ⟨.shr, treeD ps⟩, some ⟨.shr, .int (l : Nat)⟩, some ⟨.own, .lst (dNats (acc ++ [m]))⟩, some ⟨.shr, parD ps m⟩] ∧ m ≤ k ∧ m ≤ ps.length ∧ acc.length + m ≤ 9 ∧ acc ++ upF ps k m = up ps l) ?_ 64 l _ (by omega) ⟨[], l, rfl, Nat.le_refl _, hl, by simp; omega, rfl⟩
  intro k env ⟨acc, m, he, hm, hm2, hacc, hup⟩
  subst he
  cases m with
  | zero =>
    have e := upF_end (ps := ps) (f := k) (l := 0) (.inl rfl) (by omega)
    rw [e] at hup
    simp [parD, hup]
  | succ i =>
    have hp := ht.getD i
    cases hq : pOf ps i with
    | zero =>
      have e := upF_end (ps := ps) (f := k) (l := i + 1) (.inr (by rw [parD, hq]; rfl)) (by omega)
      rw [e] at hup
      simp [parD, hq, hup]
    | succ p =>
      obtain ⟨k', rfl⟩ : ∃ k', k = k' + 1 := ⟨k - 1, by omega⟩
      have a1 : atI (D.non :: dNats ps) ((p : Int) + 1) = some (parD ps (p + 1)) := at_par (ps := ps) (l := p + 1) (by omega)
      have hz : acc.length + 1 < sizeLine := by rw [sizeLine_eq]; omega
      have hz2 := dNats_len (acc ++ [i + 1])
      rw [upF_step hq] at hup
      have q1 : ¬ ((p : Int) + 1 = 0) := by omega
      rw [parD, hq] 
      simp [q1, treeD, hz, hz2, a1]
      exact ⟨k', by omega, acc ++ [i + 1], p + 1, ⟨by rw [dNats_snoc (acc ++ [i + 1])]; rfl, rfl⟩, by omega, by omega, by rw [List.length_append, List.length_singleton]; omega, by rw [List.append_assoc]; exact hup⟩)
theorem upF_last (ps : List Nat) : ∀ (f l : Nat), ∃ init t, upF ps f l = init ++ [t]
  | 0, l => ⟨[], l, rfl⟩
  | f + 1, l => by
    cases l with
    | zero => exact ⟨[], 0, rfl⟩
    | succ k =>
      cases hq : pOf ps k with
      | zero => exact ⟨[], k + 1, by rw [upF, hq]; rfl⟩
      | succ p =>
        obtain ⟨i, t, h⟩ := upF_last ps f (p + 1)
        exact ⟨(k + 1) :: i, t, by rw [upF_step hq, h]; rfl⟩
theorem upF_le {ps : List Nat} (ht : TreeOk ps) : ∀ (f l : Nat), l ≤ 9 → (∀ n ∈ upF ps f l, n ≤ 9)
  | 0, l, hl => fun n hn => by
    rw [upF, List.mem_singleton] at hn
    omega
  | f + 1, l, hl => fun n hn => by
    cases l with
    | zero =>
      rw [upF, List.mem_singleton] at hn
      omega
    | succ k =>
      cases hq : pOf ps k with
      | zero =>
        rw [upF, hq] at hn
        simp at hn
        omega
      | succ p =>
        have hp := ht.getD k
        rw [upF_step hq] at hn
        rcases List.mem_cons.mp hn with rfl | hn
        · omega
        · exact upF_le ht f (p + 1) (by omega) n hn
theorem upF_len {ps : List Nat} : ∀ (f l : Nat), (upF ps f l).length ≤ f + 1
  | 0, l => by simp [upF]
  | f + 1, l => by
    cases l with
    | zero => simp [upF]
    | succ k =>
      cases hq : pOf ps k with
      | zero => rw [upF, hq]; simp
      | succ p =>
        have := upF_len (ps := ps) f (p + 1)
        rw [upF_step hq, List.length_cons]
        omega
theorem upF_mem {ps : List Nat} (ht : TreeOk ps) : ∀ (f l : Nat), (∀ n ∈ upF ps f l, n ≤ l)
  | 0, l => fun n hn => by
    rw [upF, List.mem_singleton] at hn
    omega
  | f + 1, l => fun n hn => by
    cases l with
    | zero =>
      rw [upF, List.mem_singleton] at hn
      omega
    | succ k =>
      cases hq : pOf ps k with
      | zero =>
        rw [upF, hq] at hn
        simp at hn
        omega
      | succ p =>
        have hp := ht.getD k
        rw [upF_step hq] at hn
        rcases List.mem_cons.mp hn with rfl | hn
        · omega
        · have := upF_mem ht f (p + 1) n hn
          omega
theorem upF_pos {ps : List Nat} (f l : Nat) : 0 < (upF ps f l).length := by
  obtain ⟨i, t, h⟩ := upF_last ps f l
  rw [h, List.length_append, List.length_singleton]
  omega
theorem eqv_nats : ∀ a b : List Nat, PyData.eqvAll (a.map fun n => PyData.int (n : Nat)) (b.map fun n => PyData.int (n : Nat)) = decide (a = b)
  | [], [] => by simp [PyData.eqvAll]
  | [], _ :: _ => by simp [PyData.eqvAll]
  | _ :: _, [] => by simp [PyData.eqvAll]
  | x :: xs, y :: ys => by
    have e : PyData.eqv (.int (x : Nat)) (.int (y : Nat)) = decide (x = y) := by
      simp only [PyData.eqv]
      by_cases h : x = y
      · subst h; simp
      · rw [decide_eq_false h]
        simp
        omega
    simp only [List.map_cons, PyData.eqvAll, e, eqv_nats xs ys]
    by_cases h1 : x = y <;> by_cases h2 : xs = ys <;> simp [h1, h2]
theorem deq_nats (a b : List Nat) : deq (.tup (dNats a)) (.tup (dNats b)) = decide (a = b) := by
  simp only [deq, toP, toPs_nats, PyData.eqv]
  exact eqv_nats a b
theorem ne_nats (a b : List Nat) : pNe [.tup (dNats a), .tup (dNats b)] = some (.d (.bl (!decide (a = b)))) := by
  simp only [pNe, okD_nats, Bool.and_self, if_true, deq_nats]
structure AsksOk (ps as : List Nat) : Prop where
  len : as.length ≤ 40
  ok : ∀ a ∈ as, a ≤ ps.length
theorem dNats_at {ns : List Nat} {r : Int} (h0 : 0 ≤ r) (h1 : r < ns.length) : ∃ m, m ∈ ns ∧ atI (dNats ns) r = some (.int (m : Nat)) := by
  obtain ⟨k, rfl⟩ : ∃ k : Nat, r = (k : Int) := ⟨r.toNat, by omega⟩
  have hk : k < ns.length := by omega
  refine ⟨ns[k], List.getElem_mem hk, ?_⟩
  rw [DL.atI_nat, dNats_get]
  simp [hk]
theorem flat_nats (s : Int) (f : List Nat) : flat_all (.int s) (dNats f) = true := by
  simp [flat_all, flatD, dNats]
theorem inD_nats (s : Nat) (f : List Nat) : inD (.int (s : Nat)) (dNats f) = decide (s ∈ f) := by
  induction f with
  | nil => simp [inD, dNats]
  | cons x xs ih =>
    have e : inD (.int (s : Nat)) (dNats (x :: xs)) = (decide (x = s) || inD (.int (s : Nat)) (dNats xs)) := by
      simp only [inD, dNats, List.map_cons, List.any_cons, deq_int]
      by_cases h : x = s
      · subst h; simp
      · rw [decide_eq_false h, decide_eq_false (by omega)]
    rw [e, ih]
    by_cases h : x = s
    · subst h; simp
    · rw [decide_eq_false h, Bool.false_or]
      by_cases h2 : s ∈ xs
      · rw [decide_eq_true h2, decide_eq_true (List.mem_cons_of_mem _ h2)]
      · rw [decide_eq_false h2, decide_eq_false (by simp [h2]; exact fun e => h e.symm)]
theorem inN_nats (neg : Bool) (s : Nat) (f : List Nat) : pInN neg [.int (s : Nat), .lst (dNats f)] = some (.d (.bl (if neg then !decide (s ∈ f) else decide (s ∈ f)))) := by
  simp only [pInN, flat_nats, if_true, inD_nats]
def addNew (f s : List Nat) : List Nat := s.foldl (fun f x => if x ∈ f then f else f ++ [x]) f
def rnd (ps ls : List Nat) : List Nat := ls.foldl (fun f l => addNew f (up ps l)) []
theorem addNew_snoc (f s : List Nat) (x : Nat) : addNew f (s ++ [x]) = if x ∈ addNew f s then addNew f s else addNew f s ++ [x] := by
  rw [addNew, List.foldl_append]
  rfl
theorem rnd_snoc (ps ls : List Nat) (l : Nat) : rnd ps (ls ++ [l]) = addNew (rnd ps ls) (up ps l) := by
  simp [rnd, List.foldl_append]
theorem addNew_len (s : List Nat) : ∀ f : List Nat, (addNew f s).length ≤ f.length + s.length := by
  induction s with
  | nil => intro f; simp [addNew]
  | cons x s ih =>
    intro f
    have := ih (if x ∈ f then f else f ++ [x])
    have e : addNew f (x :: s) = addNew (if x ∈ f then f else f ++ [x]) s := rfl
    rw [e, List.length_cons]
    split at this
    · rename_i h; rw [if_pos h]; omega
    · rename_i h
      rw [if_neg h]
      rw [List.length_append, List.length_singleton] at this
      omega
theorem take_get {α : Type} {xs : List α} {j : Nat} {x : α} (h : xs[j]? = some x) : xs.take (j + 1) = xs.take j ++ [x] := by
  rw [List.take_succ, h]
  rfl
theorem dNats_some {ns : List Nat} {j : Nat} {x : D} (h : (dNats ns)[j]? = some x) : ∃ m, x = .int (m : Nat) ∧ ns[j]? = some m := by
  rw [dNats_get] at h
  simp only [Option.map_eq_some_iff] at h
  obtain ⟨m, h1, h2⟩ := h
  exact ⟨m, h2.symm, h1⟩
theorem visits {c : DT} {P : Fl → DEnv → Prop} {found steps : List Nat} {E : List Nat → Option Ent → DEnv} {e0 : Option Ent}
    (hset : ∀ f e s, gSet 4 (.int (s : Nat)) (E f e) = some (E f (some ⟨.shr, .int (s : Nat)⟩)))
    (body : DS) (hb : ∀ f (s : Nat), f.length ≤ found.length + steps.length → Fin (body (E f (some ⟨.shr, .int (s : Nat)⟩))) fun fl e => Goes fl ∧ e = E (if s ∈ f then f else f ++ [s]) (some ⟨.shr, .int (s : Nat)⟩))
    (z : ∀ e, P .nx (E (addNew found steps) e)) : Fin (dFor (gSet 4) body (dNats steps) (E found e0)) P := by
  refine fin_for (fun j env => ∃ e, env = E (addNew found (steps.take j)) e) ⟨e0, rfl⟩ (fun j x env hj hI => ?_) fun env hI => ?_
  · obtain ⟨e, rfl⟩ := hI
    obtain ⟨s, rfl, hs⟩ := dNats_some hj
    refine ⟨_, hset _ _ _, (hb (addNew found (steps.take j)) s ?_).mono fun fl e ⟨h1, h2⟩ => ⟨h1, some ⟨.shr, .int (s : Nat)⟩, ?_⟩⟩
    · have := addNew_len (steps.take j) found
      rw [List.length_take] at this
      omega
    · rw [h2, take_get hs, addNew_snoc]
  · obtain ⟨e, rfl⟩ := hI
    rw [dNats_len, List.take_length]
    exact z e
theorem has_wishes_eq {ps as : List Nat} (hok : ∀ a ∈ as, a ≤ ps.length) (hl : as.length ≤ 61) : f_has_wishes [⟨.shr, treeD ps⟩, ⟨.shr, .tup (dNats as)⟩] = .ok ⟨.shr, .bl true⟩ .non := def_eq rfl (by
  have h0 := is_tuple_tup (dNats as)
  simp [m_has_wishes, h0]
  refine fin_comp (xs := dNats as) (env1 := [some ⟨.shr, treeD ps⟩, some ⟨.shr, .tup (dNats as)⟩, none]) (by simp) (fun env => env = [some ⟨.shr, treeD ps⟩, some ⟨.shr, .tup (dNats as)⟩, none]) (fun _ => .bl true) rfl (by rw [dNats_len, sizeLine_eq]; omega) (fun x hx env hI => ?_) fun env hI => ?_
  · subst hI
    simp only [dNats, List.mem_map] at hx
    obtain ⟨a, ha, rfl⟩ := hx
    have q := has_locale_eq (ps := ps) (a : Int)
    rw [decide_eq_true (by omega : (0 : Int) ≤ a), decide_eq_true (by have := hok a ha; omega : (a : Int) ≤ ps.length)] at q
    exact ⟨_, rfl, by simp [q]⟩
  · subst hI
    have := blsOf_map (dNats as) fun _ => true
    simp [pAll, this])
theorem check_wishes_eq {ps as : List Nat} (hok : ∀ a ∈ as, a ≤ ps.length) (hl : as.length ≤ 61) : f_check_wishes [⟨.shr, treeD ps⟩, ⟨.shr, .tup (dNats as)⟩] = .ok ⟨.shr, .non⟩ .non := by
  have h := has_wishes_eq hok hl
  exact def_eq rfl (by simp [m_check_wishes, h])
theorem passed_eq {ps as : List Nat} (ht : TreeOk ps) (hok : ∀ a ∈ as, a ≤ ps.length) (hl : as.length ≤ 61) : f_passed_by [⟨.shr, treeD ps⟩, ⟨.shr, .tup (dNats as)⟩] = .ok ⟨.shr, .tup (dNats (rnd ps as))⟩ .non := def_eq rfl (by
  have hlen := ht.len
  simp [m_passed_by]
  refine fin_for (fun j env => ∃ e3 e4, env = [some ⟨.shr, treeD ps⟩, some ⟨.shr, .tup (dNats as)⟩, some ⟨.own, .lst (dNats (rnd ps (as.take j)))⟩, e3, e4] ∧ (rnd ps (as.take j)).length ≤ 10 * j) ⟨_, _, rfl, Nat.le_refl _⟩ (fun j x env hj hI => ?_) fun env hI => ?_
  · obtain ⟨e3, e4, rfl, hfl⟩ := hI
    obtain ⟨l, rfl, hs⟩ := dNats_some hj
    have hj61 : j < as.length := (List.getElem?_eq_some_iff.mp hs).1
    have hl0 : l ≤ ps.length := hok l (List.mem_of_getElem? hs)
    refine ⟨_, rfl, ?_⟩
    have q1 := path_of_eq ht hl0
    have q2 : (up ps l).length ≤ l + 1 := upF_len l l
    simp [q1]
    refine visits (c := dYes) (found := rnd ps (as.take j)) (steps := up ps l) (E := fun f e => [some ⟨.shr, treeD ps⟩, some ⟨.shr, .tup (dNats as)⟩, some ⟨.own, .lst (dNats f)⟩, some ⟨.shr, .int (l : Nat)⟩, e]) (fun f e s => rfl) _ (fun f s hf => ?_) fun e => ?_
    · have d2 := dNats_len f
      have z2 : f.length < sizeLine := by rw [sizeLine_eq]; omega
      have q3 := inN_nats true s f
      by_cases hm : s ∈ f
      · simp [q3, hm]
      · simp [q3, hm, d2, z2, dNats_snoc]
    · rw [take_get hs, rnd_snoc]
      have := addNew_len (up ps l) (rnd ps (as.take j))
      exact ⟨trivial, ⟨_, _, rfl⟩, by omega⟩
  · obtain ⟨e3, e4, rfl, hfl⟩ := hI
    rw [dNats_len, List.take_length]
    simp)
theorem looked_of_eq {ps as : List Nat} (ht : TreeOk ps) (hok : ∀ a ∈ as, a ≤ ps.length) (hl : as.length ≤ 60) : f_looked_of [⟨.shr, treeD ps⟩, ⟨.shr, .tup (dNats as)⟩] = .ok ⟨.shr, .tup (dNats (rnd ps (as ++ [0])))⟩ .non := by
  have d1 := dNats_len as
  have z1 : as.length + 1 ≤ sizeLine := by rw [sizeLine_eq]; omega
  have hz1 : 1 ≤ sizeLine := by rw [sizeLine_eq]; omega
  have e0 : dNats as ++ [D.int 0] = dNats (as ++ [0]) := by rw [dNats_snoc]; rfl
  have h := passed_eq (as := as ++ [0]) ht (fun a ha => by
    rcases List.mem_append.mp ha with h | h
    · exact hok a h
    · rw [List.mem_singleton.mp h]; omega) (by rw [List.length_append, List.length_singleton]; omega)
  exact def_eq rfl (by simp [m_looked_of, d1, z1, hz1, e0, h])
theorem mem_addNew (s : List Nat) : ∀ (f : List Nat) (x : Nat), x ∈ addNew f s ↔ x ∈ f ∨ x ∈ s := by
  induction s with
  | nil => intro f x; simp [addNew]
  | cons y s ih =>
    intro f x
    have e : addNew f (y :: s) = addNew (if y ∈ f then f else f ++ [y]) s := rfl
    rw [e, ih]
    by_cases h : y ∈ f
    · rw [if_pos h, List.mem_cons]
      exact ⟨fun k => k.elim .inl fun k => .inr (.inr k), fun k => k.elim .inl fun k => k.elim (fun k => .inl (k ▸ h)) .inr⟩
    · rw [if_neg h, List.mem_append, List.mem_singleton, List.mem_cons, or_assoc]
theorem addNew_sub (s : List Nat) : ∀ f : List Nat, (∀ x ∈ s, x ∈ f) → addNew f s = f := by
  induction s with
  | nil => intro f _; rfl
  | cons y s ih =>
    intro f h
    have e : addNew f (y :: s) = addNew (if y ∈ f then f else f ++ [y]) s := rfl
    rw [e, if_pos (h y (List.mem_cons_self ..)), ih f fun x hx => h x (List.mem_cons_of_mem _ hx)]
theorem addNew_new (s : List Nat) : ∀ f : List Nat, (∀ x ∈ s, x ∉ f) → s.Nodup → addNew f s = f ++ s := by
  induction s with
  | nil => intro f _ _; simp [addNew]
  | cons y s ih =>
    intro f h hn
    have e : addNew f (y :: s) = addNew (if y ∈ f then f else f ++ [y]) s := rfl
    rw [List.nodup_cons] at hn
    rw [e, if_neg (h y (List.mem_cons_self ..)), ih _ (fun x hx hm => ?_) hn.2, List.append_assoc]
    · rfl
    · rcases List.mem_append.mp hm with k | k
      · exact h x (List.mem_cons_of_mem _ hx) k
      · rw [List.mem_singleton.mp k] at hx
        exact hn.1 hx
theorem mem_rnd (ps : List Nat) (x : Nat) : ∀ ls : List Nat, ∀ f : List Nat, x ∈ ls.foldl (fun f l => addNew f (up ps l)) f ↔ x ∈ f ∨ ∃ l ∈ ls, x ∈ up ps l
  | [], f => by simp
  | l :: ls, f => by
    rw [List.foldl_cons, mem_rnd ps x ls, mem_addNew, or_assoc]
    simp
theorem in_rnd {ps : List Nat} {x : Nat} {ls : List Nat} : x ∈ rnd ps ls ↔ ∃ l ∈ ls, x ∈ up ps l := by
  rw [rnd, mem_rnd]
  simp
theorem upF_fuel {ps : List Nat} (ht : TreeOk ps) : ∀ (f g l : Nat), l ≤ f → l ≤ g → upF ps f l = upF ps g l
  | 0, g, l, h1, h2 => by
    have : l = 0 := by omega
    subst this
    cases g with
    | zero => rfl
    | succ g => rfl
  | f + 1, 0, l, h1, h2 => by
    have : l = 0 := by omega
    subst this
    rfl
  | f + 1, g + 1, l, h1, h2 => by
    cases l with
    | zero => rfl
    | succ k =>
      cases hq : pOf ps k with
      | zero => rw [upF, upF, hq]
      | succ p =>
        have := ht.getD k
        rw [upF_step hq, upF_step hq, upF_fuel ht f g (p + 1) (by omega) (by omega)]
theorem up_step {ps : List Nat} (ht : TreeOk ps) {k p : Nat} (h : pOf ps k = p + 1) : up ps (k + 1) = (k + 1) :: up ps (p + 1) := by
  have := ht.getD k
  rw [up, upF_step h, up, upF_fuel ht k (p + 1) (p + 1) (by omega) (Nat.le_refl _)]
theorem up_zero {ps : List Nat} {k : Nat} (h : pOf ps k = 0) : up ps (k + 1) = [k + 1] := by rw [up, upF, h]
theorem up_self (ps : List Nat) (l : Nat) : l ∈ up ps l := by
  cases l with
  | zero => simp [up, upF]
  | succ k =>
    cases hq : pOf ps k with
    | zero => rw [up_zero hq]; simp
    | succ p => rw [up, upF_step hq]; simp
theorem up_sub {ps : List Nat} (ht : TreeOk ps) {a x : Nat} (hx : x ∈ up ps a) : ∀ b, a ∈ up ps b → x ∈ up ps b := by
  intro b
  induction b using Nat.strongRecOn with
  | _ b ih =>
    intro h
    cases b with
    | zero =>
      have e : up ps 0 = [0] := rfl
      rw [e, List.mem_singleton] at h
      rw [← h]; exact hx
    | succ k =>
      cases hq : pOf ps k with
      | zero =>
        rw [up_zero hq, List.mem_singleton] at h
        rw [← h]; exact hx
      | succ p =>
        have hp := ht.getD k
        rw [up_step ht hq] at h ⊢
        rcases List.mem_cons.mp h with h | h
        · rw [h, up_step ht hq] at hx
          exact hx
        · exact List.mem_cons_of_mem _ (ih (p + 1) (by omega) h)
theorem up_pos {ps : List Nat} (ht : TreeOk ps) : ∀ l, 0 < l → (∀ x ∈ up ps l, 0 < x) ∧ (up ps l).Nodup := by
  intro l
  induction l using Nat.strongRecOn with
  | _ l ih =>
    intro h
    cases l with
    | zero => omega
    | succ k =>
      cases hq : pOf ps k with
      | zero =>
        rw [up_zero hq]
        exact ⟨fun x hx => by rw [List.mem_singleton.mp hx]; omega, by simp⟩
      | succ p =>
        have hp := ht.getD k
        obtain ⟨i1, i2⟩ := ih (p + 1) (by omega) (by omega)
        rw [up_step ht hq]
        refine ⟨fun x hx => ?_, List.nodup_cons.mpr ⟨fun hm => ?_, i2⟩⟩
        · rcases List.mem_cons.mp hx with h | h
          · omega
          · exact i1 x h
        · have := upF_mem ht (p + 1) (p + 1) _ hm
          omega
theorem rnd_one {ps : List Nat} (ht : TreeOk ps) (l : Nat) : rnd ps ([l] ++ [0]) = up ps l ++ (if 0 < l then [0] else []) := by
  rw [rnd_snoc]
  have e0 : up ps 0 = [0] := rfl
  by_cases h : 0 < l
  · obtain ⟨h1, h2⟩ := up_pos ht l h
    have e : rnd ps [l] = up ps l := by
      show addNew [] (up ps l) = _
      rw [addNew_new _ _ (fun x _ hx => by simp at hx) h2, List.nil_append]
    rw [e, e0, if_pos h, addNew_new _ _ (fun x hx hm => ?_) (by simp)]
    rw [List.mem_singleton.mp hx] at hm
    have := h1 0 hm
    omega
  · have : l = 0 := by omega
    subst this
    rfl
@[simp] theorem p_sliceF (xs : List D) (l u : Option Int) : pSlice (.fz xs) l u = some (.nl (DL.cutD xs l u)) := id rfl
theorem cut_ints (ns : List Int) (l u : Option Int) : ∃ ms, DL.cutD (dInts ns) l u = dInts ms ∧ ms.length ≤ ns.length := by
  refine ⟨(ns.drop (HT.sIx (dInts ns).length 0 l)).take (HT.sIx (dInts ns).length (dInts ns).length u - HT.sIx (dInts ns).length 0 l), ?_, ?_⟩
  · unfold DL.cutD
    simp [dInts, List.map_take, List.map_drop]
  · simp
    omega
theorem item_int {x : D} {i : Int} {ms : List Int} {j : Nat} (hj : (D.int i :: dInts ms)[j]? = some x) : ∃ n : Int, x = .int n := by
  cases j with
  | zero => cases hj; exact ⟨_, rfl⟩
  | succ j =>
    rw [List.getElem?_cons_succ] at hj
    simp only [dInts, List.getElem?_map, Option.map_eq_some_iff] at hj
    obtain ⟨n, _, rfl⟩ := hj
    exact ⟨n, rfl⟩
def lastUp (ps : List Nat) (l : Nat) : Nat := (up ps l).getLast?.getD 0
theorem lastUp_at {ps : List Nat} (l : Nat) : atI (dNats (up ps l)) (-1) = some (.int (lastUp ps l : Nat)) ∧ lastUp ps l ∈ up ps l := by
  obtain ⟨i, t, h⟩ := upF_last ps l l
  have h : up ps l = i ++ [t] := h
  have e : lastUp ps l = t := by rw [lastUp, h]; simp
  rw [e, h, dNats_snoc]
  exact ⟨DL.atI_last _ _, by simp⟩

@[simp] theorem p_sliceT (xs : List D) (l u : Option Int) : pSlice (.tup xs) l u = some (.d (.tup (DL.cutD xs l u))) := id rfl
def cutN (ns : List Nat) (l u : Option Int) : List Nat := (ns.drop (HT.sIx ns.length 0 l)).take (HT.sIx ns.length ns.length u - HT.sIx ns.length 0 l)
theorem cut_nats (ns : List Nat) (l u : Option Int) : DL.cutD (dNats ns) l u = dNats (cutN ns l u) := by
  unfold DL.cutD cutN
  rw [dNats_len]
  simp [dNats]
theorem cutN_mem {ns : List Nat} {l u : Option Int} : ∀ x ∈ cutN ns l u, x ∈ ns := fun x h => List.mem_of_mem_drop (List.mem_of_mem_take h)
theorem cutN_len (ns : List Nat) (l u : Option Int) : (cutN ns l u).length ≤ ns.length := by
  unfold cutN
  rw [List.length_take, List.length_drop]
  omega
theorem dNats_app (a b : List Nat) : dNats a ++ dNats b = dNats (a ++ b) := by simp [dNats]
theorem dNats_rev (a : List Nat) : (dNats a).reverse = dNats a.reverse := by simp [dNats]
theorem addN (a b : List Nat) (h : a.length + b.length ≤ 1000) : pAdd [.tup (dNats a), .tup (dNats b)] = some (.d (.tup (dNats (a ++ b)))) := by
  rw [p_addT, dNats_len, dNats_len, if_pos (by rw [sizeLine_eq]; omega), dNats_app]
theorem sIx_m1 (n d : Nat) : HT.sIx n d (some (-1)) = n - 1 := by
  show (if (-1 : Int) < 0 then ((-1 : Int) + (n : Int)).toNat else min (-1 : Int).toNat n) = n - 1
  rw [if_pos (by omega)]
  omega
@[simp] theorem p_sliceL (xs : List D) (l u : Option Int) : pSlice (.lst xs) l u = some (.nl (DL.cutD xs l u)) := id rfl

structure Cat where
  ps : List Nat
  key : Bool
  w : Nat
  rows : List (List (Option Nat))
def optD : Option Nat → D
  | none => .non
  | some t => .int (t : Nat)
def rowD (r : List (Option Nat)) : D := .tup (r.map optD)
def rowsD (c : Cat) : D := .tup (c.rows.map rowD)
def wayD (k : Bool) : D := .str (if k = true then "key" else "bundle")
def catD (c : Cat) : D := .tup [treeD c.ps, wayD c.key, rowsD c]
structure CatOk (c : Cat) : Prop where
  tree : TreeOk c.ps
  w1 : 1 ≤ c.w
  w4 : c.w ≤ 4
  len : c.rows.length = c.ps.length + 1
  wid : ∀ r ∈ c.rows, r.length = c.w
  txt : ∀ r ∈ c.rows, ∀ t, some t ∈ r → t ≤ 9
def row (c : Cat) (l : Nat) : List (Option Nat) := c.rows.getD l []
def cell (c : Cat) (l k : Nat) : Option Nat := (row c l).getD k none
@[simp] theorem isNon_opt (o : Option Nat) : isNonD (optD o) = o.isNone := by cases o <;> rfl
theorem row_get {c : Cat} (h : CatOk c) {l : Nat} (hl : l ≤ c.ps.length) : c.rows[l]? = some (row c l) := by
  have : l < c.rows.length := by rw [h.len]; omega
  simp [row, List.getD, this]
theorem row_mem {c : Cat} (h : CatOk c) {l : Nat} (hl : l ≤ c.ps.length) : row c l ∈ c.rows := List.mem_of_getElem? (row_get h hl)
theorem row_len {c : Cat} (h : CatOk c) {l : Nat} (hl : l ≤ c.ps.length) : (row c l).length = c.w := h.wid _ (row_mem h hl)
theorem at_row {c : Cat} (h : CatOk c) {l : Nat} (hl : l ≤ c.ps.length) : atI (c.rows.map rowD) (l : Nat) = some (rowD (row c l)) := by
  rw [DL.atI_nat, List.getElem?_map, row_get h hl]
  rfl
theorem cell_get {c : Cat} (h : CatOk c) {l k : Nat} (hl : l ≤ c.ps.length) (hk : k < c.w) : (row c l)[k]? = some (cell c l k) := by
  have : k < (row c l).length := by rw [row_len h hl]; exact hk
  simp [cell, List.getD, this]
theorem at_cell {c : Cat} (h : CatOk c) {l k : Nat} (hl : l ≤ c.ps.length) (hk : k < c.w) : atI ((row c l).map optD) (k : Nat) = some (optD (cell c l k)) := by
  rw [DL.atI_nat, List.getElem?_map, cell_get h hl hk]
  rfl
theorem cell_le {c : Cat} (h : CatOk c) {l k t : Nat} (hl : l ≤ c.ps.length) (hk : k < c.w) (e : cell c l k = some t) : t ≤ 9 :=
  h.txt _ (row_mem h hl) t (by rw [← e]; exact List.mem_of_getElem? (cell_get h hl hk))
/-- rows, cells by their places -/
theorem ix_rows {c : Cat} (h : CatOk c) {l : Nat} (hl : l ≤ c.ps.length) : pIx [rowsD c, .int (l : Nat)] = some (.d (rowD (row c l))) := by
  rw [rowsD, p_ixT, at_row h hl]; rfl
theorem ix_row {c : Cat} (h : CatOk c) {l k : Nat} (hl : l ≤ c.ps.length) (hk : k < c.w) : pIx [rowD (row c l), .int (k : Nat)] = some (.d (optD (cell c l k))) := by
  rw [rowD, p_ixT, at_cell h hl hk]; rfl
@[simp] theorem pLen_tree (ps : List Nat) : pLen [treeD ps] = some (.d (.int ((ps.length : Int) + 1))) := by
  have d := dNats_len ps
  simp [treeD, d]
@[simp] theorem pLen_row (r : List (Option Nat)) : pLen [rowD r] = some (.d (.int (r.length : Nat))) := by simp [rowD]
@[simp] theorem pLen_rows (c : Cat) : pLen [rowsD c] = some (.d (.int (c.rows.length : Nat))) := by simp [rowsD]
@[simp] theorem cat_0 (c : Cat) : pIx [catD c, .int 0] = some (.d (treeD c.ps)) := by simp [catD]
@[simp] theorem cat_1 (c : Cat) : pIx [catD c, .int 1] = some (.d (wayD c.key)) := by simp [catD]
@[simp] theorem cat_2 (c : Cat) : pIx [catD c, .int 2] = some (.d (rowsD c)) := by simp [catD]
@[simp] theorem g_cat (c : Cat) (m : List D → DEnv → Option DEnv) (env : DEnv) : gTupD 3 m (catD c) env = m [treeD c.ps, wayD c.key, rowsD c] env := id rfl
@[simp] theorem seq_row (r : List (Option Nat)) : dSeqOf (rowD r) = some (r.map optD) := rfl
@[simp] theorem seq_rows (c : Cat) : dSeqOf (rowsD c) = some (c.rows.map rowD) := rfl
@[simp] theorem pIsI_str (x : Str) : pIsI "str" [.str x] = some (.d (.bl true)) := by
  have h : kitB "str" "str" = some true := by decide
  simp [pIsI, tyOf, h]
theorem deq_way (a b : Bool) : deq (wayD a) (wayD b) = decide (a = b) := by
  cases a <;> cases b <;> simp [deq, toP, PyData.eqv, wayD] <;> decide
@[simp] theorem eq_key (k : Bool) : pEq [wayD k, .str "key"] = some (.d (.bl k)) := by
  have h1 : okD (wayD k) = true := okD_str (by cases k <;> exact strOk_of _)
  have h2 : okD (.str "key") = true := okD_str (strOk_of _)
  have h3 : deq (wayD k) (.str "key") = k := by
    have := deq_way k true
    simp only [wayD, if_true] at this ⊢
    rw [this]
    cases k <;> rfl
  simp [pEq, h1, h2, h3]
@[simp] theorem eq_bundle (k : Bool) : pEq [wayD k, .str "bundle"] = some (.d (.bl (!k))) := by
  have h1 : okD (wayD k) = true := okD_str (by cases k <;> exact strOk_of _)
  have h2 : okD (.str "bundle") = true := okD_str (strOk_of _)
  have h3 : deq (wayD k) (.str "bundle") = !k := by
    have := deq_way k false
    simp only [wayD] at this ⊢
    cases k <;> exact this
  simp [pEq, h1, h2, h3]
theorem is_way_eq (k : Bool) : f_is_way [⟨.shr, wayD k⟩] = .ok ⟨.shr, .bl true⟩ .non := by
  have hz : 2 ≤ sizeLine := by rw [sizeLine_eq]; omega
  have h1 : flat_all (wayD k) [.str "key", .str "bundle"] = true := by cases k <;> rfl
  have h2 : inD (wayD k) [.str "key", .str "bundle"] = true := by
    have a1 := deq_way true k
    have a2 := deq_way false k
    simp only [wayD, if_true] at a1 a2
    simp only [inD, List.any_cons, List.any_nil, Bool.or_false]
    cases k
    · rw [show deq (.str "bundle") (wayD false) = true from a2]; simp
    · rw [show deq (.str "key") (wayD true) = true from a1]; simp
  have h3 : pInN false [wayD k, .tup [.str "key", .str "bundle"]] = some (.d (.bl true)) := by simp [pInN, h1, h2]
  have h4 : pIsI "str" [wayD k] = some (.d (.bl true)) := pIsI_str _
  exact def_eq rfl (by simp [m_is_way, hz, h3, h4])
theorem is_text_or_none_eq (o : Option Nat) (h : ∀ t, o = some t → t ≤ 9) : f_is_text_or_none [⟨.shr, optD o⟩] = .ok ⟨.shr, .bl true⟩ .non := by
  cases o with
  | none => exact def_eq rfl (by simp [m_is_text_or_none, optD])
  | some t =>
    have ht := h t rfl
    have q := within_eq (t : Int) 0 9
    rw [decide_eq_true (by omega : (0 : Int) ≤ t), decide_eq_true (by omega : (t : Int) ≤ 9)] at q
    have q2 : f_is_text [⟨.shr, .int (t : Nat)⟩] = .ok ⟨.shr, .bl true⟩ .non := def_eq rfl (by simp [m_is_text, q])
    exact def_eq rfl (by simp [m_is_text_or_none, optD, q2])
theorem blsOf_true {α : Type} (xs : List α) : blsOf (xs.map fun _ => D.bl true) = some (xs.map fun _ => true) := blsOf_map xs fun _ => true
theorem all_true {α : Type} (xs : List α) : (xs.map fun _ => true).all id = true := by induction xs <;> simp_all
theorem pAll_true {α : Type} (xs : List α) : pAll [.lst (xs.map fun _ => D.bl true)] = some (.d (.bl true)) := by
  simp [pAll, blsOf_true]
theorem is_row_eq {r : List (Option Nat)} (h1 : 1 ≤ r.length) (h4 : r.length ≤ 4) (ht : ∀ t, some t ∈ r → t ≤ 9) : f_is_row [⟨.shr, rowD r⟩] = .ok ⟨.shr, .bl true⟩ .non := by
  have q1 : f_is_tuple [⟨.shr, rowD r⟩] = .ok ⟨.shr, .bl true⟩ .non := is_tuple_tup _
  have q2 : (1 : Int) ≤ (r.length : Nat) := by omega
  have q3 : ((r.length : Nat) : Int) ≤ 4 := by omega
  refine def_eq rfl ?_
  simp [m_is_row, q1, q2, q3]
  refine fin_compN (α := Option Nat) [some ⟨.shr, rowD r⟩, none] optD (fun _ => .bl true) r (by simp [rowD]) (by rw [sizeLine_eq]; omega) (fun y hy => ?_) ?_
  · have q := is_text_or_none_eq y fun t e => ht t (by rw [← e]; exact hy)
    exact ⟨_, rfl, by simp [q]⟩
  · simp [pAll_true]
theorem are_rows_eq {c : Cat} (h : CatOk c) : f_are_rows [⟨.shr, rowsD c⟩, ⟨.shr, .int ((c.ps.length : Int) + 1)⟩] = .ok ⟨.shr, .bl true⟩ .non := by
  have q1 : f_is_tuple [⟨.shr, rowsD c⟩] = .ok ⟨.shr, .bl true⟩ .non := is_tuple_tup _
  have hlen := h.tree.len
  have h1 := h.w1
  have h4 := h.w4
  have q2 : ((c.rows.length : Nat) : Int) = (c.ps.length : Int) + 1 := by rw [h.len]; omega
  have q3 := ix_rows h (Nat.zero_le _)
  have q4 := row_len h (Nat.zero_le _)
  have q3 : pIx [rowsD c, .int 0] = some (.d (rowD (row c 0))) := q3
  refine def_eq rfl ?_
  simp [m_are_rows, q1, q2]
  refine fin_compN (α := List (Option Nat)) [some ⟨.shr, rowsD c⟩, some ⟨.shr, .int ((c.ps.length : Int) + 1)⟩, none] rowD (fun _ => .bl true) c.rows (by simp [rowsD]) (by rw [sizeLine_eq, h.len]; omega) (fun y hy => ?_) ?_
  · have q := is_row_eq (r := y) (by rw [h.wid y hy]; exact h1) (by rw [h.wid y hy]; exact h4) (h.txt y hy)
    exact ⟨_, rfl, by simp [q]⟩
  · simp [pAll_true]
    refine fin_compN (α := List (Option Nat)) [some ⟨.shr, rowsD c⟩, some ⟨.shr, .int ((c.ps.length : Int) + 1)⟩, none] rowD (fun _ => .bl true) c.rows (by simp [rowsD]) (by rw [sizeLine_eq, h.len]; omega) (fun y hy => ?_) ?_
    · have e := h.wid y hy
      exact ⟨_, rfl, by simp [q3, q4, e]⟩
    · simp [pAll_true]
theorem is_catalog_eq {c : Cat} (h : CatOk c) : f_is_catalog [⟨.shr, catD c⟩] = .ok ⟨.shr, .bl true⟩ .non := by
  have q1 : f_is_tuple [⟨.shr, catD c⟩] = .ok ⟨.shr, .bl true⟩ .non := is_tuple_tup _
  have q2 := is_tree_eq h.tree
  have q3 := is_way_eq c.key
  have q4 := are_rows_eq h
  have q5 : pLen [catD c] = some (.d (.int 3)) := by simp [catD]
  exact def_eq rfl (by simp [m_is_catalog, q1, q2, q3, q4, q5])
theorem check_catalog_eq {c : Cat} (h : CatOk c) : f_check_catalog [⟨.shr, catD c⟩] = .ok ⟨.shr, .non⟩ .non := by
  have q := is_catalog_eq h
  exact def_eq rfl (by simp [m_check_catalog, q])
theorem count_keys_eq {c : Cat} (h : CatOk c) : f_count_keys [⟨.shr, catD c⟩] = .ok ⟨.shr, .int (c.w : Nat)⟩ .non := by
  have q3 : pIx [rowsD c, .int 0] = some (.d (rowD (row c 0))) := ix_rows h (Nat.zero_le _)
  have q4 := row_len h (Nat.zero_le _)
  exact def_eq rfl (by simp [m_count_keys, q3, q4])
/-- the first of the locales with a text -/
def fpl (c : Cat) (ls : List Nat) (k : Nat) : Option Nat := ls.find? fun l => (cell c l k).isSome
theorem first_place_eq {c : Cat} (h : CatOk c) {ls : List Nat} (hls : ∀ l ∈ ls, l ≤ c.ps.length) {k : Nat} (hk : k < c.w) : f_first_place [⟨.shr, rowsD c⟩, ⟨.shr, .tup (dNats ls)⟩, ⟨.shr, .int (k : Nat)⟩] = .ok ⟨.shr, optD (fpl c ls k)⟩ .non := by
  refine def_eq rfl ?_
  simp [m_first_place]
  refine fin_forL (α := Nat) (fun n => D.int (n : Nat)) (fun rest env => (∃ e, env = [some ⟨.shr, rowsD c⟩, some ⟨.shr, .tup (dNats ls)⟩, some ⟨.shr, .int (k : Nat)⟩, e]) ∧ fpl c rest k = fpl c ls k ∧ ∀ l ∈ rest, l ≤ c.ps.length) ls _ ⟨⟨_, rfl⟩, rfl, hls⟩ (fun x rest env hI => ?_) fun env hI => ?_
  · obtain ⟨⟨e, rfl⟩, h2, h3⟩ := hI
    have hx := h3 x (List.mem_cons_self ..)
    have q1 := ix_rows h hx
    have q2 := ix_row h hx hk
    refine ⟨_, rfl, ?_⟩
    cases hc : cell c x k with
    | none =>
      rw [hc] at q2
      have q2 : pIx [rowD (row c x), .int (k : Nat)] = some (.d .non) := q2
      have e2 : fpl c (x :: rest) k = fpl c rest k := by simp [fpl, hc]
      rw [e2] at h2
      simp [q1, q2]
      exact ⟨h2, fun l hl => h3 l (List.mem_cons_of_mem _ hl)⟩
    | some t =>
      rw [hc] at q2
      have q2 : pIx [rowD (row c x), .int (k : Nat)] = some (.d (.int (t : Nat))) := q2
      have e2 : fpl c (x :: rest) k = some x := by simp [fpl, hc]
      rw [e2] at h2
      simp [q1, q2, ← h2, optD]
  · obtain ⟨⟨e, rfl⟩, h2, h3⟩ := hI
    have e2 : fpl c [] k = none := rfl
    rw [e2] at h2
    simp [← h2, optD]
/-- there is an entry on the path -/
def rowHas (r : List (Option Nat)) : Bool := r.any Option.isSome
def held (c : Cat) (l : Nat) : Bool := (up c.ps l).any fun s => rowHas (row c s)
theorem up_le {ps : List Nat} (ht : TreeOk ps) {l : Nat} (hl : l ≤ ps.length) : ∀ s ∈ up ps l, s ≤ ps.length := fun s hs => by
  have := upF_mem ht l l s hs
  omega
theorem skips_eq {c : Cat} (h : CatOk c) {l : Nat} (hl : l ≤ c.ps.length) : f_skips [⟨.shr, catD c⟩, ⟨.shr, .int (l : Nat)⟩] = .ok ⟨.shr, .bl (!held c l)⟩ .non := by
  have q1 := path_of_eq h.tree hl
  refine def_eq rfl ?_
  simp [m_skips, q1]
  refine fin_forL (α := Nat) (fun n => D.int (n : Nat)) (fun rest env => (∃ e5 e6, env = [some ⟨.shr, catD c⟩, some ⟨.shr, .int (l : Nat)⟩, some ⟨.shr, treeD c.ps⟩, some ⟨.shr, wayD c.key⟩, some ⟨.shr, rowsD c⟩, e5, e6]) ∧ (rest.any fun s => rowHas (row c s)) = held c l ∧ ∀ l ∈ rest, l ≤ c.ps.length) (up c.ps l) _ ⟨⟨_, _, rfl⟩, rfl, up_le h.tree hl⟩ (fun x rest env hI => ?_) fun env hI => ?_
  · obtain ⟨⟨e5, e6, rfl⟩, h2, h3⟩ := hI
    have hx := h3 x (List.mem_cons_self ..)
    have q1 := ix_rows h hx
    refine ⟨_, rfl, ?_⟩
    simp [q1]
    refine fin_forL (α := Option Nat) optD (fun rest2 env => (∃ e6, env = [some ⟨.shr, catD c⟩, some ⟨.shr, .int (l : Nat)⟩, some ⟨.shr, treeD c.ps⟩, some ⟨.shr, wayD c.key⟩, some ⟨.shr, rowsD c⟩, some ⟨.shr, .int (x : Nat)⟩, e6]) ∧ rowHas rest2 = rowHas (row c x)) (row c x) _ ⟨⟨_, rfl⟩, rfl⟩ (fun y rest2 env hJ => ?_) fun env hJ => ?_
    · obtain ⟨⟨e6, rfl⟩, h4⟩ := hJ
      refine ⟨_, rfl, ?_⟩
      cases y with
      | none =>
        simp
        rw [← h4]
        simp [rowHas]
      | some t =>
        have e2 : rowHas (row c x) = true := by rw [← h4]; simp [rowHas]
        have e3 : held c l = true := by rw [← h2]; simp [e2]
        simp [e3]
    · obtain ⟨⟨e6, rfl⟩, h4⟩ := hJ
      have e2 : rowHas (row c x) = false := by rw [← h4]; rfl
      have e3 : (rest.any fun s => rowHas (row c s)) = held c l := by rw [← h2]; simp [e2]
      simp [e3]
      exact fun l hl => h3 l (List.mem_cons_of_mem _ hl)
  · obtain ⟨⟨e5, e6, rfl⟩, h2, h3⟩ := hI
    have e2 : held c l = false := by rw [← h2]; rfl
    simp [e2]

theorem enum_nats : ∀ (ws : List Nat) (k : Nat), enumD k (dNats ws) = (ws.zipIdx k).map fun p => D.pr (.int (p.2 : Nat)) (.int (p.1 : Nat))
  | [], _ => rfl
  | w :: ws, k => by
    have := enum_nats ws (k + 1)
    simp only [dNats, List.map_cons, enumD, List.zipIdx_cons] at *
    rw [this]
theorem zip_nats : ∀ (a b : List Nat), zipD (dNats a) (dNats b) = (a.zip b).map fun p => D.pr (.int (p.1 : Nat)) (.int (p.2 : Nat))
  | [], _ => rfl
  | x :: a, [] => rfl
  | x :: a, y :: b => by
    have := zip_nats a b
    simp only [dNats, List.map_cons, zipD, List.zip_cons_cons] at *
    rw [this]
def chos (c : Cat) (ws : List Nat) : Option Nat := (ws.zipIdx.find? fun p => held c p.1).map (·.2)
theorem chos_spec (c : Cat) (ws : List Nat) : (chos c ws = none ∧ ws.find? (held c) = none) ∨ ∃ i w, chos c ws = some i ∧ ws[i]? = some w ∧ ws.find? (held c) = some w := by
  have key : ∀ (ws : List Nat) (k : Nat), ((ws.zipIdx k).find? (fun p => held c p.1) = none ∧ ws.find? (held c) = none) ∨ ∃ i w, (ws.zipIdx k).find? (fun p => held c p.1) = some (w, k + i) ∧ ws[i]? = some w ∧ ws.find? (held c) = some w := by
    intro ws
    induction ws with
    | nil => intro k; left; simp
    | cons x ws ih =>
      intro k
      rw [List.zipIdx_cons]
      cases hx : held c x with
      | true => right; exact ⟨0, x, by simp [hx], rfl, by simp [hx]⟩
      | false =>
        rcases ih (k + 1) with ⟨h1, h2⟩ | ⟨i, w, h1, h2, h3⟩
        · left; simp [hx, h1, h2]
        · right; exact ⟨i + 1, w, by simp [hx, h1]; omega, by simpa using h2, by simp [hx, h3]⟩
  rcases key ws 0 with ⟨h1, h2⟩ | ⟨i, w, h1, h2, h3⟩
  · left; exact ⟨by simp [chos, h1], h2⟩
  · right; exact ⟨i, w, by simp [chos, h1], h2, h3⟩
theorem chosen_eq {c : Cat} (h : CatOk c) {ws : List Nat} (hw : ∀ w ∈ ws, w ≤ c.ps.length) : f_chosen_of [⟨.shr, catD c⟩, ⟨.shr, .tup (dNats ws)⟩] = .ok ⟨.shr, optD (chos c ws)⟩ .non := by
  refine def_eq rfl ?_
  have hz : ∀ p ∈ ws.zipIdx, p.1 ≤ c.ps.length := fun p hp => hw _ (List.fst_mem_of_mem_zipIdx hp)
  simp [m_chosen_of, enumA, enum_nats]
  refine fin_forL (α := Nat × Nat) (fun p => D.pr (.int (p.2 : Nat)) (.int (p.1 : Nat))) (fun rest env => (∃ e2 e3, env = [some ⟨.shr, catD c⟩, some ⟨.shr, .tup (dNats ws)⟩, e2, e3]) ∧ (rest.find? fun p => held c p.1).map (·.2) = chos c ws ∧ ∀ p ∈ rest, p.1 ≤ c.ps.length) ws.zipIdx _ ⟨⟨_, _, rfl⟩, rfl, hz⟩ (fun x rest env hI => ?_) fun env hI => ?_
  · obtain ⟨⟨e2, e3, rfl⟩, h2, h3⟩ := hI
    have hx := h3 x (List.mem_cons_self ..)
    have q := skips_eq h hx
    refine ⟨_, rfl, ?_⟩
    cases hc : held c x.1 with
    | false =>
      rw [hc] at q
      have q : f_skips [⟨.shr, catD c⟩, ⟨.shr, .int (x.1 : Nat)⟩] = .ok ⟨.shr, .bl true⟩ .non := q
      simp only [List.find?_cons, hc] at h2
      simp [q]
      exact ⟨h2, fun a b hl => h3 (a, b) (List.mem_cons_of_mem _ hl)⟩
    | true =>
      rw [hc] at q
      have q : f_skips [⟨.shr, catD c⟩, ⟨.shr, .int (x.1 : Nat)⟩] = .ok ⟨.shr, .bl false⟩ .non := q
      simp only [List.find?_cons, hc, Option.map_some] at h2
      simp [q, ← h2, optD]
  · obtain ⟨⟨e2, e3, rfl⟩, h2, h3⟩ := hI
    have h2 : none = chos c ws := h2
    simp [← h2, optD]
/-- the locales at which a list looks -/
def sght (c : Cat) (ws : List Nat) : List Nat := if c.key = true then rnd c.ps (ws ++ [0]) else match ws.find? (held c) with
  | some w => rnd c.ps ([w] ++ [0])
  | none => [0]
theorem sought_eq {c : Cat} (h : CatOk c) {ws : List Nat} (hw : ∀ w ∈ ws, w ≤ c.ps.length) (hl : ws.length ≤ 60) : f_sought [⟨.shr, catD c⟩, ⟨.shr, .tup (dNats ws)⟩] = .ok ⟨.shr, .tup (dNats (sght c ws))⟩ .non := by
  have hz1 : 1 ≤ sizeLine := by rw [sizeLine_eq]; omega
  have q1 := looked_of_eq h.tree hw hl
  have q2 := chosen_eq h hw
  refine def_eq rfl ?_
  cases hk : c.key with
  | true =>
    have e : sght c ws = rnd c.ps (ws ++ [0]) := by simp [sght, hk]
    simp [m_sought, hk, q1, e]
  | false =>
    rcases chos_spec c ws with ⟨h1, h2⟩ | ⟨i, w, h1, h2, h3⟩
    · have e : sght c ws = [0] := by simp [sght, hk, h2]
      rw [h1] at q2
      have q2 : f_chosen_of [⟨.shr, catD c⟩, ⟨.shr, .tup (dNats ws)⟩] = .ok ⟨.shr, .non⟩ .non := q2
      have e0 : dNats [0] = [.int 0] := rfl
      simp [m_sought, hk, q2, e, hz1, e0]
    · have e : sght c ws = rnd c.ps ([w] ++ [0]) := by simp [sght, hk, h3]
      rw [h1] at q2
      have q2 : f_chosen_of [⟨.shr, catD c⟩, ⟨.shr, .tup (dNats ws)⟩] = .ok ⟨.shr, .int (i : Nat)⟩ .non := q2
      have q3 : atI (dNats ws) (i : Nat) = some (.int (w : Nat)) := by rw [DL.atI_nat, dNats_get, h2]; rfl
      have q4 : f_looked_of [⟨.shr, treeD c.ps⟩, ⟨.shr, .tup [.int (w : Nat)]⟩] = .ok ⟨.shr, .tup (dNats (rnd c.ps ([w] ++ [0])))⟩ .non := looked_of_eq (as := [w]) h.tree (fun a ha => by rw [List.mem_singleton.mp ha]; exact hw w (List.mem_of_getElem? h2)) (by simp)
      simp [m_sought, hk, q2, e, hz1, q3, q4]
theorem sght_le {c : Cat} (h : CatOk c) {ws : List Nat} (hw : ∀ w ∈ ws, w ≤ c.ps.length) : ∀ l ∈ sght c ws, l ≤ c.ps.length := by
  have key : ∀ as : List Nat, (∀ a ∈ as, a ≤ c.ps.length) → ∀ l ∈ rnd c.ps as, l ≤ c.ps.length := fun as ha l hl => by
    obtain ⟨a, h1, h2⟩ := in_rnd.mp hl
    have := up_le h.tree (ha a h1) l h2
    exact this
  intro l hl
  have snoc : ∀ as : List Nat, (∀ a ∈ as, a ≤ c.ps.length) → ∀ a ∈ as ++ [0], a ≤ c.ps.length := fun as ha a h => by
    rcases List.mem_append.mp h with k | k
    · exact ha a k
    · rw [List.mem_singleton.mp k]; omega
  unfold sght at hl
  split at hl
  · exact key _ (snoc _ hw) l hl
  · split at hl
    · rename_i w hf
      exact key _ (snoc _ fun a ha => by rw [List.mem_singleton.mp ha]; exact hw w (List.mem_of_find?_eq_some hf)) l hl
    · rw [List.mem_singleton.mp hl]; omega
theorem fpl_le {c : Cat} {ls : List Nat} (hls : ∀ l ∈ ls, l ≤ c.ps.length) {k l : Nat} (e : fpl c ls k = some l) : l ≤ c.ps.length := hls l (List.mem_of_find?_eq_some e)

theorem tongue_of_eq {ps : List Nat} (ht : TreeOk ps) {l : Nat} (hl : l ≤ ps.length) : f_tongue_of [⟨.shr, treeD ps⟩, ⟨.shr, .int (l : Nat)⟩] = .ok ⟨.shr, .int (lastUp ps l : Nat)⟩ .non := by
  have q1 := path_of_eq ht hl
  have q2 := (lastUp_at (ps := ps) l).1
  exact def_eq rfl (by simp [m_tongue_of, q1, q2])
structure PageOk (w : Nat) (ks : List Nat) : Prop where
  ne : ks ≠ []
  asc : ks.Pairwise (· < ·)
  lt : ∀ k ∈ ks, k < w
  len : ks.length ≤ 4
theorem cutN_init (ks : List Nat) : cutN ks none (some (-1)) = ks.take (ks.length - 1) := by
  unfold cutN
  rw [HT.sIx_none, sIx_m1, List.drop_zero, Nat.sub_zero]
theorem cutN_tail (ks : List Nat) : cutN ks (some 1) none = ks.drop 1 := by
  unfold cutN
  rw [HT.sIx_none, show (1 : Int) = ((1 : Nat) : Int) from rfl, HT.sIx_nat]
  cases ks with
  | nil => rfl
  | cons k ks =>
    have : min 1 (k :: ks).length = 1 := by simp
    rw [this]
    exact List.take_of_length_le (by simp)
theorem is_ascending_eq {ks : List Nat} (hlen : ks.length ≤ 60) (hp : ks.Pairwise (· < ·)) : f_is_ascending [⟨.shr, .tup (dNats ks)⟩] = .ok ⟨.shr, .bl true⟩ .non := by
  refine def_eq rfl ?_
  simp [m_is_ascending]
  refine fin_compN (α := Nat × Nat) [some ⟨.shr, .tup (dNats ks)⟩, none, none] (fun p => D.pr (.int (p.1 : Nat)) (.int (p.2 : Nat))) (fun _ => .bl true) (ks.zip (ks.drop 1)) (by simp [cut_nats, zip2, zip_nats, cutN_tail]) (by rw [sizeLine_eq, List.length_zip]; omega) (fun y hy => ?_) ?_
  · obtain ⟨i, hi, e⟩ := List.mem_iff_getElem.mp hy
    rw [List.getElem_zip] at e
    rw [List.length_zip, List.length_drop] at hi
    have hlt : y.1 < y.2 := by
      rw [← e]
      simp only [List.getElem_drop]
      exact List.pairwise_iff_getElem.mp hp i (1 + i) (by omega) (by omega) (by omega)
    refine ⟨_, rfl, ?_⟩
    simp [hlt]
  · simp [pAll_true]
theorem is_page_eq {w : Nat} {ks : List Nat} (hp : PageOk w ks) : f_is_page [⟨.shr, .int (w : Nat)⟩, ⟨.shr, .tup (dNats ks)⟩] = .ok ⟨.shr, .bl true⟩ .non := by
  have q1 := is_tuple_tup (dNats ks)
  have d1 := dNats_len ks
  have n0 : ¬ (ks.length = 0) := fun e => hp.ne (List.eq_nil_of_length_eq_zero e)
  have n1 : ¬ ((ks.length : Int) = 0) := by omega
  have hlen := hp.len
  have q2 := is_ascending_eq (ks := ks) (by omega) hp.asc
  refine def_eq rfl ?_
  simp [m_is_page, q1, d1, n0, n1]
  refine fin_compN (α := Nat) [some ⟨.shr, .int (w : Nat)⟩, some ⟨.shr, .tup (dNats ks)⟩, none] (fun n => D.int (n : Nat)) (fun _ => .bl true) ks (by simp; rfl) (by rw [sizeLine_eq]; omega) (fun y hy => ?_) ?_
  · have hy2 := hp.lt y hy
    have q := within_eq (y : Int) 0 ((w : Int) - 1)
    rw [decide_eq_true (by omega : (0 : Int) ≤ y), decide_eq_true (by omega : (y : Int) ≤ (w : Int) - 1)] at q
    exact ⟨_, rfl, by simp [q]⟩
  · simp [pAll_true, q2]
theorem check_page_eq {c : Cat} (h : CatOk c) {ks : List Nat} (hp : PageOk c.w ks) : f_check_page [⟨.shr, catD c⟩, ⟨.shr, .tup (dNats ks)⟩] = .ok ⟨.shr, .non⟩ .non := by
  have q1 := count_keys_eq h
  have q2 := is_page_eq hp
  exact def_eq rfl (by simp [m_check_page, q1, q2])
def tng (ps : List Nat) (spots : List (Option Nat)) : List Nat := (spots.filter Option.isSome).map fun o => lastUp ps (o.getD 0)
def mixT (ts : List Nat) : Bool := ts.any fun t => !decide (t = ts.headD 0)
theorem pAny_map {α : Type} (xs : List α) (f : α → Bool) : pAny [.lst (xs.map fun x => D.bl (f x))] = some (.d (.bl (xs.any f))) := by
  have := blsOf_map xs f
  simp [pAny, this]
theorem tng_0 {ps : List Nat} {spots : List (Option Nat)} {t : Nat} (ht : t ∈ tng ps spots) : (dNats (tng ps spots))[0]? = some (.int ((tng ps spots).headD 0 : Nat)) := by
  cases h : tng ps spots with
  | nil => rw [h] at ht; cases ht
  | cons x xs => rfl
theorem mixes_page_eq {c : Cat} (h : CatOk c) {ws ks : List Nat} (hw : ∀ w ∈ ws, w ≤ c.ps.length) (hl : ws.length ≤ 60) (hp : PageOk c.w ks) :
    f_mixes_page [⟨.shr, catD c⟩, ⟨.shr, .tup (dNats ws)⟩, ⟨.shr, .tup (dNats ks)⟩] = .ok ⟨.shr, .bl (mixT (tng c.ps (ks.map (fpl c (sght c ws)))))⟩ .non := by
  have q1 := sought_eq h hw hl
  have hs := sght_le h hw
  have hlen := hp.len
  refine def_eq rfl ?_
  simp [m_mixes_page, q1]
  refine fin_compN (α := Nat) [some ⟨.shr, catD c⟩, some ⟨.shr, .tup (dNats ws)⟩, some ⟨.shr, .tup (dNats ks)⟩, some ⟨.shr, treeD c.ps⟩, some ⟨.shr, wayD c.key⟩, some ⟨.shr, rowsD c⟩, some ⟨.shr, .tup (dNats (sght c ws))⟩, none, none, none, none, none] (fun n => D.int (n : Nat)) (fun k => optD (fpl c (sght c ws) k)) ks (by simp; rfl) (by rw [sizeLine_eq]; omega) (fun y hy => ?_) ?_
  · have q := first_place_eq h hs (hp.lt y hy)
    exact ⟨_, rfl, by simp [q]⟩
  · have e1 : (ks.map fun k => optD (fpl c (sght c ws) k)) = (ks.map (fpl c (sght c ws))).map optD := by simp
    rw [e1]
    generalize hsp : ks.map (fpl c (sght c ws)) = spots
    have hsl : spots.length ≤ 4 := by rw [← hsp, List.length_map]; exact hlen
    have hsm : ∀ o ∈ spots, ∀ l, o = some l → l ≤ c.ps.length := fun o ho l e => by
      rw [← hsp] at ho
      obtain ⟨k, _, hk⟩ := List.mem_map.mp ho
      exact fpl_le hs (hk.trans e)
    simp
    refine fin_compM (α := Option Nat) [some ⟨.shr, catD c⟩, some ⟨.shr, .tup (dNats ws)⟩, some ⟨.shr, .tup (dNats ks)⟩, some ⟨.shr, treeD c.ps⟩, some ⟨.shr, wayD c.key⟩, some ⟨.shr, rowsD c⟩, some ⟨.shr, .tup (dNats (sght c ws))⟩, some ⟨.shr, .lst (spots.map optD)⟩, none, none, none, none] optD Option.isSome (fun o => .int (lastUp c.ps (o.getD 0) : Nat)) spots (by simp) (by rw [sizeLine_eq]; omega) (fun y hy => ?_) ?_
    · cases y with
      | none => exact ⟨_, rfl, by simp⟩
      | some l =>
        have q := tongue_of_eq h.tree (hsm _ hy l rfl)
        exact ⟨_, rfl, by simp [optD, q]⟩
    · have e2 : ((spots.filter Option.isSome).map fun o => D.int (lastUp c.ps (o.getD 0) : Nat)) = dNats (tng c.ps spots) := by simp [tng, dNats]
      rw [e2]
      simp
      have htl : (tng c.ps spots).length ≤ 4 := by
        rw [tng, List.length_map]
        exact Nat.le_trans (List.length_filter_le ..) hsl
      refine fin_compN (α := Nat) [some ⟨.shr, catD c⟩, some ⟨.shr, .tup (dNats ws)⟩, some ⟨.shr, .tup (dNats ks)⟩, some ⟨.shr, treeD c.ps⟩, some ⟨.shr, wayD c.key⟩, some ⟨.shr, rowsD c⟩, some ⟨.shr, .tup (dNats (sght c ws))⟩, some ⟨.shr, .lst (spots.map optD)⟩, some ⟨.shr, .lst (dNats (tng c.ps spots))⟩, none, none, none] (fun n => D.int (n : Nat)) (fun t => .bl (!decide (t = (tng c.ps spots).headD 0))) (tng c.ps spots) (by simp; rfl) (by rw [sizeLine_eq]; omega) (fun y hy => ?_) ?_
      · have q := tng_0 hy
        have e3 : ∀ a b : Nat, decide ((a : Int) = (b : Int)) = decide (a = b) := fun a b => by
          by_cases h : a = b
          · subst h; simp
          · rw [decide_eq_false h, decide_eq_false (by omega)]
        exact ⟨_, rfl, by simp [q, e3]⟩
      · have q := pAny_map (tng c.ps spots) fun t => !decide (t = (tng c.ps spots).headD 0)
        rw [q]
        simp [mixT]
theorem mixes_eq {c : Cat} (h : CatOk c) {ws ks : List Nat} (hw : ∀ w ∈ ws, w ≤ c.ps.length) (hl : ws.length ≤ 60) (hp : PageOk c.w ks) :
    f_mixes [⟨.shr, catD c⟩, ⟨.shr, .tup (dNats ws)⟩, ⟨.shr, .tup (dNats ks)⟩] = .ok ⟨.shr, .bl (mixT (tng c.ps (ks.map (fpl c (sght c ws)))))⟩ .non := by
  have q1 := check_catalog_eq h
  have q2 := check_wishes_eq hw (by omega)
  have q3 := check_page_eq h hp
  have q4 := mixes_page_eq h hw hl hp
  exact def_eq rfl (by simp [m_mixes, q1, q2, q3, q4])

/-- the text of the first of the locales with one -/
def ftx (c : Cat) (ls : List Nat) (k : Nat) : Option Nat := match fpl c ls k with
  | some l => cell c l k
  | none => none
theorem fpl_some {c : Cat} {ls : List Nat} {k l : Nat} (e : fpl c ls k = some l) : ∃ t, cell c l k = some t := by
  have := List.find?_some e
  exact Option.isSome_iff_exists.mp this
def shw (c : Cat) (ws : List Nat) : List (Option Nat) := (List.range c.w).map fun k => ftx c (sght c ws) k
theorem shw_len (c : Cat) (ws : List Nat) : (shw c ws).length = c.w := by simp [shw]
theorem shw_ok {c : Cat} (h : CatOk c) {ws : List Nat} (hw : ∀ w ∈ ws, w ≤ c.ps.length) : ∀ t, some t ∈ shw c ws → t ≤ 9 := fun t ht => by
  obtain ⟨k, hk, e⟩ := List.mem_map.mp ht
  unfold ftx at e
  cases hf : fpl c (sght c ws) k with
  | none => rw [hf] at e; cases e
  | some l =>
    rw [hf] at e
    exact cell_le h (fpl_le (sght_le h hw) hf) (List.mem_range.mp hk) e

theorem fin_seqM {a b : DS} {env : DEnv} {P : Fl → DEnv → Prop} (M : DEnv → Prop) (h1 : Fin (a env) fun fl e => fl = .nx ∧ M e) (h2 : ∀ e, M e → Fin (b e) P) : Fin (dSeq a b env) P := by
  rw [fin_seq]
  refine h1.mono fun fl e ⟨hf, hm⟩ => ?_
  subst hf
  rw [contS_nx]
  exact h2 e hm

def TxtOk (r : List (Option Nat)) : Prop := ∀ t, some t ∈ r → t ≤ 9
theorem TxtOk.snoc {r : List (Option Nat)} {o : Option Nat} (h : TxtOk r) (ho : ∀ t, o = some t → t ≤ 9) : TxtOk (r ++ [o]) := fun t ht => by
  rcases List.mem_append.mp ht with k | k
  · exact h t k
  · exact ho t (List.mem_singleton.mp k).symm
theorem at_opts {r : List (Option Nat)} {k : Nat} (hk : k < r.length) : atI (r.map optD) (k : Nat) = some (optD (r.getD k none)) := by
  rw [DL.atI_nat, List.getElem?_map]
  simp [hk]
theorem opts_ok {r : List (Option Nat)} (h : TxtOk r) {k : Nat} (hk : k < r.length) : ∀ t, r.getD k none = some t → t ≤ 9 := fun t e => h t (by
  have : r[k]? = some (r.getD k none) := by simp [hk]
  rw [e] at this
  exact List.mem_of_getElem? this)
def optsL (r : List (Option Nat)) : D := .lst (r.map optD)

def bag (a b c : Int) : D := .lst [.int a, .int b, .int c]
structure BagOk (b : Int) : Prop where
  lo : 0 ≤ b
  hi : b < 1000000000000000003
theorem digits_spec (n : Int) : ∃ a b : Int, f__law_digits [⟨.shr, .int n⟩] = .ok ⟨.own, bag a b 0⟩ .non ∧ BagOk b := by
  have hz : 3 ≤ sizeLine := by rw [sizeLine_eq]; omega
  have key : ∀ m : Int, 0 ≤ m → m < 1000000000000000000 → BagOk (m + 3) := fun m h1 h2 => ⟨by omega, by omega⟩
  have key2 : ∀ m : Int, BagOk (m % 2147483629) := fun m => ⟨Int.emod_nonneg m (by decide), by have := Int.emod_lt_of_pos m (by decide : (0 : Int) < 2147483629); omega⟩
  by_cases h0 : n < 0
  · by_cases h1 : -n + 1 < 1000000000000000000
    · exact ⟨0, -n + 1 + 3, def_eq rfl (by simp [m__law_digits, h0, h1, hz, bag]), key _ (by omega) h1⟩
    · exact ⟨-n + 1, (-n + 1) % 2147483629, def_eq rfl (by simp [m__law_digits, h0, h1, hz, bag]), key2 _⟩
  · by_cases h1 : n < 1000000000000000000
    · exact ⟨0, n + 3, def_eq rfl (by simp [m__law_digits, h0, h1, hz, bag]), key _ (by omega) h1⟩
    · exact ⟨n, n % 2147483629, def_eq rfl (by simp [m__law_digits, h0, h1, hz, bag]), key2 _⟩
theorem pick_spec {a b c s n : Int} (hb : BagOk b) (hc : 0 ≤ c ∧ c ≤ n) (hn : n ≤ 1000000) (hs : 0 < s ∧ s ≤ 4096) :
    ∃ r a' c', f__law_pick [⟨.own, bag a b c⟩, ⟨.shr, .int s⟩] = .ok ⟨.shr, .int r⟩ (bag a' b c') ∧ (0 ≤ r ∧ r < s) ∧ 0 ≤ c' ∧ c' ≤ n + 1 := by
  have hs2 : s.natAbs.log2 < 9000 := Nat.lt_trans (log_le (k := 13) (by omega) (by omega) (by decide)) (by decide)
  obtain ⟨hb1, hb2⟩ := hb
  suffices q : FinF (f__law_pick [⟨.own, bag a b c⟩, ⟨.shr, .int s⟩]) fun x o => ∃ r a' c', (x = ⟨.shr, .int r⟩ ∧ o = bag a' b c') ∧ (0 ≤ r ∧ r < s) ∧ 0 ≤ c' ∧ c' ≤ n + 1 by
    obtain ⟨x, o, e, r, a', c', ⟨rfl, rfl⟩, h⟩ := finF_iff.mp q
    exact ⟨r, a', c', e, h⟩
  refine finF_def rfl ?_
  by_cases ha : 0 < a
  · have h1 : 0 ≤ a % s := Int.emod_nonneg a (by omega)
    have h2 : a % s < s := Int.emod_lt_of_pos a hs.1
    simp [m__law_pick, bag, ha, hs.1, hs2, ixN_0, ixN_2]
    exact ⟨_, _, _, ⟨rfl, rfl, rfl⟩, ⟨h1, h2⟩, by omega, by omega⟩
  · have w1 : wideMul b 48271 = true := mul_wide (i := 61) (j := 24) (by omega) (by omega) (by omega) (by omega) (by omega) (by omega) (by omega)
    have w2 : wideMul (c + 1) (c + 1) = true := mul_wide (i := 24) (j := 24) (by omega) (by omega) (by omega) (by omega) (by omega) (by omega) (by omega)
    have c2 : (c + 1) * (c + 1) < 2 ^ 48 ∧ 0 ≤ (c + 1) * (c + 1) := by
      have h1 : (c + 1) * (c + 1) ≤ 1000001 * 1000001 := Int.mul_le_mul (by omega) (by omega) (by omega) (by omega)
      exact ⟨by omega, Int.mul_nonneg (by omega) (by omega)⟩
    have w3 : wideMul ((c + 1) * (c + 1)) 69621 = true := mul_wide (i := 48) (j := 24) c2.2 c2.1 (by omega) (by omega) (by omega) (by omega) (by omega)
    have w4 : wideMul (c + 1) 40692 = true := mul_wide (i := 24) (j := 24) (by omega) (by omega) (by omega) (by omega) (by omega) (by omega) (by omega)
    generalize hx : (b * 48271 + (c + 1) * (c + 1) * 69621 + 7919) % 2147483647 = x
    have x0 : 0 ≤ x ∧ x < 2147483647 := by
      rw [← hx]
      exact ⟨Int.emod_nonneg _ (by decide), Int.emod_lt_of_pos _ (by decide)⟩
    have w5 : wideMul x x = true := mul_wide (i := 31) (j := 31) (by omega) (by omega) (by omega) (by omega) (by omega) (by omega) (by omega)
    have l11 : (11 : Nat).log2 < 9000 := by decide
    generalize hz : (x * x + (c + 1) * 40692 + b) % 2147483399 / 11 % s = z
    have z0 : 0 ≤ z ∧ z < s := by
      rw [← hz]
      exact ⟨Int.emod_nonneg _ (by omega), Int.emod_lt_of_pos _ hs.1⟩
    simp [m__law_pick, bag, ha, hs.1, ixN_2, w1, w2, w3, w4, hx, w5, l11, hz]
    exact ⟨_, _, _, ⟨rfl, rfl, rfl⟩, z0, by omega, by omega⟩
theorem make_tree_spec {a b c n : Int} {f k : Int} (hb : BagOk b) (hc : 0 ≤ c ∧ c ≤ n) (hn : n ≤ 900000) (hf : 1 ≤ f ∧ f ≤ k) (hk : k ≤ 10) :
    ∃ ps a' c', f__law_make_tree [⟨.own, bag a b c⟩, ⟨.shr, .int f⟩, ⟨.shr, .int k⟩] = .ok ⟨.shr, treeD ps⟩ (bag a' b c') ∧ TreeOk ps ∧ (f ≤ (ps.length : Int) + 1 ∧ (ps.length : Int) < k) ∧ 0 ≤ c' ∧ c' ≤ n + 12 := by
  obtain ⟨r, a1, c1, e1, hr, hc1⟩ := pick_spec (a := a) (s := k - f + 1) hb hc (by omega) ⟨by omega, by omega⟩
  obtain ⟨q, a2, c2, e2, hq, hc2⟩ := pick_spec (a := a1) (s := 6) hb hc1 (by omega) ⟨by omega, by omega⟩
  suffices z : FinF (f__law_make_tree [⟨.own, bag a b c⟩, ⟨.shr, .int f⟩, ⟨.shr, .int k⟩]) fun x o => ∃ ps a' c', (x = ⟨.shr, treeD ps⟩ ∧ o = bag a' b c') ∧ TreeOk ps ∧ (f ≤ (ps.length : Int) + 1 ∧ (ps.length : Int) < k) ∧ 0 ≤ c' ∧ c' ≤ n + 12 by
    obtain ⟨x, o, e, r, a', c', ⟨rfl, rfl⟩, h⟩ := finF_iff.mp z
    exact ⟨r, a', c', e, h⟩
  refine finF_def rfl ?_
  let I : Nat → DEnv → Prop := fun j env => ∃ a3 c3 ps e6, env = [some ⟨.own, bag a3 b c3⟩, some ⟨.shr, .int f⟩, some ⟨.shr, .int k⟩, some ⟨.shr, .int (f + r)⟩, some ⟨.shr, .int q⟩, some ⟨.own, .lst (.non :: dNats ps)⟩, e6] ∧
    ps.length = j ∧ TreeOk ps ∧ 0 ≤ c3 ∧ c3 ≤ n + 2 + j
  have sm1 : small62 1 = true := by decide
  have sm2 : small62 (f + r) = true := by simp only [small62, Bool.and_eq_true, decide_eq_true_eq]; omega
  have hz1 : 1 ≤ sizeLine := by rw [sizeLine_eq]; omega
  simp [m__law_make_tree, e1, e2, rng2, sm1, sm2, hz1]
  refine fin_for I ⟨a2, c2, [], none, rfl, rfl, ⟨by simp, fun i p h => by simp at h⟩, hc2.1, by omega⟩ (fun j x env hj hI => ?_) fun env hI => ?_
  · obtain ⟨a3, c3, ps, e6, rfl, hl, ht, hc3⟩ := hI
    rw [rngD_get] at hj
    split at hj
    · rename_i hj2
      cases hj
      refine ⟨_, rfl, ?_⟩
      have fin : ∀ (a4 c4 : Int) (p : Int) (e6 : Option Ent), 0 ≤ p → p ≤ j → 0 ≤ c4 → c4 ≤ n + 2 + (j + 1) → I (j + 1) [some ⟨.own, bag a4 b c4⟩, some ⟨.shr, .int f⟩, some ⟨.shr, .int k⟩, some ⟨.shr, .int (f + r)⟩, some ⟨.shr, .int q⟩, some ⟨.own, .lst (.non :: (dNats ps ++ [.int p]))⟩, e6] := fun a4 c4 p e6 h0 h1 h2 h3 => by
        refine ⟨a4, c4, ps ++ [p.toNat], e6, ?_, by rw [List.length_append, List.length_singleton, hl], ht.snoc (by omega) (by omega), h2, by omega⟩
        rw [dNats_snoc, show ((p.toNat : Nat) : Int) = p by omega]
      have hsz : ps.length + 1 < sizeLine := by rw [sizeLine_eq]; have := ht.len; omega
      have hq6 : q = 0 ∨ q = 1 ∨ q = 2 ∨ q = 3 ∨ q = 4 ∨ q = 5 := by omega
      obtain ⟨p, a4, c4, e4, hp, hc4⟩ := pick_spec (a := a3) (s := 1 + (j : Int)) hb hc3 (by omega) ⟨by omega, by omega⟩
      have l2 : (2 : Nat).log2 < 9000 := by decide
      rcases hq6 with rfl | rfl | rfl | rfl | rfl | rfl <;> simp [e4, dNats_len, hsz, l2]
      · exact fin _ _ _ _ (by omega) (by omega) hc3.1 (by omega)
      · exact fin _ _ _ _ (by omega) (by omega) hc3.1 (by omega)
      · exact fin _ _ _ _ (by split <;> omega) (by split <;> omega) hc3.1 (by omega)
      · exact fin _ _ _ _ (by omega) (by omega) hc3.1 (by omega)
      · exact fin _ _ _ _ hp.1 (by omega) hc4.1 (by omega)
      · exact fin _ _ _ _ hp.1 (by omega) hc4.1 (by omega)
    · cases hj
  · obtain ⟨a3, c3, ps, e6, rfl, hl, ht, hc3⟩ := hI
    rw [rngD_len] at hl hc3
    simp
    exact ⟨_, _, _, ⟨rfl, rfl⟩, ht, ⟨by omega, by omega⟩, hc3.1, by omega⟩
theorem make_catalog_spec {a b c n : Int} {ps : List Nat} (ht : TreeOk ps) (k : Bool) {w : Nat} (hw : 1 ≤ w ∧ w ≤ 4) (hb : BagOk b) (hc : 0 ≤ c ∧ c ≤ n) (hn : n ≤ 900000) :
    ∃ rws a' c', f__law_make_catalog [⟨.own, bag a b c⟩, ⟨.shr, treeD ps⟩, ⟨.shr, wayD k⟩, ⟨.shr, .int (w : Nat)⟩] = .ok ⟨.shr, catD ⟨ps, k, w, rws⟩⟩ (bag a' b c') ∧ CatOk ⟨ps, k, w, rws⟩ ∧ 0 ≤ c' ∧ c' ≤ n + 120 := by
  obtain ⟨base, a1, c1, e1, hbase, hc1⟩ := pick_spec (a := a) (s := 10) hb hc (by omega) ⟨by omega, by omega⟩
  obtain ⟨wi, a2, c2, e2, hwi, hc2⟩ := pick_spec (a := a1) (s := 4) hb hc1 (by omega) ⟨by omega, by omega⟩
  obtain ⟨thin, a3, c3, e3, hthin, hc3⟩ := pick_spec (a := a2) (s := 4) hb hc2 (by omega) ⟨by omega, by omega⟩
  obtain ⟨words, hwords, hwd⟩ : ∃ words : Int, atI [D.int 1, .int 2, .int 3, .int 10] wi = some (.int words) ∧ 1 ≤ words ∧ words ≤ 10 := by
    have : wi = 0 ∨ wi = 1 ∨ wi = 2 ∨ wi = 3 := by omega
    rcases this with rfl | rfl | rfl | rfl
    · exact ⟨1, rfl, by omega, by omega⟩
    · exact ⟨2, rfl, by omega, by omega⟩
    · exact ⟨3, rfl, by omega, by omega⟩
    · exact ⟨10, rfl, by omega, by omega⟩
  have hlen := ht.len
  have hz3 : 3 ≤ sizeLine := by rw [sizeLine_eq]; omega
  have hz4 : 4 ≤ sizeLine := by rw [sizeLine_eq]; omega
  have sm : small62 ((ps.length : Int) + 1) = true := sm62 (by omega) (by omega)
  have smw : small62 (w : Int) = true := sm62 (by omega) (by omega)
  have r1 := rng1_eq sm
  have r2 := rng1_eq smw
  suffices z : FinF (f__law_make_catalog [⟨.own, bag a b c⟩, ⟨.shr, treeD ps⟩, ⟨.shr, wayD k⟩, ⟨.shr, .int (w : Nat)⟩]) fun x o => ∃ rws a' c', (x = ⟨.shr, catD ⟨ps, k, w, rws⟩⟩ ∧ o = bag a' b c') ∧ CatOk ⟨ps, k, w, rws⟩ ∧ 0 ≤ c' ∧ c' ≤ n + 120 by
    obtain ⟨x, o, e, r, a', c', ⟨rfl, rfl⟩, h⟩ := finF_iff.mp z
    exact ⟨r, a', c', e, h⟩
  refine finF_def rfl ?_
  simp [m__law_make_catalog, e1, e2, e3, hwords, hz4, r1]
  let OE : Int → Int → List (List (Option Nat)) → List (List (Option Nat)) → Option Ent → Option Ent → Option Ent → Option Ent → Option Ent → Option Ent → Option Ent → DEnv := fun a c rws vws e9 e10 e11 e12 e13 e14 e15 =>
    [some ⟨.own, bag a b c⟩, some ⟨.shr, treeD ps⟩, some ⟨.shr, wayD k⟩, some ⟨.shr, .int (w : Nat)⟩, some ⟨.shr, .int base⟩, some ⟨.shr, .int words⟩, some ⟨.shr, .int thin⟩, some ⟨.own, .lst (rws.map rowD)⟩, some ⟨.own, .lst (vws.map optsL)⟩, e9, e10, e11, e12, e13, e14, e15]
  refine fin_for (fun j env => ∃ a c rws vws e9 e10 e11 e12 e13 e14 e15, env = OE a c rws vws e9 e10 e11 e12 e13 e14 e15 ∧ rws.length = j ∧ vws.length = j ∧ (∀ r ∈ rws, r.length = w ∧ TxtOk r) ∧ (∀ r ∈ vws, r.length = w ∧ TxtOk r) ∧ 0 ≤ c ∧ c ≤ n + 3 + 10 * j)
    ⟨a3, c3, [], [], none, none, none, none, none, none, none, rfl, rfl, rfl, by simp, by simp, by omega, by omega⟩ (fun j x env hj hI => ?_) fun env hI => ?_
  · obtain ⟨a, c, rws, vws, e9, e10, e11, e12, e13, e14, e15, rfl, hl1, hl2, hr, hv, hc⟩ := hI
    rw [rngD_get] at hj
    split at hj
    rotate_left
    · cases hj
    rename_i hj2
    cases hj
    have hjp : j ≤ ps.length := by omega
    refine ⟨_, rfl, ?_⟩
    obtain ⟨whole, a4, c4, e4, hwh, hc4⟩ := pick_spec (a := a) (c := c) (n := n + 3 + 10 * j) (s := 6) hb hc (by omega) ⟨by omega, by omega⟩
    -- the row of the parent's view
    have hpar : 0 < j → ∃ v, v ∈ vws ∧ ∃ p : Nat, pIx [treeD ps, .int (j : Nat)] = some (.d (.int (p : Nat))) ∧ atI (vws.map optsL) (p : Nat) = some (optsL v) := fun h0 => by
      obtain ⟨i, rfl⟩ : ∃ i, j = i + 1 := ⟨j - 1, by omega⟩
      have hp := ht.getD i
      have hlt : pOf ps i < vws.length := by omega
      refine ⟨vws[pOf ps i], List.getElem_mem hlt, pOf ps i, ?_, ?_⟩
      · have := at_par hjp
        rw [treeD, p_ixT, this]
        rfl
      · rw [DL.atI_nat, List.getElem?_map]
        simp [hlt]
    simp [OE, e4, r2]
    let IE : Int → Int → List (Option Nat) → Option Ent → Option Ent → Option Ent → DEnv := fun a c rw e12 e13 e14 =>
      [some ⟨.own, bag a b c⟩, some ⟨.shr, treeD ps⟩, some ⟨.shr, wayD k⟩, some ⟨.shr, .int (w : Nat)⟩, some ⟨.shr, .int base⟩, some ⟨.shr, .int words⟩, some ⟨.shr, .int thin⟩, some ⟨.own, .lst (rws.map rowD)⟩, some ⟨.own, .lst (vws.map optsL)⟩, some ⟨.shr, .int (j : Nat)⟩, some ⟨.shr, .int whole⟩, some ⟨.own, .lst (rw.map optD)⟩, e12, e13, e14, e15]
    refine fin_for (fun j2 env => ∃ a c rw e12 e13 e14, env = IE a c rw e12 e13 e14 ∧ rw.length = j2 ∧ TxtOk rw ∧ 0 ≤ c ∧ c ≤ n + 4 + 10 * j + 2 * j2)
      ⟨a4, c4, [], e12, e13, e14, rfl, rfl, (fun t h => absurd h (by simp)), by omega, by omega⟩ (fun j2 x env hj hI => ?_) fun env hI => ?_
    · obtain ⟨a, c, rw', e12, e13, e14, rfl, hl3, hto, hc⟩ := hI
      rw [rngD_get] at hj
      split at hj
      rotate_left
      · cases hj
      rename_i hj3
      cases hj
      have hj3 : j2 < w := by omega
      refine ⟨_, rfl, ?_⟩
      obtain ⟨how, a5, c5, e5, hhow, hc5⟩ := pick_spec (a := a) (c := c) (n := n + 4 + 10 * j + 2 * j2) (s := 5) hb hc (by omega) ⟨by omega, by omega⟩
      obtain ⟨wd, a6, c6, e6, hwd6, hc6⟩ := pick_spec (a := a5) (s := words) hb hc5 (by omega) ⟨by omega, by omega⟩
      obtain ⟨m, hm, hm9⟩ : ∃ m : Nat, (base + wd) % 10 = (m : Int) ∧ m ≤ 9 := by
        have h1 := Int.emod_nonneg (base + wd) (by decide : (10 : Int) ≠ 0)
        have h2 := Int.emod_lt_of_pos (base + wd) (by decide : (0 : Int) < 10)
        exact ⟨((base + wd) % 10).toNat, by omega, by omega⟩
      let WE : Option Nat → DEnv := fun o => IE a6 c6 rw' (some ⟨.shr, .int (j2 : Nat)⟩) (some ⟨.shr, .int how⟩) (some ⟨.shr, optD o⟩)
      refine fin_seqM (fun e => e = IE a5 c5 rw' (some ⟨.shr, .int (j2 : Nat)⟩) (some ⟨.shr, .int how⟩) e14) (by simp [IE, e5]) ?_
      rintro _ rfl
      refine fin_seqM (fun e => e = WE (some m)) (by simp [IE, WE, e6, hm, optD]) ?_
      rintro _ rfl
      refine fin_seqM (fun e => ∃ o, e = WE o ∧ ∀ t, o = some t → t ≤ 9) ?_ ?_
      · by_cases h0 : 0 < j
        · have h0' : (0 : Int) < (j : Int) := by omega
          obtain ⟨v, hv1, p, q1, q2⟩ := hpar h0
          obtain ⟨hv2, hv3⟩ := hv v hv1
          have q3 := at_opts (r := v) (k := j2) (by omega)
          by_cases h1 : whole = 1
          · simp [WE, IE, h0, h0', h1, q1, q2, optsL, q3]
            exact ⟨_, rfl, opts_ok hv3 (by omega)⟩
          · by_cases h2 : how = 4
            · simp [WE, IE, h0, h0', h1, h2, q1, q2, optsL, q3]
              exact ⟨_, rfl, opts_ok hv3 (by omega)⟩
            · simp [WE, IE, h0, h0', h1, h2]
              exact ⟨_, rfl, fun t e => by cases e; exact hm9⟩
        · have h0' : ¬ (0 : Int) < (j : Int) := by omega
          simp [WE, IE, h0, h0']
          exact ⟨_, rfl, fun t e => by cases e; exact hm9⟩
      rintro _ ⟨o1, rfl, ho1⟩
      refine fin_seqM (fun e => ∃ o, e = WE o ∧ ∀ t, o = some t → t ≤ 9) ?_ ?_
      · by_cases h0 : 0 < j
        · have h0' : (0 : Int) < (j : Int) := by omega
          obtain ⟨r0, rr, hr0⟩ : ∃ r0 rr, rws = r0 :: rr := by
            cases rws with
            | nil => simp at hl1; omega
            | cons r0 rr => exact ⟨r0, rr, rfl⟩
          obtain ⟨hv2, hv3⟩ := hr r0 (by rw [hr0]; exact List.mem_cons_self ..)
          have q3 := at_opts (r := r0) (k := j2) (by omega)
          by_cases h1 : whole = 2
          · simp [WE, IE, h0, h0', h1, hr0, rowD, q3]
            exact ⟨_, rfl, opts_ok hv3 (by omega)⟩
          · simp [WE, IE, h0, h0', h1]
            exact ⟨_, rfl, ho1⟩
        · have h0' : ¬ (0 : Int) < (j : Int) := by omega
          simp [WE, IE, h0, h0']
          exact ⟨_, rfl, ho1⟩
      rintro _ ⟨o2, rfl, ho2⟩
      refine fin_seqM (fun e => ∃ o, e = WE o ∧ ∀ t, o = some t → t ≤ 9) ?_ ?_
      · by_cases h0 : whole = 0
        · simp [WE, IE, h0]
          exact ⟨none, rfl, fun t e => by cases e⟩
        · by_cases h1 : how < thin
          · simp [WE, IE, h0, h1]
            exact ⟨none, rfl, fun t e => by cases e⟩
          · simp [WE, IE, h0, h1]
            exact ⟨_, rfl, ho2⟩
      rintro _ ⟨o3, rfl, ho3⟩
      have hz5 : rw'.length < sizeLine := by rw [sizeLine_eq]; omega
      refine Fin.mono (P := fun fl e => fl = .nx ∧ e = IE a6 c6 (rw' ++ [o3]) (some ⟨.shr, .int (j2 : Nat)⟩) (some ⟨.shr, .int how⟩) (some ⟨.shr, optD o3⟩)) (by simp [WE, IE, hz5]) ?_
      rintro _ _ ⟨rfl, rfl⟩
      exact ⟨trivial, _, _, rw' ++ [o3], _, _, _, rfl, by simp [hl3], hto.snoc ho3, by omega, by omega⟩
    · obtain ⟨a, c, rw', e12, e13, e14, rfl, hl3, hto, hc⟩ := hI
      rw [rngD_len] at hl3 hc
      have hl3 : rw'.length = w := by omega
      have hz6 : rws.length < sizeLine := by rw [sizeLine_eq]; omega
      have hz7 : vws.length < sizeLine := by rw [sizeLine_eq]; omega
      obtain ⟨ab, hab, habt, habe⟩ : ∃ ab : List (Option Nat), ab.length = w ∧ TxtOk ab ∧ ((0 < j → ∃ p : Nat, pIx [treeD ps, .int (j : Nat)] = some (.d (.int (p : Nat))) ∧ atI (vws.map optsL) (p : Nat) = some (optsL ab)) ∧ (¬ 0 < j → ab = rw')) := by
        by_cases h0 : 0 < j
        · obtain ⟨v, hv1, p, q1, q2⟩ := hpar h0
          obtain ⟨hv2, hv3⟩ := hv v hv1
          exact ⟨v, hv2, hv3, fun _ => ⟨p, q1, q2⟩, fun h => absurd h0 h⟩
        · exact ⟨rw', hl3, hto, fun h => absurd h h0, fun _ => rfl⟩
      rw [contS_nx]
      refine fin_seqM (fun e => e = OE a c (rws ++ [rw']) vws (some ⟨.shr, .int (j : Nat)⟩) (some ⟨.shr, .int whole⟩) (some ⟨.own, .lst (rw'.map optD)⟩) e12 e13 e14 e15) (by simp [IE, OE, hz6, rowD]) ?_
      rintro _ rfl
      refine fin_seqM (fun e => e = OE a c (rws ++ [rw']) vws (some ⟨.shr, .int (j : Nat)⟩) (some ⟨.shr, .int whole⟩) (some ⟨.shr, .lst (rw'.map optD)⟩) e12 e13 e14 (some ⟨.shr, .lst (rw'.map optD)⟩)) (by simp [OE]) ?_
      rintro _ rfl
      refine fin_seqM (fun e => e = OE a c (rws ++ [rw']) vws (some ⟨.shr, .int (j : Nat)⟩) (some ⟨.shr, .int whole⟩) (some ⟨.shr, .lst (rw'.map optD)⟩) e12 e13 e14 (some ⟨.shr, .lst (ab.map optD)⟩)) ?_ ?_
      · by_cases h0 : 0 < j
        · have h0' : (0 : Int) < (j : Int) := by omega
          obtain ⟨p, q1, q2⟩ := habe.1 h0
          simp [OE, h0, h0', q1, q2, optsL]
        · have h0' : ¬ (0 : Int) < (j : Int) := by omega
          simp [OE, h0, h0', habe.2 h0]
      rintro _ rfl
      simp [OE, r2]
      refine fin_compN (α := Nat) (OE a c (rws ++ [rw']) vws (some ⟨.shr, .int (j : Nat)⟩) (some ⟨.shr, .int whole⟩) (some ⟨.shr, .lst (rw'.map optD)⟩) e12 e13 e14 (some ⟨.shr, .lst (ab.map optD)⟩)) (fun i => D.int (i : Nat)) (fun i => optD (if (rw'.getD i none).isNone = true then ab.getD i none else rw'.getD i none)) (List.range w) (by simp [OE, r2, rngD0]) (by rw [List.length_range, sizeLine_eq]; omega) (fun y hy => ?_) ?_
      · have hy := List.mem_range.mp hy
        have q3 := at_opts (r := rw') (k := y) (by omega)
        have q4 := at_opts (r := ab) (k := y) (by omega)
        refine ⟨_, rfl, ?_⟩
        cases ho : rw'.getD y none with
        | none =>
          rw [ho] at q3
          simp [OE, q3, q4]
        | some t =>
          rw [ho] at q3
          simp [OE, q3]
      · have e3 : ((List.range w).map fun i => optD (if (rw'.getD i none).isNone = true then ab.getD i none else rw'.getD i none)) = (((List.range w).map fun i => if (rw'.getD i none).isNone = true then ab.getD i none else rw'.getD i none)).map optD := by simp
        rw [e3]
        generalize hvw : ((List.range w).map fun i => if (rw'.getD i none).isNone = true then ab.getD i none else rw'.getD i none) = vw
        have hvl : vw.length = w := by rw [← hvw]; simp
        have hvt : TxtOk vw := fun t ht => by
          rw [← hvw] at ht
          obtain ⟨i, hi, e⟩ := List.mem_map.mp ht
          have hi := List.mem_range.mp hi
          split at e
          · exact opts_ok habt (by omega) t e
          · exact opts_ok hto (by omega) t e
        have hap : ∀ r ∈ rws ++ [rw'], r.length = w ∧ TxtOk r := fun r hm => by
          rcases List.mem_append.mp hm with h | h
          · exact hr r h
          · rw [List.mem_singleton.mp h]; exact ⟨hl3, hto⟩
        have hav : ∀ r ∈ vws ++ [vw], r.length = w ∧ TxtOk r := fun r hm => by
          rcases List.mem_append.mp hm with h | h
          · exact hv r h
          · rw [List.mem_singleton.mp h]; exact ⟨hvl, hvt⟩
        have e5 : vws.map optsL ++ [.lst (vw.map optD)] = (vws ++ [vw]).map optsL := by simp [optsL]
        simp only [fin_os_nil, fin_resA, OE]
        simp [hz7, e5, -List.map_append]
        exact ⟨a, c, rws ++ [rw'], vws ++ [vw], ⟨rfl, rfl, rfl⟩, by simp [hl1], by simp [hl2], hap, hav, by omega, by omega⟩
  · obtain ⟨a, c, rws, vws, e9, e10, e11, e12, e13, e14, e15, rfl, hl1, hl2, hr, hv, hc⟩ := hI
    rw [rngD_len] at hl1 hc
    simp [OE, hz3]
    refine ⟨rws, _, _, ⟨rfl, rfl⟩, ⟨ht, hw.1, hw.2, by show rws.length = ps.length + 1; omega, fun r h => (hr r h).1, fun r h t hm => (hr r h).2 t hm⟩, by omega, by omega⟩

theorem dLoop_I {α : Type} {vs : List Nat} {g : DG} {c : DT} {e : DE} (G : α → D) (I : Nat → List D → DEnv → Prop) : ∀ (ys : List α) (k : Nat) (acc : List D) (env : DEnv), I k acc env → acc.length ≤ k → k + ys.length ≤ sizeLine →
    (∀ j y acc env, ys[j]? = some y → I (k + j) acc env → ∃ env2, g (G y) env = some env2 ∧ Fin (c env2) fun b e2 => if b = true then Fin (e e2) fun r e3 => I (k + j + 1) (acc ++ [r.d]) (wipeD e3 vs) else I (k + j + 1) acc (wipeD e2 vs)) →
    ∃ acc' env', dLoop vs g c e (ys.map G) acc env = .ok acc' env' ∧ I (k + ys.length) acc' env'
  | [], k, acc, env, h, _, _, _ => ⟨acc, env, by simp [dLoop], h⟩
  | y :: ys, k, acc, env, h, ha, hl, step => by
    obtain ⟨env2, e1, hc⟩ := step 0 y acc env rfl h
    obtain ⟨b, e2, q1, q2⟩ := fin_iff.mp hc
    rw [List.length_cons] at hl
    have st : ∀ j z acc env, ys[j]? = some z → I (k + 1 + j) acc env → ∃ env2, g (G z) env = some env2 ∧ Fin (c env2) fun b e2 => if b = true then Fin (e e2) fun r e3 => I (k + 1 + j + 1) (acc ++ [r.d]) (wipeD e3 vs) else I (k + 1 + j + 1) acc (wipeD e2 vs) := fun j z acc env hz hI => by
      have := step (j + 1) z acc env (by simpa using hz) (by rw [show k + (j + 1) = k + 1 + j by omega]; exact hI)
      rw [show k + (j + 1) + 1 = k + 1 + j + 1 by omega] at this
      exact this
    rw [List.map_cons, dLoop, e1]
    cases b with
    | true =>
      rw [if_pos rfl] at q2
      obtain ⟨r, e3, q3, q4⟩ := fin_iff.mp q2
      obtain ⟨acc', env', q5, q6⟩ := dLoop_I G I ys (k + 1) (acc ++ [r.d]) (wipeD e3 vs) q4 (by rw [List.length_append, List.length_singleton]; omega) (by omega) st
      refine ⟨acc', env', ?_, by rw [List.length_cons, show k + (ys.length + 1) = k + 1 + ys.length by omega]; exact q6⟩
      simp only [q1, q3]
      rw [if_pos (by omega), q5]
    | false =>
      rw [if_neg (by simp)] at q2
      obtain ⟨acc', env', q5, q6⟩ := dLoop_I G I ys (k + 1) acc (wipeD e2 vs) q2 (by omega) (by omega) st
      refine ⟨acc', env', ?_, by rw [List.length_cons, show k + (ys.length + 1) = k + 1 + ys.length by omega]; exact q6⟩
      simp only [q1]
      rw [q5]
theorem fin_compI {α : Type} {vs : List Nat} {it : DI} {g : DG} {c : DT} {e : DE} {env : DEnv} {P : Ent → DEnv → Prop} (env1 : DEnv) (G : α → D) (ys : List α) (I : Nat → List D → DEnv → Prop) (hi : Fin (it env) fun xs e => xs = ys.map G ∧ e = env1) (hl : ys.length ≤ sizeLine) (h0 : I 0 [] (wipeD env1 vs))
    (step : ∀ j y acc env, ys[j]? = some y → I j acc env → ∃ env2, g (G y) env = some env2 ∧ Fin (c env2) fun b e2 => if b = true then Fin (e e2) fun r e3 => I (j + 1) (acc ++ [r.d]) (wipeD e3 vs) else I (j + 1) acc (wipeD e2 vs))
    (z : ∀ acc env, I ys.length acc env → P ⟨.own, .lst acc⟩ (backD env1 env vs)) : Fin (dComp vs it g c e env) P := by
  obtain ⟨acc, env', e1, h1⟩ := dLoop_I (g := g) (c := c) (e := e) (vs := vs) G I ys 0 [] (wipeD env1 vs) h0 (Nat.le_refl _) (by omega) fun j y acc env hy hI => by
    rw [Nat.zero_add] at *
    exact step j y acc env hy hI
  rw [Nat.zero_add] at h1
  obtain ⟨ys', e2, hi1, rfl, rfl⟩ := fin_iff.mp hi
  refine fin_iff.mpr ⟨_, _, ?_, z acc env' h1⟩
  unfold dComp
  rw [hi1, bind_ok, e1]
theorem range_get {n j y : Nat} (h : (List.range n)[j]? = some y) : y = j ∧ j < n := by
  obtain ⟨h1, h2⟩ := List.getElem?_eq_some_iff.mp h
  rw [List.getElem_range] at h2
  rw [List.length_range] at h1
  exact ⟨h2.symm, h1⟩
theorem draw_sheet_spec {a b c n : Int} {w : Nat} (hb : BagOk b) (hc : 0 ≤ c ∧ c ≤ n) (hn : n ≤ 900000) (hw : 1 ≤ w ∧ w ≤ 4) :
    ∃ ks a' c', f__law_draw_sheet [⟨.own, bag a b c⟩, ⟨.shr, .int (w : Nat)⟩] = .ok ⟨.shr, .tup (dNats ks)⟩ (bag a' b c') ∧ PageOk w ks ∧ 0 ≤ c' ∧ c' ≤ n + 5 := by
  suffices z : FinF (f__law_draw_sheet [⟨.own, bag a b c⟩, ⟨.shr, .int (w : Nat)⟩]) fun x o => ∃ ks a' c', (x = ⟨.shr, .tup (dNats ks)⟩ ∧ o = bag a' b c') ∧ PageOk w ks ∧ 0 ≤ c' ∧ c' ≤ n + 5 by
    obtain ⟨x, o, e, r, a', c', ⟨rfl, rfl⟩, h⟩ := finF_iff.mp z
    exact ⟨r, a', c', e, h⟩
  refine finF_def rfl ?_
  have r2 := rng1_eq (sm62 (by omega) (by omega) : small62 (w : Int) = true)
  have hz1 : 1 ≤ sizeLine := by rw [sizeLine_eq]; omega
  simp [m__law_draw_sheet]
  refine fin_compI (α := Nat) [some ⟨.own, bag a b c⟩, some ⟨.shr, .int (w : Nat)⟩, none, none] (fun i => D.int (i : Nat)) (List.range w) (fun j acc env => ∃ a' c' ks, env = [some ⟨.own, bag a' b c'⟩, some ⟨.shr, .int (w : Nat)⟩, none, none] ∧ acc = dNats ks ∧ ks.Pairwise (· < ·) ∧ (∀ k ∈ ks, k < j) ∧ ks.length ≤ j ∧ 0 ≤ c' ∧ c' ≤ n + j) (by simp [r2, rngD0]) (by rw [List.length_range, sizeLine_eq]; omega) ⟨a, c, [], rfl, rfl, .nil, (by simp), Nat.le_refl _, by omega, by omega⟩ (fun j y acc env hy hI => ?_) fun acc env hI => ?_
  · obtain ⟨a, c, ks, rfl, rfl, h1, h2, h3, h4⟩ := hI
    obtain ⟨rfl, hy⟩ := range_get hy
    obtain ⟨r, a1, c1, e1, hr, hc1⟩ := pick_spec (a := a) (c := c) (n := n + y) (s := 3) hb h4 (by omega) ⟨by omega, by omega⟩
    refine ⟨_, rfl, ?_⟩
    by_cases h0 : 0 < r
    · simp [e1, h0]
      refine ⟨a1, c1, rfl, ks ++ [y], by simp [dNats], List.pairwise_append.mpr ⟨h1, by simp, fun x hx z hz => by rw [List.mem_singleton.mp hz]; exact h2 x hx⟩, fun k hk => ?_, by simp; omega, by omega, by omega⟩
      rcases List.mem_append.mp hk with h | h
      · have := h2 k h; omega
      · rw [List.mem_singleton.mp h]; omega
    · simp [e1, h0]
      exact ⟨a1, c1, rfl, ks, rfl, h1, fun k hk => by have := h2 k hk; omega, by omega, by omega, by omega⟩
  · obtain ⟨a, c, ks, rfl, rfl, h1, h2, h3, h4⟩ := hI
    rw [List.length_range] at *
    have d := dNats_len ks
    obtain ⟨r, a1, c1, e1, hr, hc1⟩ := pick_spec (a := a) (c := c) (n := n + w) (s := (w : Int)) hb h4 (by omega) ⟨by omega, by omega⟩
    obtain ⟨r', rfl⟩ : ∃ r' : Nat, r = (r' : Int) := ⟨r.toNat, by omega⟩
    cases ks with
    | nil =>
      have d0 : dNats [] = [] := rfl
      simp [hz1, e1, d0]
      exact ⟨[r'], _, _, ⟨rfl, rfl⟩, ⟨by simp, by simp, fun k hk => by rw [List.mem_singleton.mp hk]; omega, by simp⟩, by omega, by omega⟩
    | cons k ks =>
      have n0 : ¬ ((ks.length : Int) + 1 = 0) := by omega
      simp [hz1, d, n0]
      exact ⟨_, _, _, ⟨rfl, rfl⟩, ⟨by simp, h1, h2, by omega⟩, by omega, by omega⟩

theorem draw_wants_spec {a b c n : Int} {m : Nat} {L : Int} (hb : BagOk b) (hc : 0 ≤ c ∧ c ≤ n) (hn : n ≤ 900000) (hm : m ≤ 9) (hL : 0 ≤ L ∧ L ≤ 40) :
    ∃ ws a' c', f__law_draw_wants [⟨.own, bag a b c⟩, ⟨.shr, .int ((m : Int) + 1)⟩, ⟨.shr, .int L⟩] = .ok ⟨.shr, .tup (dNats ws)⟩ (bag a' b c') ∧ (∀ w ∈ ws, w ≤ m) ∧ ws.length ≤ 40 ∧ 0 ≤ c' ∧ c' ≤ n + 50 := by
  suffices z : FinF (f__law_draw_wants [⟨.own, bag a b c⟩, ⟨.shr, .int ((m : Int) + 1)⟩, ⟨.shr, .int L⟩]) fun x o => ∃ ws a' c', (x = ⟨.shr, .tup (dNats ws)⟩ ∧ o = bag a' b c') ∧ (∀ w ∈ ws, w ≤ m) ∧ ws.length ≤ 40 ∧ 0 ≤ c' ∧ c' ≤ n + 50 by
    obtain ⟨x, o, e, r, a', c', ⟨rfl, rfl⟩, h⟩ := finF_iff.mp z
    exact ⟨r, a', c', e, h⟩
  refine finF_def rfl ?_
  obtain ⟨r, a1, c1, e1, hr, hc1⟩ := pick_spec (a := a) (s := 5) hb hc (by omega) ⟨by omega, by omega⟩
  obtain ⟨r2, a2, c2, e2, hr2, hc2⟩ := pick_spec (a := a1) (s := L + 1) hb hc1 (by omega) ⟨by omega, by omega⟩
  have go : ∀ (q : Nat) (a c : Int), q ≤ 40 → 0 ≤ c → c ≤ n + 2 → Fin (dRet (dPrim pTupOf [.v (dComp [4] (iArgs rng1 [.s 3]) (gSet 4) (dYes) (dCallR f__law_pick 0 [.v (dVar 1)]))]) [some ⟨.own, bag a b c⟩, some ⟨.shr, .int ((m : Int) + 1)⟩, some ⟨.shr, .int L⟩, some ⟨.shr, .int (q : Nat)⟩, none]) (EndS true fun x o => ∃ ws a' c', (x = ⟨.shr, .tup (dNats ws)⟩ ∧ o = bag a' b c') ∧ (∀ w ∈ ws, w ≤ m) ∧ ws.length ≤ 40 ∧ 0 ≤ c' ∧ c' ≤ n + 50) := fun q a c hq h0 h1 => by
    have r2 := rng1_eq (sm62 (by omega) (by omega) : small62 (q : Int) = true)
    simp
    refine fin_compI (α := Nat) [some ⟨.own, bag a b c⟩, some ⟨.shr, .int ((m : Int) + 1)⟩, some ⟨.shr, .int L⟩, some ⟨.shr, .int (q : Nat)⟩, none] (fun i => D.int (i : Nat)) (List.range q) (fun j acc env => ∃ a' c' ws, env = [some ⟨.own, bag a' b c'⟩, some ⟨.shr, .int ((m : Int) + 1)⟩, some ⟨.shr, .int L⟩, some ⟨.shr, .int (q : Nat)⟩, none] ∧ acc = dNats ws ∧ (∀ w ∈ ws, w ≤ m) ∧ ws.length = j ∧ 0 ≤ c' ∧ c' ≤ n + 2 + j) (by simp [r2, rngD0]) (by rw [List.length_range, sizeLine_eq]; omega) ⟨a, c, [], rfl, rfl, (by simp), rfl, by omega, by omega⟩ (fun j y acc env hy hI => ?_) fun acc env hI => ?_
    · obtain ⟨a, c, ws, rfl, rfl, h2, h3, h4⟩ := hI
      obtain ⟨rfl, hy⟩ := range_get hy
      obtain ⟨r, a1, c1, e1, hr, hc1⟩ := pick_spec (a := a) (c := c) (n := n + 2 + y) (s := (m : Int) + 1) hb h4 (by omega) ⟨by omega, by omega⟩
      obtain ⟨r', rfl⟩ : ∃ r' : Nat, r = (r' : Int) := ⟨r.toNat, by omega⟩
      refine ⟨_, rfl, ?_⟩
      simp [e1]
      refine ⟨a1, c1, rfl, ws ++ [r'], by simp [dNats], fun k hk => ?_, by simp [h3], by omega, by omega⟩
      rcases List.mem_append.mp hk with h | h
      · exact h2 k h
      · rw [List.mem_singleton.mp h]; omega
    · obtain ⟨a, c, ws, rfl, rfl, h2, h3, h4⟩ := hI
      rw [List.length_range] at *
      simp
      exact ⟨_, _, _, ⟨rfl, rfl⟩, h2, by omega, by omega, by omega⟩
  obtain ⟨q, hq, hq40⟩ : ∃ q : Nat, (if r < L then r else L) = (q : Int) ∧ q ≤ 40 := ⟨(if r < L then r else L).toNat, by split <;> omega, by split <;> omega⟩
  obtain ⟨q2, hq2⟩ : ∃ q2 : Nat, r2 = (q2 : Int) := ⟨r2.toNat, by omega⟩
  subst hq2
  unfold m__law_draw_wants
  refine fin_seqM (fun e => e = [some ⟨.own, bag a1 b c1⟩, some ⟨.shr, .int ((m : Int) + 1)⟩, some ⟨.shr, .int L⟩, some ⟨.shr, .int (q : Nat)⟩, none]) (by simp [e1, hq]) ?_
  rintro _ rfl
  by_cases h4 : q = 4
  · subst h4
    refine fin_seqM (fun e => e = [some ⟨.own, bag a2 b c2⟩, some ⟨.shr, .int ((m : Int) + 1)⟩, some ⟨.shr, .int L⟩, some ⟨.shr, .int (q2 : Nat)⟩, none]) (by simp [e2]) ?_
    rintro _ rfl
    exact go q2 a2 c2 (by omega) (by omega) (by omega)
  · have h4' : ¬ ((q : Int) = 4) := by omega
    refine fin_seqM (fun e => e = [some ⟨.own, bag a1 b c1⟩, some ⟨.shr, .int ((m : Int) + 1)⟩, some ⟨.shr, .int L⟩, some ⟨.shr, .int (q : Nat)⟩, none]) (by simp [h4']) ?_
    rintro _ rfl
    exact go q a1 c1 hq40 (by omega) (by omega)

def rootp (c : Cat) (k : Nat) : Option Nat := if (cell c 0 k).isSome = true then some 0 else none
/-- the place, wish by wish -/
def lwh (c : Cat) (k : Nat) : List Nat → Option Nat
  | [] => rootp c k
  | w :: rest => match fpl c (up c.ps w) k with
    | some s => some s
    | none => if (!c.key && held c w) = true then rootp c k else lwh c k rest
/-! the two ways to the place are one -/
theorem find_addNew (p : Nat → Bool) : ∀ (s f : List Nat), (addNew f s).find? p = (f ++ s).find? p
  | [], f => by simp [addNew]
  | x :: s, f => by
    have e : addNew f (x :: s) = addNew (if x ∈ f then f else f ++ [x]) s := rfl
    rw [e, find_addNew p s]
    by_cases h : x ∈ f
    · rw [if_pos h, List.find?_append, List.find?_append, List.find?_cons]
      cases hp : p x with
      | false => rfl
      | true =>
        cases hf : f.find? p with
        | some y => rfl
        | none =>
          have := List.find?_eq_none.mp hf x h
          rw [hp] at this
          exact absurd rfl this
    · rw [if_neg h, List.append_assoc]
      rfl
theorem find_rnd (ps : List Nat) (p : Nat → Bool) (as : List Nat) : (rnd ps as).find? p = (as.flatMap (up ps)).find? p := by
  have key : ∀ (as f : List Nat), (as.foldl (fun f l => addNew f (up ps l)) f).find? p = (f ++ as.flatMap (up ps)).find? p := fun as => by
    induction as with
    | nil => intro f; simp
    | cons a as ih =>
      intro f
      rw [List.foldl_cons, ih, List.find?_append, find_addNew, List.flatMap_cons, ← List.find?_append, List.append_assoc]
  exact key as []
theorem fpl_nil (c : Cat) (k : Nat) : fpl c [0] k = rootp c k := by
  cases h : (cell c 0 k).isSome <;> simp [fpl, rootp, h]
theorem fpl_app (c : Cat) (a b : List Nat) (k : Nat) : fpl c (a ++ b) k = match fpl c a k with
    | some s => some s
    | none => fpl c b k := by
  unfold fpl
  rw [List.find?_append]
  cases a.find? fun l => (cell c l k).isSome <;> rfl
theorem up0 (ps : List Nat) : up ps 0 = [0] := rfl
theorem lwh_eq (c : Cat) (ws : List Nat) (k : Nat) : fpl c (sght c ws) k = lwh c k ws := by
  cases hk : c.key with
  | true =>
    have e : sght c ws = rnd c.ps (ws ++ [0]) := by simp [sght, hk]
    rw [e]
    have e2 : fpl c (rnd c.ps (ws ++ [0])) k = fpl c ((ws ++ [0]).flatMap (up c.ps)) k := find_rnd _ _ _
    rw [e2]
    clear e e2
    induction ws with
    | nil =>
      show fpl c (up c.ps 0 ++ []) k = rootp c k
      rw [List.append_nil, up0, fpl_nil]
    | cons w ws ih =>
      rw [List.cons_append, List.flatMap_cons, fpl_app, ih, lwh]
      cases fpl c (up c.ps w) k with
      | none => simp [hk]
      | some s => rfl
  | false =>
    have e : sght c ws = match ws.find? (held c) with
      | some w => rnd c.ps ([w] ++ [0])
      | none => [0] := by
      unfold sght
      rw [if_neg (by simp [hk])]
      all_goals rfl
    rw [e]
    clear e
    have idle : ∀ w, held c w = false → fpl c (up c.ps w) k = none := fun w hw => by
      unfold fpl
      rw [List.find?_eq_none]
      intro s hs hc
      have : rowHas (row c s) = false := by
        have := List.any_eq_false.mp hw s hs
        simpa using this
      unfold rowHas at this
      rw [List.any_eq_false] at this
      unfold cell at hc
      cases hg : (row c s)[k]? with
      | none => simp [List.getD, hg] at hc
      | some o =>
        simp [List.getD, hg] at hc
        exact this o (List.mem_of_getElem? hg) hc
    induction ws with
    | nil => exact fpl_nil c k
    | cons w ws ih =>
      rw [List.find?_cons]
      cases hh : held c w with
      | true =>
        have e2 : fpl c (rnd c.ps ([w] ++ [0])) k = fpl c (([w] ++ [0]).flatMap (up c.ps)) k := find_rnd _ _ _
        have e3 : ([w] ++ [0]).flatMap (up c.ps) = up c.ps w ++ [0] := by simp [up0]
        show fpl c (rnd c.ps ([w] ++ [0])) k = _
        rw [e2, e3, fpl_app, fpl_nil, lwh]
        cases fpl c (up c.ps w) k with
        | none => simp [hk, hh]
        | some s => rfl
      | false =>
        rw [lwh, idle w hh]
        simp only [hk, hh]
        exact ih

/-! data without texts, of small numbers: told equal, shown -/
mutual
def sm : D → Bool
  | .non => true
  | .bl _ => true
  | .int i => decide (0 ≤ i) && decide (i ≤ 999999999999)
  | .lst ds => sms ds
  | .tup ds => sms ds
  | _ => false
def sms : List D → Bool
  | [] => true
  | d :: ds => sm d && sms ds
end
mutual
def dp : D → Nat
  | .lst ds => dps ds + 1
  | .tup ds => dps ds + 1
  | _ => 0
def dps : List D → Nat
  | [] => 0
  | d :: ds => max (dp d) (dps ds)
end
mutual
def wt : D → Nat
  | .lst ds => 3 + wts ds
  | .tup ds => 3 + wts ds
  | _ => 14
def wts : List D → Nat
  | [] => 0
  | d :: ds => wt d + 2 + wts ds
end
structure SmF (x : D) : Prop where
  p : DL.plain x = true
  l : (toP x).canLay0 = true
  s : (toP x).showable = true
  n : noStr (toP x) = true
  d : (toP x).depth = dp x
  w : (toP x).shown.length ≤ wt x
structure SmsF (x : List D) : Prop where
  p : plains x = true
  l : PyData.canLayAll0 (toPs x) = true
  s : PyData.showableAll (toPs x) = true
  n : noStrs (toPs x) = true
  d : PyData.depthAll (toPs x) = dps x
  w : ((PyData.shownAll (toPs x)).map (·.length)).sum + 2 * (PyData.shownAll (toPs x)).length ≤ wts x
mutual
theorem sm_facts : ∀ d : D, sm d = true → SmF d
  | .non, _ => ⟨by simp only [DL.plain], by simp only [toP, PyData.canLay0], by simp only [toP, PyData.showable], by simp only [toP, noStr], by simp only [toP, PyData.depth, dp], by simp only [toP, PyData.shown, wt]; decide⟩
  | .bl b, _ => ⟨by simp only [DL.plain], by simp only [toP, PyData.canLay0], by simp only [toP, PyData.showable], by simp only [toP, noStr], by simp only [toP, PyData.depth, dp], by simp only [toP, PyData.shown, wt]; cases b <;> decide⟩
  | .int i, h => by
    simp only [sm, Bool.and_eq_true, decide_eq_true_eq] at h
    obtain ⟨n, rfl⟩ : ∃ n : Nat, i = (n : Int) := ⟨i.toNat, by omega⟩
    have b := PyData.shown_int_le2 (i := (n : Int)) (by omega) (by omega)
    refine ⟨by simp only [DL.plain], by simp only [toP, PyData.canLay0], ?_, by simp only [toP, noStr], by simp only [toP, PyData.depth, dp], by simp only [toP, wt]; omega⟩
    simp only [toP, PyData.showable, Int.natAbs_natCast, decide_eq_true_eq]
    exact log_small (by unfold twelve; omega)
  | .lst ds, h => by
    have q := sms_facts ds (by simpa only [sm] using h)
    refine ⟨by simp only [DL.plain]; exact q.p, by simp only [toP, PyData.canLay0]; exact q.l, by simp only [toP, PyData.showable]; exact q.s, by simp only [toP, noStr]; exact q.n, by simp only [toP, PyData.depth, dp, q.d], ?_⟩
    simp only [toP, PyData.shown, wt]
    have := listText_len_le (PyData.shownAll (toPs ds))
    have := q.w
    omega
  | .tup ds, h => by
    have q := sms_facts ds (by simpa only [sm] using h)
    refine ⟨by simp only [DL.plain]; exact q.p, by simp only [toP, PyData.canLay0]; exact q.l, by simp only [toP, PyData.showable]; exact q.s, by simp only [toP, noStr]; exact q.n, by simp only [toP, PyData.depth, dp, q.d], ?_⟩
    simp only [toP, PyData.shown, wt]
    have := tupleText_len_le (PyData.shownAll (toPs ds))
    have := q.w
    omega
  | .str _, h => by simp only [sm] at h; cases h
  | .fz _, h => by simp only [sm] at h; cases h
  | .exc _ _, h => by simp only [sm] at h; cases h
  | .pr _ _, h => by simp only [sm] at h; cases h
  | .rng _ _, h => by simp only [sm] at h; cases h
theorem sms_facts : ∀ ds : List D, sms ds = true → SmsF ds
  | [], _ => ⟨by simp only [plains], by simp only [toPs, PyData.canLayAll0], by simp only [toPs, PyData.showableAll], by simp only [toPs, noStrs], by simp only [toPs, PyData.depthAll, dps], by simp only [toPs, PyData.shownAll, wts]; decide⟩
  | d :: ds, h => by
    simp only [sms, Bool.and_eq_true] at h
    have q1 := sm_facts d h.1
    have q2 := sms_facts ds h.2
    refine ⟨by simp only [plains, q1.p, q2.p, Bool.and_self], by simp only [toPs, PyData.canLayAll0, q1.l, q2.l, Bool.and_self], by simp only [toPs, PyData.showableAll, q1.s, q2.s, Bool.and_self], by simp only [toPs, noStrs, q1.n, q2.n, Bool.and_self], by simp only [toPs, PyData.depthAll, dps, q1.d, q2.d], ?_⟩
    have w1 := q1.w
    have w2 := q2.w
    simp only [toPs, PyData.shownAll, wts, List.map_cons, List.sum_cons, List.length_cons]
    omega
end
theorem okD_sm {d : D} (h : sm d = true) (hd : dp d ≤ 64) : okD d = true := by
  have q := sm_facts d h
  simp only [okD, q.p, SeqAt.shaped, q.l, q.d, Bool.true_and, decide_eq_true_eq]
  exact hd
theorem okR_sm {d : D} (h : sm d = true) (hd : dp d ≤ 64) (hw : wt d ≤ 1000000) : okR d = true := by
  have q := sm_facts d h
  have k := okD_sm h hd
  simp only [okD, Bool.and_eq_true] at k
  have : (toP d).shown.length ≤ sizeLine := by have := q.w; rw [sizeLine_eq]; omega
  simp only [okR, k.1, k.2, q.s, this, Bool.true_and, decide_true]
theorem okS_sm {d : D} (h : sm d = true) : okD (.str (toP d).shown) = true := okD_str (strOk_shown _ (sm_facts d h).n)
theorem pRepr_sm {d : D} (h : sm d = true) (hd : dp d ≤ 64) (hw : wt d ≤ 1000000) : pRepr [d] = some (.d (.str (toP d).shown)) := by simp only [pRepr, okR_sm h hd hw, if_true]
theorem ne_selfD {d : D} (h : okD d = true) : pNe [d, d] = some (.d (.bl false)) := by
  have h4 := deq_self h
  simp [pNe, h, h4]
theorem eq_selfD {d : D} (h : okD d = true) : pEq [d, d] = some (.d (.bl true)) := by
  have h4 := deq_self h
  simp [pEq, h, h4]
theorem sms_map {α : Type} {f : α → D} : ∀ {xs : List α}, (∀ x ∈ xs, sm (f x) = true) → sms (xs.map f) = true
  | [], _ => by simp only [List.map_nil, sms]
  | x :: xs, h => by
    simp only [List.map_cons, sms, h x (List.mem_cons_self ..), Bool.true_and]
    exact sms_map fun y hy => h y (List.mem_cons_of_mem _ hy)
theorem dps_map {α : Type} {f : α → D} {k : Nat} : ∀ {xs : List α}, (∀ x ∈ xs, dp (f x) ≤ k) → dps (xs.map f) ≤ k
  | [], _ => by simp only [List.map_nil, dps]; exact Nat.zero_le _
  | x :: xs, h => by
    simp only [List.map_cons, dps]
    exact Nat.max_le.mpr ⟨h x (List.mem_cons_self ..), dps_map fun y hy => h y (List.mem_cons_of_mem _ hy)⟩
theorem wts_map {α : Type} {f : α → D} {k : Nat} : ∀ {xs : List α}, (∀ x ∈ xs, wt (f x) ≤ k) → wts (xs.map f) ≤ (k + 2) * xs.length
  | [], _ => by simp only [List.map_nil, wts]; exact Nat.zero_le _
  | x :: xs, h => by
    have h1 := h x (List.mem_cons_self ..)
    have h2 := wts_map (f := f) (k := k) (xs := xs) fun y hy => h y (List.mem_cons_of_mem _ hy)
    simp only [List.map_cons, wts, List.length_cons, Nat.mul_add, Nat.mul_one]
    omega

theorem sm_nat {n : Nat} (h : n ≤ 999999999999) : sm (.int (n : Nat)) = true := by
  simp only [sm, Bool.and_eq_true, decide_eq_true_eq]; omega
theorem sm_opt {o : Option Nat} (h : ∀ t, o = some t → t ≤ 9) : sm (optD o) = true := by
  cases o with
  | none => simp only [optD, sm]
  | some t => exact sm_nat (by have := h t rfl; omega)
theorem dp_opt (o : Option Nat) : dp (optD o) = 0 := by cases o <;> simp only [optD, dp]
theorem wt_opt (o : Option Nat) : wt (optD o) = 14 := by cases o <;> simp only [optD, wt]
theorem sm_row {r : List (Option Nat)} (h : ∀ t, some t ∈ r → t ≤ 9) : sm (rowD r) = true := by
  simp only [rowD, sm]
  exact sms_map fun o ho => sm_opt fun t e => h t (e ▸ ho)
theorem dp_row (r : List (Option Nat)) : dp (rowD r) ≤ 1 := by
  simp only [rowD, dp]
  have := dps_map (f := optD) (k := 0) (xs := r) fun o _ => by rw [dp_opt]; exact Nat.le_refl _
  omega
theorem wt_row {r : List (Option Nat)} (h : r.length ≤ 4) : wt (rowD r) ≤ 67 := by
  simp only [rowD, wt]
  have := wts_map (f := optD) (k := 14) (xs := r) fun o _ => by rw [wt_opt]; exact Nat.le_refl _
  omega

def tupN (ws : List Nat) : D := .tup (dNats ws)

def lngr (ps : List Nat) (ls : List (List Nat)) : List (List Nat) := ls.flatMap fun ws => ((List.range (ps.length + 1)).filter fun l => !decide (l ∈ rnd ps ws)).map fun l => ws ++ [l]
theorem inT_nats (neg : Bool) (s : Nat) (f : List Nat) : pInN neg [.int (s : Nat), .tup (dNats f)] = some (.d (.bl (if neg then !decide (s ∈ f) else decide (s ∈ f)))) := by
  simp only [pInN, flat_nats, if_true, inD_nats]
theorem longer_eq {ps : List Nat} (ht : TreeOk ps) {ls : List (List Nat)} (hls : ∀ ws ∈ ls, (∀ w ∈ ws, w ≤ ps.length) ∧ ws.length ≤ 60) (hl : ls.length ≤ 1000) : f_longer [⟨.shr, treeD ps⟩, ⟨.shr, .lst (ls.map tupN)⟩] = .ok ⟨.own, .lst ((lngr ps ls).map tupN)⟩ .non := by
  have hlen := ht.len
  have hz1 : 1 ≤ sizeLine := by rw [sizeLine_eq]; omega
  have sm : small62 ((ps.length : Int) + 1) = true := sm62 (by omega) (by omega)
  have r1 := rng1_eq sm
  refine def_eq rfl ?_
  simp [m_longer]
  refine fin_forL (α := List Nat) tupN (fun rest env => ∃ acc e3 e4 e5, env = [some ⟨.shr, treeD ps⟩, some ⟨.shr, .lst (ls.map tupN)⟩, some ⟨.own, .lst (acc.map tupN)⟩, e3, e4, e5] ∧ acc ++ lngr ps rest = lngr ps ls ∧ acc.length + 10 * rest.length ≤ 10000 ∧ ∀ ws ∈ rest, (∀ w ∈ ws, w ≤ ps.length) ∧ ws.length ≤ 60) ls _ ⟨[], _, _, _, rfl, rfl, by simp; omega, hls⟩ (fun ws rest env hI => ?_) fun env hI => ?_
  · obtain ⟨acc, e3, e4, e5, rfl, h1, h2, h3⟩ := hI
    obtain ⟨k1, k2⟩ := h3 ws (List.mem_cons_self ..)
    rw [List.length_cons] at h2
    have q1 := passed_eq ht k1 (by omega)
    have d := dNats_len ws
    have hz : ws.length + 1 ≤ sizeLine := by rw [sizeLine_eq]; omega
    have e1 : dNats ws ++ [D.int 0] = dNats (ws ++ [0]) := by simp [dNats]
    refine ⟨_, rfl, ?_⟩
    simp [tupN, q1, r1]
    rw [rngD0]
    refine fin_forL (α := Nat) (fun n => D.int (n : Nat)) (fun rest2 env => ∃ acc2 e5, env = [some ⟨.shr, treeD ps⟩, some ⟨.shr, .lst (ls.map tupN)⟩, some ⟨.own, .lst (acc2.map tupN)⟩, some ⟨.shr, .tup (dNats ws)⟩, some ⟨.shr, .tup (dNats (rnd ps ws))⟩, e5] ∧ acc2 ++ (rest2.filter fun l => !decide (l ∈ rnd ps ws)).map (fun l => ws ++ [l]) = acc ++ (((List.range (ps.length + 1)).filter fun l => !decide (l ∈ rnd ps ws)).map fun l => ws ++ [l]) ∧ acc2.length + rest2.length ≤ acc.length + 10) (List.range (ps.length + 1)) _ ⟨acc, _, rfl, rfl, by rw [List.length_range]; omega⟩ (fun y rest2 env hJ => ?_) fun env hJ => ?_
    · obtain ⟨acc2, e5, rfl, j1, j2⟩ := hJ
      rw [List.length_cons] at j2
      have q2 := inT_nats true y (rnd ps ws)
      have hz5 : acc2.length < sizeLine := by rw [sizeLine_eq]; omega
      refine ⟨_, rfl, ?_⟩
      by_cases hm : y ∈ rnd ps ws
      · rw [List.filter_cons, if_neg (by simp [hm])] at j1
        simp [q2, hm]
        exact ⟨acc2, rfl, j1, by omega⟩
      · rw [List.filter_cons, if_pos (by simp [hm]), List.map_cons] at j1
        have e2 : dNats ws ++ [D.int (y : Nat)] = dNats (ws ++ [y]) := by simp [dNats]
        simp [q2, hm, d, hz, hz1, hz5, e2]
        exact ⟨acc2 ++ [ws ++ [y]], by simp [tupN], by rw [← j1]; simp, by simp; omega⟩
    · obtain ⟨acc2, e5, rfl, j1, j2⟩ := hJ
      simp at j1 j2
      have e2 : lngr ps (ws :: rest) = (((List.range (ps.length + 1)).filter fun l => !decide (l ∈ rnd ps ws)).map fun l => ws ++ [l]) ++ lngr ps rest := by simp [lngr]
      rw [e2, ← List.append_assoc, ← j1] at h1
      simp
      exact ⟨acc2, rfl, h1, by omega, fun w hw => h3 w (List.mem_cons_of_mem _ hw)⟩
  · obtain ⟨acc, e3, e4, e5, rfl, h1, h2, h3⟩ := hI
    have h1 : acc ++ [] = lngr ps ls := h1
    rw [List.append_nil] at h1
    simp [h1]
def lay (ps : List Nat) : Nat → List (List Nat)
  | 0 => [[]]
  | k + 1 => lngr ps (lay ps k)
def shrt (ps : List Nat) : Nat → List (List Nat)
  | 0 => [[]]
  | k + 1 => shrt ps k ++ lay ps (k + 1)
theorem mem_lngr {ps : List Nat} {ls : List (List Nat)} {x : List Nat} (h : x ∈ lngr ps ls) : ∃ ws ∈ ls, ∃ l, l ≤ ps.length ∧ x = ws ++ [l] := by
  simp only [lngr, List.mem_flatMap, List.mem_map, List.mem_filter, List.mem_range] at h
  obtain ⟨ws, h1, l, ⟨h2, _⟩, rfl⟩ := h
  exact ⟨ws, h1, l, by omega, rfl⟩
theorem lay_ok (ps : List Nat) : ∀ k, ∀ ws ∈ lay ps k, (∀ w ∈ ws, w ≤ ps.length) ∧ ws.length = k
  | 0, ws, h => by
    rw [List.mem_singleton.mp h]
    exact ⟨by simp, rfl⟩
  | k + 1, ws, h => by
    obtain ⟨us, h1, l, h2, rfl⟩ := mem_lngr h
    obtain ⟨i1, i2⟩ := lay_ok ps k us h1
    refine ⟨fun w hw => ?_, by simp [i2]⟩
    rcases List.mem_append.mp hw with h | h
    · exact i1 w h
    · rw [List.mem_singleton.mp h]; exact h2
theorem lngr_len {ps : List Nat} (hl : ps.length ≤ 9) : ∀ ls : List (List Nat), (lngr ps ls).length ≤ 10 * ls.length
  | [] => by simp [lngr]
  | ws :: ls => by
    have ih := lngr_len hl ls
    have e2 : lngr ps (ws :: ls) = (((List.range (ps.length + 1)).filter fun l => !decide (l ∈ rnd ps ws)).map fun l => ws ++ [l]) ++ lngr ps ls := by simp [lngr]
    have := List.length_filter_le (fun l => !decide (l ∈ rnd ps ws)) (List.range (ps.length + 1))
    rw [List.length_range] at this
    rw [e2, List.length_append, List.length_map, List.length_cons]
    omega
theorem lay_len {ps : List Nat} (hl : ps.length ≤ 9) : ∀ k, (lay ps k).length ≤ 10 ^ k
  | 0 => Nat.le_refl _
  | k + 1 => by
    have := lngr_len hl (lay ps k)
    have ih := lay_len hl k
    rw [lay, Nat.pow_succ]
    omega
theorem shrt_ok (ps : List Nat) : ∀ k, ∀ ws ∈ shrt ps k, (∀ w ∈ ws, w ≤ ps.length) ∧ ws.length ≤ k
  | 0, ws, h => by
    rw [List.mem_singleton.mp h]
    exact ⟨by simp, Nat.le_refl _⟩
  | k + 1, ws, h => by
    rcases List.mem_append.mp h with h | h
    · obtain ⟨i1, i2⟩ := shrt_ok ps k ws h
      exact ⟨i1, by omega⟩
    · obtain ⟨i1, i2⟩ := lay_ok ps (k + 1) ws h
      exact ⟨i1, by omega⟩
theorem short_lists_eq {ps : List Nat} (ht : TreeOk ps) {n : Nat} (hn : n ≤ 2) : f_short_lists [⟨.shr, treeD ps⟩, ⟨.shr, .int (n : Nat)⟩] = .ok ⟨.own, .lst ((shrt ps n).map tupN)⟩ .non := by
  have hlen := ht.len
  have hz1 : 1 ≤ sizeLine := by rw [sizeLine_eq]; omega
  have r1 := rng1_eq (sm62 (by omega) (by omega) : small62 (n : Int) = true)
  have l1 := lay_len hlen 1
  have l2 := lay_len hlen 2
  refine def_eq rfl ?_
  simp [m_short_lists, hz1, r1]
  refine fin_for (fun j env => ∃ md e4, env = [some ⟨.shr, treeD ps⟩, some ⟨.shr, .int (n : Nat)⟩, some ⟨.own, .lst ((shrt ps j).map tupN)⟩, some ⟨md, .lst ((lay ps j).map tupN)⟩, e4]) ⟨_, _, rfl⟩ (fun j x env hj hI => ?_) fun env hI => ?_
  · obtain ⟨md, e4, rfl⟩ := hI
    have hj2 : j < n := by
      have := (List.getElem?_eq_some_iff.mp hj).1
      rw [rngD_len] at this
      exact this
    have ll := lay_len hlen j
    have ll2 := lay_len hlen (j + 1)
    have hp : 10 ^ j ≤ 10 := by
      have : j = 0 ∨ j = 1 := by omega
      rcases this with rfl | rfl <;> decide
    have hp2 : 10 ^ (j + 1) ≤ 100 := by
      have : j = 0 ∨ j = 1 := by omega
      rcases this with rfl | rfl <;> decide
    have q := longer_eq ht (ls := lay ps j) (fun ws h => ⟨(lay_ok ps j ws h).1, by have := (lay_ok ps j ws h).2; omega⟩) (by omega)
    have sl : (shrt ps j).length ≤ 11 := by
      have : j = 0 ∨ j = 1 := by omega
      rcases this with rfl | rfl
      · simp [shrt]
      · simp only [shrt, List.length_append]
        simp at l1 ⊢
        omega
    have hz : (shrt ps j).length + (lay ps (j + 1)).length ≤ sizeLine := by rw [sizeLine_eq]; omega
    refine ⟨_, rfl, ?_⟩
    have e5 : lngr ps (lay ps j) = lay ps (j + 1) := rfl
    rw [e5] at q
    have e6 : (shrt ps j).map tupN ++ (lay ps (j + 1)).map tupN = (shrt ps (j + 1)).map tupN := by rw [shrt, List.map_append]
    simp [q, hz, e6]
  · obtain ⟨md, e4, rfl⟩ := hI
    rw [rngD_len]
    simp

def ext (m : Nat) (ls : List (List Nat)) : List (List Nat) := ls.flatMap fun ws => (List.range (m + 1)).map fun l => ws ++ [l]
def alay (m : Nat) : Nat → List (List Nat)
  | 0 => [[]]
  | k + 1 => ext m (alay m k)
def alls (m : Nat) : Nat → List (List Nat)
  | 0 => [[]]
  | k + 1 => alls m k ++ alay m (k + 1)
theorem mem_ext {m : Nat} {ls : List (List Nat)} {x : List Nat} (h : x ∈ ext m ls) : ∃ ws ∈ ls, ∃ l, l ≤ m ∧ x = ws ++ [l] := by
  simp only [ext, List.mem_flatMap, List.mem_map, List.mem_range] at h
  obtain ⟨ws, h1, l, h2, rfl⟩ := h
  exact ⟨ws, h1, l, by omega, rfl⟩
theorem alay_ok (m : Nat) : ∀ k, ∀ ws ∈ alay m k, (∀ w ∈ ws, w ≤ m) ∧ ws.length = k
  | 0, ws, h => by
    rw [List.mem_singleton.mp h]
    exact ⟨by simp, rfl⟩
  | k + 1, ws, h => by
    obtain ⟨us, h1, l, h2, rfl⟩ := mem_ext h
    obtain ⟨i1, i2⟩ := alay_ok m k us h1
    refine ⟨fun w hw => ?_, by simp [i2]⟩
    rcases List.mem_append.mp hw with h | h
    · exact i1 w h
    · rw [List.mem_singleton.mp h]; exact h2
theorem alls_ok (m : Nat) : ∀ k, ∀ ws ∈ alls m k, (∀ w ∈ ws, w ≤ m) ∧ ws.length ≤ k
  | 0, ws, h => by
    rw [List.mem_singleton.mp h]
    exact ⟨by simp, Nat.le_refl _⟩
  | k + 1, ws, h => by
    rcases List.mem_append.mp h with h | h
    · obtain ⟨i1, i2⟩ := alls_ok m k ws h
      exact ⟨i1, by omega⟩
    · obtain ⟨i1, i2⟩ := alay_ok m (k + 1) ws h
      exact ⟨i1, by omega⟩
theorem ext_len (m : Nat) : ∀ ls : List (List Nat), (ext m ls).length = (m + 1) * ls.length
  | [] => by simp [ext]
  | ws :: ls => by
    have ih := ext_len m ls
    have e2 : ext m (ws :: ls) = ((List.range (m + 1)).map fun l => ws ++ [l]) ++ ext m ls := by simp [ext]
    rw [e2, List.length_append, List.length_map, List.length_range, ih, List.length_cons, Nat.mul_add]
    omega
theorem alay_len {m : Nat} (hm : m ≤ 9) : ∀ k, (alay m k).length ≤ 10 ^ k
  | 0 => Nat.le_refl _
  | k + 1 => by
    have ih := alay_len hm k
    rw [alay, ext_len, Nat.pow_succ]
    calc (m + 1) * (alay m k).length ≤ 10 * 10 ^ k := Nat.mul_le_mul (by omega) ih
      _ = 10 ^ k * 10 := Nat.mul_comm _ _
/-- the places of one locale, key by key -/
def spotT (c : Cat) (l : Nat) : List (Option Nat) := (List.range c.w).map fun k => fpl c (up c.ps l) k
def tableD (c : Cat) : D := .lst ((List.range (c.ps.length + 1)).map fun l => optsL (spotT c l))
theorem head_filter {α : Type} (p : α → Bool) : ∀ l : List α, (l.filter p).head? = l.find? p
  | [] => rfl
  | x :: l => by
    rw [List.filter_cons, List.find?_cons]
    cases h : p x with
    | true => rw [if_pos rfl]; rfl
    | false => rw [if_neg (by simp), head_filter p l]
@[simp] theorem p_mulL (a : List D) (k : Int) : pMul [.lst a, .int k] = if -(2 ^ 63) ≤ k ∧ k < 2 ^ 63 ∧ a.length * k.toNat ≤ sizeLine then some (.nl (List.replicate k.toNat a).flatten) else none := id rfl
theorem rep_none {n : Nat} (h : n ≤ 64) : pMul [.lst [.non], .int (n : Nat)] = some (.nl (List.replicate n D.non)) := by
  have h3 : n ≤ sizeLine := by rw [sizeLine_eq]; omega
  simp [h3]
  omega
theorem plains_opts (r : List (Option Nat)) : plains (r.map optD) = true := by
  induction r with
  | nil => simp only [List.map_nil, plains]
  | cons o r ih => cases o <;> simp only [List.map_cons, plains, optD, DL.plain, ih, Bool.and_self]
theorem eqv_opts : ∀ a b : List (Option Nat), PyData.eqvAll (toPs (a.map optD)) (toPs (b.map optD)) = decide (a = b)
  | [], [] => by simp [toPs, PyData.eqvAll]
  | [], _ :: _ => by simp [toPs, PyData.eqvAll]
  | _ :: _, [] => by simp [toPs, PyData.eqvAll]
  | x :: xs, y :: ys => by
    have e : PyData.eqv (toP (optD x)) (toP (optD y)) = decide (x = y) := by
      cases x with
      | none => cases y <;> simp [optD, toP, PyData.eqv]
      | some n =>
        cases y with
        | none => simp [optD, toP, PyData.eqv]
        | some m =>
          simp only [optD, toP, PyData.eqv]
          by_cases h : n = m
          · subst h; simp
          · rw [decide_eq_false (by simpa using h)]
            simp
            omega
    simp only [List.map_cons, toPs, PyData.eqvAll, e, eqv_opts xs ys]
    by_cases h1 : x = y <;> by_cases h2 : xs = ys <;> simp [h1, h2]
theorem deq_optsL (a b : List (Option Nat)) : deq (optsL a) (optsL b) = decide (a = b) := by
  simp only [deq, optsL, toP, PyData.eqv]
  exact eqv_opts a b
theorem deq_rowD (a b : List (Option Nat)) : deq (rowD a) (rowD b) = decide (a = b) := by
  simp only [deq, rowD, toP, PyData.eqv]
  exact eqv_opts a b
theorem canLay_opts (r : List (Option Nat)) : PyData.canLayAll0 (toPs (r.map optD)) = true := by
  induction r with
  | nil => simp only [List.map_nil, toPs, PyData.canLayAll0]
  | cons o r ih => cases o <;> simp only [List.map_cons, toPs, toP, optD, PyData.canLayAll0, PyData.canLay0, ih, Bool.and_self]
theorem depth_opts (r : List (Option Nat)) : PyData.depthAll (toPs (r.map optD)) = 0 := by
  induction r with
  | nil => simp only [List.map_nil, toPs, PyData.depthAll]
  | cons o r ih => cases o <;> simp only [List.map_cons, toPs, toP, optD, PyData.depthAll, PyData.depth, ih, Nat.max_self]
theorem okD_optsL (r : List (Option Nat)) : okD (optsL r) = true := by
  simp only [okD, optsL, DL.plain, plains_opts, toP, SeqAt.shaped, PyData.canLay0, canLay_opts, PyData.depth, depth_opts, Bool.true_and]
  decide
theorem okD_rowD (r : List (Option Nat)) : okD (rowD r) = true := by
  simp only [okD, rowD, DL.plain, plains_opts, toP, SeqAt.shaped, PyData.canLay0, canLay_opts, PyData.depth, depth_opts, Bool.true_and]
  decide
theorem ne_optsL (a b : List (Option Nat)) : pNe [optsL a, optsL b] = some (.d (.bl (!decide (a = b)))) := by
  simp only [pNe, okD_optsL, Bool.and_self, if_true, deq_optsL]
theorem eq_rowD (a b : List (Option Nat)) : pEq [rowD a, rowD b] = some (.d (.bl (decide (a = b)))) := by
  simp only [pEq, okD_rowD, Bool.and_self, if_true, deq_rowD]
theorem ne_rowD (a b : List (Option Nat)) : pNe [rowD a, rowD b] = some (.d (.bl (!decide (a = b)))) := by
  simp only [pNe, okD_rowD, Bool.and_self, if_true, deq_rowD]
theorem optsL_none (n : Nat) : D.lst (List.replicate n D.non) = optsL (List.replicate n none) := by simp [optsL, optD]
theorem spotT_len (c : Cat) (l : Nat) : (spotT c l).length = c.w := by simp [spotT]
/-- nothing stands on the path: no place for any key -/
theorem spotT_held {c : Cat} (h : CatOk c) {l : Nat} (hl : l ≤ c.ps.length) : (!decide (spotT c l = List.replicate c.w none)) = held c l := by
  have key : spotT c l = List.replicate c.w none ↔ held c l = false := by
    rw [List.eq_replicate_iff]
    refine ⟨fun ⟨_, h2⟩ => ?_, fun hh => ⟨spotT_len c l, fun o ho => ?_⟩⟩
    · unfold held
      rw [List.any_eq_false]
      intro s hs hrow
      unfold rowHas at hrow
      rw [List.any_eq_true] at hrow
      obtain ⟨o, ho, hos⟩ := hrow
      obtain ⟨k, hk, e⟩ := List.mem_iff_getElem.mp ho
      have hsl := up_le h.tree hl s hs
      have hkw : k < c.w := by rw [row_len h hsl] at hk; exact hk
      have hc : cell c s k = o := by
        have := cell_get h hsl hkw
        rw [List.getElem?_eq_getElem hk, e] at this
        exact (Option.some.inj this).symm
      have := h2 (fpl c (up c.ps l) k) (List.mem_map.mpr ⟨k, List.mem_range.mpr hkw, rfl⟩)
      unfold fpl at this
      rw [List.find?_eq_none] at this
      exact this s hs (by rw [hc]; exact hos)
    · obtain ⟨k, hk, e⟩ := List.mem_map.mp ho
      rw [← e]
      unfold fpl
      rw [List.find?_eq_none]
      intro s hs hc
      have : rowHas (row c s) = false := by
        have := List.any_eq_false.mp hh s hs
        simpa using this
      unfold rowHas at this
      rw [List.any_eq_false] at this
      have hsl := up_le h.tree hl s hs
      exact this (cell c s k) (List.mem_of_getElem? (cell_get h hsl (List.mem_range.mp hk))) hc
  cases hh : held c l with
  | true =>
    rw [hh] at key
    have : ¬ spotT c l = List.replicate c.w none := fun e => by have := key.mp e; cases this
    rw [decide_eq_false this]; rfl
  | false =>
    rw [decide_eq_true (key.mpr hh)]; rfl
def aliveW (c : Cat) (ws : List Nat) : List Nat := if c.key = true then ws else (ws.filter (held c)).take 1
def plc (c : Cat) (ws : List Nat) : List (Option Nat) := (List.range c.w).map fun k => lwh c k ws
/-- the first place among the wishes that count -/
theorem lwh_head (c : Cat) (k : Nat) (ws : List Nat) : ((((aliveW c ws).filter fun w => (fpl c (up c.ps w) k).isSome).map fun w => fpl c (up c.ps w) k) ++ [rootp c k]).head? = some (lwh c k ws) := by
  cases hk : c.key with
  | true =>
    have e : aliveW c ws = ws := by simp [aliveW, hk]
    rw [e]
    induction ws with
    | nil => rfl
    | cons w ws ih =>
      rw [lwh, List.filter_cons]
      have e := by simpa [aliveW, hk] using e
      cases hf : fpl c (up c.ps w) k with
      | some s => simp [hf]
      | none =>
        rw [if_neg (by simp)]
        have : ¬ ((!c.key && held c w) = true) := by simp [hk]
        rw [if_neg this]
        exact ih (by simp [aliveW, hk])
  | false =>
    have e : aliveW c ws = (ws.filter (held c)).take 1 := by simp [aliveW, hk]
    rw [e]
    clear e
    induction ws with
    | nil => rfl
    | cons w ws ih =>
      rw [lwh, List.filter_cons]
      cases hh : held c w with
      | true =>
        rw [if_pos rfl]
        cases hf : fpl c (up c.ps w) k with
        | some s => simp [hf]
        | none => simp [hf, hk]
      | false =>
        rw [if_neg (by simp)]
        have idle : fpl c (up c.ps w) k = none := by
          unfold fpl
          rw [List.find?_eq_none]
          intro s hs hc
          have : rowHas (row c s) = false := by
            have := List.any_eq_false.mp hh s hs
            simpa using this
          unfold rowHas at this
          rw [List.any_eq_false] at this
          unfold cell at hc
          cases hg : (row c s)[k]? with
          | none => simp [List.getD, hg] at hc
          | some o =>
            simp [List.getD, hg] at hc
            exact this o (List.mem_of_getElem? hg) hc
        rw [idle]
        simp only [hk, Bool.not_false, Bool.and_false, Bool.false_eq_true, if_false]
        exact ih
theorem at_table {c : Cat} {l : Nat} (hl : l ≤ c.ps.length) : pIx [tableD c, .int (l : Nat)] = some (.d (optsL (spotT c l))) := by
  rw [tableD, p_ixL, DL.atI_nat, List.getElem?_map, List.getElem?_range (by omega)]
  rfl
theorem at_spot {c : Cat} {l k : Nat} (hk : k < c.w) : pIx [optsL (spotT c l), .int (k : Nat)] = some (.d (optD (fpl c (up c.ps l) k))) := by
  have e := at_opts (r := spotT c l) (k := k) (by rw [spotT_len]; exact hk)
  rw [optsL, p_ixL, e]
  have : (spotT c l).getD k none = fpl c (up c.ps l) k := by simp [spotT, hk]
  rw [this]
  rfl
/-- the mixing of a list, by its places -/
def mixW (c : Cat) (ks ws : List Nat) : Bool := mixT (tng c.ps (ks.map fun k => lwh c k ws))
theorem mixed_count (ts : List Nat) (q : Nat) : decide (0 < ((ts.filter fun t => !decide (t = q)).map fun n => D.int (n : Nat)).length) = ts.any fun t => !decide (t = q) := by
  rw [List.length_map]
  induction ts with
  | nil => rfl
  | cons t ts ih =>
    rw [List.filter_cons, List.any_cons]
    by_cases hd : t = q
    · simp only [hd, decide_true, Bool.not_true, Bool.false_or] at ih ⊢
      exact ih
    · simp [hd]
theorem at_plc {c : Cat} {ws : List Nat} {k : Nat} (hk : k < c.w) : pIx [optsL (plc c ws), .int (k : Nat)] = some (.d (optD (lwh c k ws))) := by
  have hl : (plc c ws).length = c.w := by simp [plc]
  have e := at_opts (r := plc c ws) (k := k) (by rw [hl]; exact hk)
  rw [optsL, p_ixL, e]
  have : (plc c ws).getD k none = lwh c k ws := by simp [plc, hk]
  rw [this]
  rfl
theorem lwh_le {c : Cat} (h : CatOk c) {ws : List Nat} (hw : ∀ w ∈ ws, w ≤ c.ps.length) {k l : Nat} (e : lwh c k ws = some l) : l ≤ c.ps.length := by
  rw [← lwh_eq] at e
  exact fpl_le (sght_le h hw) e
theorem dec_cast (a b : Nat) : decide ((a : Int) = (b : Int)) = decide (a = b) := by
  by_cases h : a = b
  · subst h; simp
  · rw [decide_eq_false h, decide_eq_false (by omega)]
/-- the first list that does it, or None -/
def lstO : Option (List Nat) → D
  | none => .non
  | some ws => tupN ws
theorem first_mixing_eq {c : Cat} (h : CatOk c) {ks : List Nat} (hp : PageOk c.w ks) : f_first_mixing [⟨.shr, catD c⟩, ⟨.shr, .tup (dNats ks)⟩] = .ok ⟨.shr, lstO ((shrt c.ps (if c.key = true then 2 else 1)).find? (mixW c ks))⟩ .non := by
  have hlen := h.tree.len
  generalize hn : (if c.key = true then 2 else 1) = n
  have hn2 : n ≤ 2 := by rw [← hn]; split <;> omega
  have q2 := short_lists_eq h.tree hn2
  have ok := shrt_ok c.ps n
  refine def_eq rfl ?_
  unfold m_first_mixing
  refine fin_seqM (fun e => e = [some ⟨.shr, catD c⟩, some ⟨.shr, .tup (dNats ks)⟩, some ⟨.shr, .int (n : Nat)⟩, none]) ?_ ?_
  · cases hk : c.key with
    | true => rw [hk] at hn; simp at hn; subst hn; simp [hk]
    | false => rw [hk] at hn; simp at hn; subst hn; simp [hk]
  rintro _ rfl
  simp [q2]
  refine fin_forL (α := List Nat) tupN (fun rest env => (∃ e, env = [some ⟨.shr, catD c⟩, some ⟨.shr, .tup (dNats ks)⟩, some ⟨.shr, .int (n : Nat)⟩, e]) ∧ rest.find? (mixW c ks) = (shrt c.ps n).find? (mixW c ks) ∧ ∀ ws ∈ rest, (∀ w ∈ ws, w ≤ c.ps.length) ∧ ws.length ≤ n) (shrt c.ps n) _ ⟨⟨_, rfl⟩, rfl, ok⟩ (fun ws rest env hI => ?_) fun env hI => ?_
  · obtain ⟨⟨e, rfl⟩, h2, h3⟩ := hI
    obtain ⟨k1, k2⟩ := h3 ws (List.mem_cons_self ..)
    have q3 := mixes_page_eq h k1 (by omega) hp
    rw [show ks.map (fpl c (sght c ws)) = ks.map fun k => lwh c k ws from List.map_congr_left fun k _ => lwh_eq c ws k] at q3
    have q3 : f_mixes_page [⟨.shr, catD c⟩, ⟨.shr, .tup (dNats ws)⟩, ⟨.shr, .tup (dNats ks)⟩] = .ok ⟨.shr, .bl (mixW c ks ws)⟩ .non := q3
    refine ⟨_, rfl, ?_⟩
    rw [List.find?_cons] at h2
    cases hm : mixW c ks ws with
    | true =>
      rw [hm] at q3 h2
      have h2 : some ws = (shrt c.ps n).find? (mixW c ks) := h2
      simp [tupN, q3, ← h2, lstO]
    | false =>
      rw [hm] at q3 h2
      have h2 : rest.find? (mixW c ks) = (shrt c.ps n).find? (mixW c ks) := h2
      have h4 : ∀ us ∈ rest, (∀ w ∈ us, w ≤ c.ps.length) ∧ us.length ≤ n := fun us hu => h3 us (List.mem_cons_of_mem _ hu)
      refine Fin.mono (P := fun fl e => fl = .nx ∧ e = [some ⟨.shr, catD c⟩, some ⟨.shr, .tup (dNats ks)⟩, some ⟨.shr, .int (n : Nat)⟩, some ⟨.shr, tupN ws⟩]) (by simp [tupN, q3]) ?_
      rintro _ _ ⟨rfl, rfl⟩
      exact .inl ⟨trivial, ⟨_, rfl⟩, h2, h4⟩
  · obtain ⟨⟨e, rfl⟩, h2, h3⟩ := hI
    have h2 : none = (shrt c.ps n).find? (mixW c ks) := h2
    simp [← h2, lstO]
theorem mixing_eq {c : Cat} (h : CatOk c) {ks : List Nat} (hp : PageOk c.w ks) : f_mixing [⟨.shr, catD c⟩, ⟨.shr, .tup (dNats ks)⟩] = .ok ⟨.shr, lstO ((shrt c.ps (if c.key = true then 2 else 1)).find? (mixW c ks))⟩ .non := by
  have q1 := check_catalog_eq h
  have q3 := check_page_eq h hp
  have q4 := first_mixing_eq h hp
  exact def_eq rfl (by simp [m_mixing, q1, q3, q4])

theorem find_filter {α β : Type} (P : β → Bool) (f : α → β) (q : α → Bool) : ∀ l : List α, (∀ x ∈ l, q x = false → P (f x) = false) → ((l.filter q).map f).find? P = (l.map f).find? P
  | [], _ => rfl
  | x :: l, h => by
    have ih := find_filter P f q l fun y hy => h y (List.mem_cons_of_mem _ hy)
    rw [List.filter_cons, List.map_cons, List.find?_cons]
    cases hq : q x with
    | true => rw [if_pos rfl, List.map_cons, List.find?_cons, ih]
    | false => rw [if_neg (by simp), ih, h x (List.mem_cons_self ..) hq]
theorem find_lngr {ps : List Nat} {P : List Nat → Bool} : ∀ ls : List (List Nat), (∀ ws ∈ ls, ∀ l, l ≤ ps.length → l ∈ rnd ps ws → P (ws ++ [l]) = false) → (lngr ps ls).find? P = (ext ps.length ls).find? P
  | [], _ => rfl
  | ws :: ls, h => by
    have ih := find_lngr ls fun us hu => h us (List.mem_cons_of_mem _ hu)
    have e1 : ext ps.length (ws :: ls) = ((List.range (ps.length + 1)).map fun l => ws ++ [l]) ++ ext ps.length ls := by simp [ext]
    have e2 : lngr ps (ws :: ls) = (((List.range (ps.length + 1)).filter fun l => !decide (l ∈ rnd ps ws)).map fun l => ws ++ [l]) ++ lngr ps ls := by simp [lngr]
    rw [e1, e2, List.find?_append, List.find?_append, ih, find_filter]
    intro l hl hq
    exact h ws (List.mem_cons_self ..) l (by have := List.mem_range.mp hl; omega) (by simpa using hq)
theorem lay_one (ps : List Nat) : lngr ps [[]] = ext ps.length [[]] := by
  simp [lngr, ext, rnd]
  rw [List.filter_eq_self.mpr fun _ _ => rfl]
theorem find_short {ps : List Nat} {P : List Nat → Bool} (hP : ∀ a b, a ≤ ps.length → b ≤ ps.length → b ∈ rnd ps [a] → P [a, b] = true → P [] = true ∨ P [a] = true ∨ P [b] = true) : (alls ps.length 2).find? P = (shrt ps 2).find? P := by
  have e1 : alls ps.length 2 = ([[]] ++ ext ps.length [[]]) ++ ext ps.length (ext ps.length [[]]) := rfl
  have e2 : shrt ps 2 = ([[]] ++ ext ps.length [[]]) ++ lngr ps (ext ps.length [[]]) := by
    have : shrt ps 2 = ([[]] ++ lngr ps [[]]) ++ lngr ps (lngr ps [[]]) := rfl
    rw [this, lay_one]
  generalize hA : [[]] ++ ext ps.length [[]] = A at e1 e2
  rw [e1, e2, List.find?_append, List.find?_append]
  cases hf : A.find? P with
  | some x => rfl
  | none =>
    rw [List.find?_eq_none, ← hA] at hf
    have one : ∀ a, a ≤ ps.length → [a] ∈ [[]] ++ ext ps.length [[]] := fun a ha => by
      simp [ext]; omega
    rw [find_lngr]
    intro ws hws l hl hm
    simp only [ext, List.flatMap_cons, List.flatMap_nil, List.append_nil, List.nil_append, List.mem_map, List.mem_range] at hws
    obtain ⟨a, ha, rfl⟩ := hws
    have ha : a ≤ ps.length := by omega
    cases hp : P ([a] ++ [l]) with
    | false => rfl
    | true =>
      rcases hP a l ha hl hm hp with h | h | h
      · exact absurd h (hf [] (by simp))
      · exact absurd h (hf [a] (one a ha))
      · exact absurd h (hf [l] (one l hl))
theorem find_one {ps : List Nat} {P : List Nat → Bool} (hP : ∀ a b, a ≤ ps.length → b ≤ ps.length → P [a, b] = true → P [] = true ∨ P [a] = true ∨ P [b] = true) : (alls ps.length 2).find? P = (shrt ps 1).find? P := by
  have e1 : alls ps.length 2 = ([[]] ++ ext ps.length [[]]) ++ ext ps.length (ext ps.length [[]]) := rfl
  have e2 : shrt ps 1 = [[]] ++ ext ps.length [[]] := by
    have : shrt ps 1 = [[]] ++ lngr ps [[]] := rfl
    rw [this, lay_one]
  generalize hA : [[]] ++ ext ps.length [[]] = A at e1 e2
  rw [e1, e2, List.find?_append]
  cases hf : A.find? P with
  | some x => rfl
  | none =>
    rw [List.find?_eq_none, ← hA] at hf
    have one : ∀ a, a ≤ ps.length → [a] ∈ [[]] ++ ext ps.length [[]] := fun a ha => by
      simp [ext]; omega
    show (ext ps.length (ext ps.length [[]])).find? P = none
    rw [List.find?_eq_none]
    intro x hx hp
    obtain ⟨ws, h1, b, hb, rfl⟩ := mem_ext hx
    obtain ⟨us, h2, a, ha, rfl⟩ := mem_ext h1
    rw [List.mem_singleton.mp h2] at hp
    rcases hP a b ha hb hp with h | h | h
    · exact absurd h (hf [] (by simp))
    · exact absurd h (hf [a] (one a ha))
    · exact absurd h (hf [b] (one b hb))
theorem lwh_two_key {c : Cat} (h : CatOk c) (hk : c.key = true) {a b : Nat} (hb : b ∈ rnd c.ps [a]) (k : Nat) : lwh c k [a, b] = lwh c k [a] := by
  obtain ⟨l, h1, h2⟩ := in_rnd.mp hb
  rw [List.mem_singleton.mp h1] at h2
  have n1 : ∀ w, ¬ ((!c.key && held c w) = true) := fun w => by simp [hk]
  simp only [lwh, n1, if_false]
  cases hf : fpl c (up c.ps a) k with
  | some s => rfl
  | none =>
    have : fpl c (up c.ps b) k = none := by
      unfold fpl at hf ⊢
      rw [List.find?_eq_none] at hf ⊢
      exact fun s hs => hf s (up_sub h.tree hs a h2)
    rw [this]
    all_goals rfl
theorem lwh_two_bundle {c : Cat} (hk : c.key = false) {a b : Nat} (k : Nat) : lwh c k [a, b] = if held c a = true then lwh c k [a] else lwh c k [b] := by
  cases hh : held c a with
  | true =>
    simp only [lwh, hk, hh]
    cases fpl c (up c.ps a) k <;> rfl
  | false =>
    have idle : fpl c (up c.ps a) k = none := by
      unfold fpl
      rw [List.find?_eq_none]
      intro s hs hc
      have : rowHas (row c s) = false := by
        have := List.any_eq_false.mp hh s hs
        simpa using this
      unfold rowHas at this
      rw [List.any_eq_false] at this
      unfold cell at hc
      cases hg : (row c s)[k]? with
      | none => simp [List.getD, hg] at hc
      | some o =>
        simp [List.getD, hg] at hc
        exact this o (List.mem_of_getElem? hg) hc
    simp only [lwh, hk, hh, idle]
    rfl
theorem mix_lists {c : Cat} (h : CatOk c) (ks : List Nat) : (alls c.ps.length 2).find? (mixW c ks) = (shrt c.ps (if c.key = true then 2 else 1)).find? (mixW c ks) := by
  cases hk : c.key with
  | true =>
    rw [if_pos rfl]
    refine find_short fun a b _ _ hb hm => .inr (.inl ?_)
    have e : mixW c ks [a, b] = mixW c ks [a] := by
      unfold mixW
      rw [show (ks.map fun k => lwh c k [a, b]) = ks.map fun k => lwh c k [a] from List.map_congr_left fun k _ => lwh_two_key h hk hb k]
    rw [← e]; exact hm
  | false =>
    rw [if_neg (by simp)]
    refine find_one fun a b _ _ hm => .inr ?_
    cases hh : held c a with
    | true =>
      left
      have e : mixW c ks [a, b] = mixW c ks [a] := by
        unfold mixW
        rw [show (ks.map fun k => lwh c k [a, b]) = ks.map fun k => lwh c k [a] from List.map_congr_left fun k _ => by rw [lwh_two_bundle hk, if_pos hh]]
      rw [← e]; exact hm
    | false =>
      right
      have e : mixW c ks [a, b] = mixW c ks [b] := by
        unfold mixW
        rw [show (ks.map fun k => lwh c k [a, b]) = ks.map fun k => lwh c k [b] from List.map_congr_left fun k _ => by rw [lwh_two_bundle hk, if_neg (by simp [hh])]]
      rw [← e]; exact hm
theorem sm_tupN {ws : List Nat} (h : ∀ w ∈ ws, w ≤ 9) : sm (tupN ws) = true := by
  simp only [tupN, sm, dNats]
  exact sms_map fun n hn => sm_nat (by have := h n hn; omega)
theorem dp_tupN (ws : List Nat) : dp (tupN ws) ≤ 1 := by
  simp only [tupN, dp, dNats]
  have := dps_map (f := fun n : Nat => D.int (n : Nat)) (k := 0) (xs := ws) fun n _ => by simp only [dp]; exact Nat.le_refl _
  omega
theorem wt_tupN (ws : List Nat) : wt (tupN ws) ≤ 3 + 16 * ws.length := by
  simp only [tupN, wt, dNats]
  have := wts_map (f := fun n : Nat => D.int (n : Nat)) (k := 14) (xs := ws) fun n _ => by simp only [wt]; exact Nat.le_refl _
  omega
theorem sm_lstO {o : Option (List Nat)} (h : ∀ ws, o = some ws → ∀ w ∈ ws, w ≤ 9) : sm (lstO o) = true := by
  cases o with
  | none => simp only [lstO, sm]
  | some ws => exact sm_tupN (h ws rfl)
theorem dp_lstO (o : Option (List Nat)) : dp (lstO o) ≤ 1 := by
  cases o with
  | none => simp only [lstO, dp]; omega
  | some ws => exact dp_tupN ws
theorem wt_lstO {o : Option (List Nat)} (h : ∀ ws, o = some ws → ws.length ≤ 100) : wt (lstO o) ≤ 1700 := by
  cases o with
  | none => simp only [lstO, wt]; omega
  | some ws =>
    have h1 := h ws rfl
    have h2 := wt_tupN ws
    have : wt (lstO (some ws)) ≤ 3 + 16 * ws.length := h2
    omega

/-! pages: what must be added -/
def pairD (p : Nat × Nat) : D := .tup [.int (p.1 : Nat), .int (p.2 : Nat)]
def anyR (c : Cat) (ks : List Nat) (l : Nat) : Bool := ks.any fun k => (cell c l k).isSome
theorem has_any_eq {c : Cat} (h : CatOk c) {ks : List Nat} (hp : ∀ k ∈ ks, k < c.w) (hk : ks.length ≤ 4) {l : Nat} (hl : l ≤ c.ps.length) : f_has_any [⟨.shr, rowD (row c l)⟩, ⟨.shr, .tup (dNats ks)⟩] = .ok ⟨.shr, .bl (anyR c ks l)⟩ .non := by
  refine def_eq rfl ?_
  simp [m_has_any]
  refine fin_compN (α := Nat) [some ⟨.shr, rowD (row c l)⟩, some ⟨.shr, .tup (dNats ks)⟩, none] (fun n => D.int (n : Nat)) (fun k => .bl (cell c l k).isSome) ks (by simp; rfl) (by rw [sizeLine_eq]; omega) (fun y hy => ?_) ?_
  · have q := ix_row h hl (hp y hy)
    refine ⟨_, rfl, ?_⟩
    cases hc : cell c l y with
    | none => rw [hc] at q; simp [q]
    | some t => rw [hc] at q; simp [q, optD]
  · have q := pAny_map ks fun k => (cell c l k).isSome
    simp [q, anyR]
/-- the keys that must be had -/
def usK (c : Cat) (ks : List Nat) : List Nat := if c.key = true then ks.filter fun k => (List.range (c.ps.length + 1)).any fun l => (cell c l k).isSome else ks.filter fun k => (cell c 0 k).isSome
theorem rows_range {c : Cat} (h : CatOk c) : c.rows = (List.range (c.ps.length + 1)).map (row c) := by
  apply List.ext_getElem?
  intro i
  rw [List.getElem?_map]
  by_cases hi : i < c.ps.length + 1
  · rw [List.getElem?_range hi, row_get h (by omega)]; rfl
  · rw [List.getElem?_eq_none (by rw [h.len]; omega), List.getElem?_eq_none (by rw [List.length_range]; omega)]; rfl
theorem seq_rowsR {c : Cat} (h : CatOk c) : c.rows.map rowD = (List.range (c.ps.length + 1)).map fun l => rowD (row c l) := by
  conv => lhs; rw [rows_range h]
  simp
theorem keys_to_have_eq {c : Cat} (h : CatOk c) {ks : List Nat} (hp : ∀ k ∈ ks, k < c.w) (hk : ks.length ≤ 4) : f_keys_to_have [⟨.shr, catD c⟩, ⟨.shr, .tup (dNats ks)⟩] = .ok ⟨.own, .lst (dNats (usK c ks))⟩ .non := by
  have hlen := h.tree.len
  have z0 : pIx [rowsD c, .int 0] = some (.d (rowD (row c 0))) := ix_rows h (Nat.zero_le _)
  have sr := seq_rowsR h
  refine def_eq rfl ?_
  cases hkey : c.key with
  | false =>
    simp [m_keys_to_have, hkey]
    refine fin_compM (α := Nat) [some ⟨.shr, catD c⟩, some ⟨.shr, .tup (dNats ks)⟩, some ⟨.shr, rowsD c⟩, none, none] (fun n => D.int (n : Nat)) (fun k => (cell c 0 k).isSome) (fun n => D.int (n : Nat)) ks (by simp; rfl) (by rw [sizeLine_eq]; omega) (fun y hy => ?_) ?_
    · have q := ix_row h (Nat.zero_le _) (hp y hy)
      refine ⟨_, rfl, ?_⟩
      cases hc : cell c 0 y with
      | none => rw [hc] at q; simp [z0, q]
      | some t => rw [hc] at q; simp [z0, q, optD]
    · simp [usK, hkey, dNats]
  | true =>
    simp [m_keys_to_have, hkey]
    refine fin_compM (α := Nat) [some ⟨.shr, catD c⟩, some ⟨.shr, .tup (dNats ks)⟩, some ⟨.shr, rowsD c⟩, none, none] (fun n => D.int (n : Nat)) (fun k => (List.range (c.ps.length + 1)).any fun l => (cell c l k).isSome) (fun n => D.int (n : Nat)) ks (by simp; rfl) (by rw [sizeLine_eq]; omega) (fun y hy => ?_) ?_
    · refine ⟨_, rfl, ?_⟩
      have qa := pAny_map (List.range (c.ps.length + 1)) fun l => (cell c l y).isSome
      simp
      refine fin_compN (α := Nat) [some ⟨.shr, catD c⟩, some ⟨.shr, .tup (dNats ks)⟩, some ⟨.shr, rowsD c⟩, some ⟨.shr, .int (y : Nat)⟩, none] (fun l => rowD (row c l)) (fun l => .bl (cell c l y).isSome) (List.range (c.ps.length + 1)) (by simp [sr]) (by rw [List.length_range, sizeLine_eq]; omega) (fun l hl => ?_) ?_
      · have hl' : l ≤ c.ps.length := by have := List.mem_range.mp hl; omega
        have q := ix_row h hl' (hp y hy)
        refine ⟨_, rfl, ?_⟩
        cases hc : cell c l y with
        | none => rw [hc] at q; simp [q]
        | some t => rw [hc] at q; simp [q, optD]
      · generalize ((List.range (c.ps.length + 1)).any fun l => (cell c l y).isSome) = b at qa ⊢
        cases b <;> simp [qa]
    · simp [usK, hkey, dNats]
def oneT (c : Cat) (ks : List Nat) : Bool := (((List.range (c.ps.length + 1)).filter (anyR c ks)).map (lastUp c.ps)).all fun t => decide (t = (((List.range (c.ps.length + 1)).filter (anyR c ks)).map (lastUp c.ps)).headD 0)
theorem pAll_map {α : Type} (xs : List α) (f : α → Bool) : pAll [.lst (xs.map fun x => D.bl (f x))] = some (.d (.bl (xs.all f))) := by
  have := blsOf_map xs f
  simp [pAll, this]
theorem enum_rowsR {c : Cat} (h : CatOk c) : enumA [rowsD c] = some ((List.range (c.ps.length + 1)).map fun l => D.pr (.int (l : Nat)) (rowD (row c l))) := by
  have e : enumA [rowsD c] = some (enumD 0 (c.rows.map rowD)) := rfl
  rw [e, seq_rowsR h, DL.enumD_map]
  apply congrArg some
  apply List.ext_getElem?
  intro i
  rw [List.getElem?_map, List.getElem?_zipIdx, List.getElem?_map, List.getElem?_map]
  by_cases hi : i < c.ps.length + 1
  · rw [List.getElem?_range hi]; simp
  · rw [List.getElem?_eq_none (by rw [List.length_range]; omega)]; rfl
theorem one_tongue_eq {c : Cat} (h : CatOk c) {ks : List Nat} (hp : ∀ k ∈ ks, k < c.w) (hk : ks.length ≤ 4) : f_is_in_one_tongue [⟨.shr, catD c⟩, ⟨.shr, .tup (dNats ks)⟩] = .ok ⟨.shr, .bl (oneT c ks)⟩ .non := by
  have hlen := h.tree.len
  have er := enum_rowsR h
  refine def_eq rfl ?_
  simp [m_is_in_one_tongue]
  refine fin_compM (α := Nat) [some ⟨.shr, catD c⟩, some ⟨.shr, .tup (dNats ks)⟩, some ⟨.shr, treeD c.ps⟩, some ⟨.shr, wayD c.key⟩, some ⟨.shr, rowsD c⟩, none, none, none, none] (fun l => D.pr (.int (l : Nat)) (rowD (row c l))) (anyR c ks) (fun l => .int (lastUp c.ps l : Nat)) (List.range (c.ps.length + 1)) (by simp [er]) (by rw [List.length_range, sizeLine_eq]; omega) (fun y hy => ?_) ?_
  · have hy : y ≤ c.ps.length := by have := List.mem_range.mp hy; omega
    have q1 := has_any_eq h hp hk hy
    have q2 := tongue_of_eq h.tree hy
    refine ⟨_, rfl, ?_⟩
    generalize anyR c ks y = b at q1 ⊢
    cases b <;> simp [q1, q2]
  · have e : (((List.range (c.ps.length + 1)).filter (anyR c ks)).map fun l => D.int (lastUp c.ps l : Nat)) = dNats (((List.range (c.ps.length + 1)).filter (anyR c ks)).map (lastUp c.ps)) := by simp [dNats]
    rw [e]
    have hl2 : (((List.range (c.ps.length + 1)).filter (anyR c ks)).map (lastUp c.ps)).length ≤ 10 := by
      rw [List.length_map]
      refine Nat.le_trans (List.length_filter_le ..) ?_
      rw [List.length_range]; omega
    have ho : oneT c ks = ((((List.range (c.ps.length + 1)).filter (anyR c ks)).map (lastUp c.ps)).all fun t => decide (t = (((List.range (c.ps.length + 1)).filter (anyR c ks)).map (lastUp c.ps)).headD 0)) := rfl
    generalize ((List.range (c.ps.length + 1)).filter (anyR c ks)).map (lastUp c.ps) = ts at ho hl2
    have hd0 : ∀ y ∈ ts, (dNats ts)[0]? = some (.int (ts.headD 0 : Nat)) := fun y hy => by
      cases ts with
      | nil => cases hy
      | cons x xs => rfl
    generalize ts.headD 0 = t0 at ho hd0
    have qa := pAll_map ts fun t => decide (t = t0)
    rw [← ho] at qa
    simp
    refine fin_compN (α := Nat) [some ⟨.shr, catD c⟩, some ⟨.shr, .tup (dNats ks)⟩, some ⟨.shr, treeD c.ps⟩, some ⟨.shr, wayD c.key⟩, some ⟨.shr, rowsD c⟩, some ⟨.shr, .lst (dNats ts)⟩, none, none, none] (fun n => D.int (n : Nat)) (fun t => .bl (decide (t = t0))) ts (by simp; rfl) (by rw [sizeLine_eq]; omega) (fun y hy => ?_) ?_
    · have q := hd0 y hy
      exact ⟨_, rfl, by simp [q, dec_cast]⟩
    · simp [qa]
def lckK (c : Cat) (us : List Nat) (l : Nat) : List (Nat × Nat) := (us.filter fun k => (cell c l k).isNone).map fun k => (l, k)
theorem lck_len {c : Cat} {us : List Nat} (hk : us.length ≤ 4) (l : Nat) : (lckK c us l).length ≤ 4 := by
  rw [lckK, List.length_map]
  exact Nat.le_trans (List.length_filter_le ..) hk
theorem lacked_by_eq {c : Cat} (h : CatOk c) {us : List Nat} (hp : ∀ k ∈ us, k < c.w) (hk : us.length ≤ 4) {l : Nat} (hl : l ≤ c.ps.length) : f_lacked_by [⟨.shr, rowsD c⟩, ⟨.shr, .int (l : Nat)⟩, ⟨.shr, .lst (dNats us)⟩] = .ok ⟨.own, .lst ((lckK c us l).map pairD)⟩ .non := by
  have hz2 : 2 ≤ sizeLine := by rw [sizeLine_eq]; omega
  have z := ix_rows h hl
  refine def_eq rfl ?_
  simp [m_lacked_by]
  refine fin_compM (α := Nat) [some ⟨.shr, rowsD c⟩, some ⟨.shr, .int (l : Nat)⟩, some ⟨.shr, .lst (dNats us)⟩, none] (fun n => D.int (n : Nat)) (fun k => (cell c l k).isNone) (fun k => pairD (l, k)) us (by simp; rfl) (by rw [sizeLine_eq]; omega) (fun y hy => ?_) ?_
  · have q := ix_row h hl (hp y hy)
    refine ⟨_, rfl, ?_⟩
    cases hc : cell c l y with
    | none => rw [hc] at q; simp [z, q, hz2, pairD, optD]
    | some t => rw [hc] at q; simp [z, q, optD]
  · simp [lckK]
/-- downwards: k stands for the locale k + 1 -/
def lc (k : Nat) : Nat := k + 1
def dsc : Nat → List Nat
  | 0 => []
  | n + 1 => n :: dsc n
theorem dsc_lt : ∀ n : Nat, ∀ k ∈ dsc n, k < n
  | 0, k, h => by cases h
  | n + 1, k, h => by
    rcases List.mem_cons.mp h with h | h
    · omega
    · have := dsc_lt n k h; omega
theorem dsc_len : ∀ n : Nat, (dsc n).length = n
  | 0 => rfl
  | n + 1 => congrArg Nat.succ (dsc_len n)
theorem rngC_dsc : ∀ n : Nat, rngC (n : Nat) (-1) n = (dsc n).map fun k => D.int (lc k : Nat)
  | 0 => rfl
  | n + 1 => by
    have e : (((n + 1 : Nat) : Int) + -1) = (n : Nat) := by omega
    rw [rngC, e, rngC_dsc n]
    rfl
theorem rng3_dsc {n : Nat} (hn : n ≤ 9) : rng3 [.int (n : Nat), .int 0, .int (-1)] = some ((dsc n).map fun k => D.int (lc k : Nat)) := by
  have s1 : small62 ((n : Nat) : Int) = true := sm62 (by omega) (by omega)
  have s0 : small62 0 = true := by decide
  have e : (((n : Nat) : Int) - 0).toNat = n := by omega
  simp only [rng3, s1, s0, if_true, e, rngC_dsc]
def esD (es : List (Nat × Nat)) : D := .lst (es.map pairD)
def addK (c : Cat) (ks us : List Nat) (B : List (List (Nat × Nat))) (l : Nat) : List (Nat × Nat) := if (!anyR c ks l && decide ((B.getD l []).length < (lckK c us l).length)) = true then B.getD l [] else lckK c us l
def bst (c : Cat) (ks us : List Nat) (B : List (List (Nat × Nat))) (k : Nat) : List (List (Nat × Nat)) := B.set (pOf c.ps k) (B.getD (pOf c.ps k) [] ++ addK c ks us B (lc k))
def belF (c : Cat) (ks us : List Nat) : List (List (Nat × Nat)) := (dsc c.ps.length).foldl (bst c ks us) (List.replicate (c.ps.length + 1) [])
theorem addK_len {c : Cat} {ks us : List Nat} (hk : us.length ≤ 4) (B : List (List (Nat × Nat))) (l : Nat) : (addK c ks us B l).length ≤ 4 := by
  have := lck_len (c := c) hk l
  unfold addK
  split
  · rename_i h
    rw [Bool.and_eq_true, decide_eq_true_eq] at h
    omega
  · exact this
theorem getD_mem_or {α : Type} (B : List (List α)) (i : Nat) : B.getD i [] ∈ B ∨ B.getD i [] = [] := by
  by_cases h : i < B.length
  · left; rw [List.getD, List.getElem?_eq_getElem h]; exact List.getElem_mem h
  · right; rw [List.getD, List.getElem?_eq_none (by omega)]; rfl
theorem at_es {B : List (List (Nat × Nat))} {i : Nat} (h : i < B.length) : atI (B.map esD) (i : Nat) = some (esD (B.getD i [])) := by
  rw [DL.atI_nat, List.getElem?_map, List.getD, List.getElem?_eq_getElem h]
  rfl
theorem added_below_eq {c : Cat} (h : CatOk c) {ks us : List Nat} (hp : ∀ k ∈ ks, k < c.w) (hk : ks.length ≤ 4) (hpu : ∀ k ∈ us, k < c.w) (hku : us.length ≤ 4) : f_added_below [⟨.shr, catD c⟩, ⟨.shr, .tup (dNats ks)⟩, ⟨.shr, .lst (dNats us)⟩] = .ok ⟨.shr, esD ((belF c ks us).getD 0 [])⟩ .non := by
  have hlen := h.tree.len
  have hz : 0 ≤ sizeLine := Nat.zero_le _
  have r3 := rng3_dsc (n := c.ps.length) hlen
  refine def_eq rfl ?_
  unfold m_added_below
  refine fin_seqM (fun e => e = [some ⟨.shr, catD c⟩, some ⟨.shr, .tup (dNats ks)⟩, some ⟨.shr, .lst (dNats us)⟩, some ⟨.shr, treeD c.ps⟩, some ⟨.shr, wayD c.key⟩, some ⟨.shr, rowsD c⟩, none, none, none]) (by simp) ?_
  rintro _ rfl
  refine fin_seqM (fun e => ∃ e4, e = [some ⟨.shr, catD c⟩, some ⟨.shr, .tup (dNats ks)⟩, some ⟨.shr, .lst (dNats us)⟩, some ⟨.shr, treeD c.ps⟩, e4, some ⟨.shr, rowsD c⟩, some ⟨.own, .lst ((List.replicate (c.ps.length + 1) ([] : List (Nat × Nat))).map esD)⟩, none, none]) ?_ ?_
  · simp
    refine fin_compN (α := D) [some ⟨.shr, catD c⟩, some ⟨.shr, .tup (dNats ks)⟩, some ⟨.shr, .lst (dNats us)⟩, some ⟨.shr, treeD c.ps⟩, some ⟨.shr, wayD c.key⟩, some ⟨.shr, rowsD c⟩, none, none, none] (fun d => d) (fun _ => .lst []) (.non :: dNats c.ps) (by simp [treeD]) (by rw [sizeLine_eq, List.length_cons, dNats_len]; omega) (fun y hy => ?_) ?_
    · exact ⟨_, rfl, by simp⟩
    · have e : ((D.non :: dNats c.ps).map fun _ => D.lst []) = List.replicate (c.ps.length + 1) (D.lst []) := by
        rw [List.map_const', List.length_cons, dNats_len]
      rw [e]
      simp [esD]
  rintro _ ⟨e4, rfl⟩
  refine fin_seqM (fun e => ∃ e7 e8, e = [some ⟨.shr, catD c⟩, some ⟨.shr, .tup (dNats ks)⟩, some ⟨.shr, .lst (dNats us)⟩, some ⟨.shr, treeD c.ps⟩, e4, some ⟨.shr, rowsD c⟩, some ⟨.own, .lst ((belF c ks us).map esD)⟩, e7, e8]) ?_ ?_
  · simp [r3]
    refine fin_forL (α := Nat) (fun k => D.int (lc k : Nat)) (fun rest env => ∃ B e7 e8, env = [some ⟨.shr, catD c⟩, some ⟨.shr, .tup (dNats ks)⟩, some ⟨.shr, .lst (dNats us)⟩, some ⟨.shr, treeD c.ps⟩, e4, some ⟨.shr, rowsD c⟩, some ⟨.own, .lst (B.map esD)⟩, e7, e8] ∧ B.length = c.ps.length + 1 ∧ rest.foldl (bst c ks us) B = belF c ks us ∧ (∀ b ∈ B, b.length + 4 * rest.length ≤ 36) ∧ 4 * rest.length ≤ 36 ∧ ∀ k ∈ rest, k < c.ps.length) (dsc c.ps.length) _ ⟨List.replicate (c.ps.length + 1) [], none, none, by simp, by simp, rfl, fun b hb => by
      rw [(List.mem_replicate.mp hb).2, dsc_len]; show 0 + _ ≤ _; omega, by rw [dsc_len]; omega, dsc_lt _⟩ (fun k rest env hI => ?_) fun env hI => ?_
    · obtain ⟨B, e7, e8, rfl, hB, h2, h3, h4, h5⟩ := hI
      rw [List.length_cons] at h3 h4
      have hkl := h5 k (List.mem_cons_self ..)
      have h5' : ∀ k ∈ rest, k < c.ps.length := fun q hq => h5 q (List.mem_cons_of_mem _ hq)
      have hpk := h.tree.getD k
      have hlc : lc k = k + 1 := rfl
      have hlk2 : lc k ≤ c.ps.length := by omega
      have q1 := lacked_by_eq h hpu hku (l := lc k) hlk2
      have q2 := ix_rows h (l := lc k) hlk2
      have q3 := has_any_eq h hp hk (l := lc k) hlk2
      have q4 : pIx [treeD c.ps, .int (lc k : Nat)] = some (.d (.int (pOf c.ps k : Nat))) := by
        have : c.ps[k]? = some (pOf c.ps k) := by simp [pOf, List.getD, hkl]
        have t := tree_at k _ this
        rw [treeD, p_ixT]
        rw [show ((lc k : Nat) : Int) = (k : Int) + 1 from by omega, t]
        rfl
      have q5 := at_es (B := B) (i := lc k) (by omega)
      have q6 := at_es (B := B) (i := pOf c.ps k) (by omega)
      have hP : ∀ i, (B.getD i []).length + 4 * (rest.length + 1) ≤ 36 := fun i => by
        rcases getD_mem_or B i with h | h
        · exact h3 _ h
        · rw [h]; show 0 + _ ≤ _; omega
      have hP1 := hP (pOf c.ps k)
      have al := addK_len (c := c) (ks := ks) hku B (lc k)
      have hstep : bst c ks us B k = B.set (pOf c.ps k) (B.getD (pOf c.ps k) [] ++ addK c ks us B (lc k)) := rfl
      have hset : (B.map esD).set (pOf c.ps k) (esD (B.getD (pOf c.ps k) [] ++ addK c ks us B (lc k))) = (bst c ks us B k).map esD := by rw [hstep, List.map_set]
      have hix : ixN (B.map esD).length (pOf c.ps k : Nat) = some (pOf c.ps k) := by rw [List.length_map]; exact ixN_nat (by omega)
      have m3 : ∀ b ∈ bst c ks us B k, b.length + 4 * rest.length ≤ 36 := fun b hb => by
        rw [hstep] at hb
        rcases List.mem_or_eq_of_mem_set hb with h | h
        · have := h3 b h; omega
        · rw [h, List.length_append]; omega
      have m1 : (bst c ks us B k).length = c.ps.length + 1 := by rw [hstep, List.length_set]; exact hB
      have m2 : rest.foldl (bst c ks us) (bst c ks us B k) = belF c ks us := h2
      have hadd : addK c ks us B (lc k) = if (!anyR c ks (lc k) && decide ((B.getD (lc k) []).length < (lckK c us (lc k)).length)) = true then B.getD (lc k) [] else lckK c us (lc k) := rfl
      have hsz : ((B.getD (pOf c.ps k) []).map pairD).length + ((addK c ks us B (lc k)).map pairD).length ≤ sizeLine := by rw [sizeLine_eq, List.length_map, List.length_map]; omega
      have hpadd : pAdd [esD (B.getD (pOf c.ps k) []), esD (addK c ks us B (lc k))] = some (.nl ((B.getD (pOf c.ps k) [] ++ addK c ks us B (lc k)).map pairD)) := by
        simp only [esD, p_addL, hsz, if_true, List.map_append]
      have hlt : pLen [esD (B.getD (lc k) [])] = some (.d (.int ((B.getD (lc k) []).length : Nat))) := by simp [esD]
      refine ⟨_, rfl, ?_⟩
      refine Fin.mono (P := fun fl e => fl = Fl.nx ∧ ∃ e7 e8, e = [some ⟨.shr, catD c⟩, some ⟨.shr, .tup (dNats ks)⟩, some ⟨.shr, .lst (dNats us)⟩, some ⟨.shr, treeD c.ps⟩, e4, some ⟨.shr, rowsD c⟩, some ⟨.own, .lst ((bst c ks us B k).map esD)⟩, e7, e8]) ?_ ?_
      · rw [← hset]
        have hnl : esD (B.getD (pOf c.ps k) [] ++ addK c ks us B (lc k)) = .lst ((B.getD (pOf c.ps k) [] ++ addK c ks us B (lc k)).map pairD) := rfl
        rw [hnl]
        generalize addK c ks us B (lc k) = A at *
        generalize ((B.getD (pOf c.ps k) [] ++ A).map pairD) = S at *
        generalize hLK : lckK c us (lc k) = LK at *
        generalize hBk : B.getD (lc k) [] = BK at *
        generalize B.getD (pOf c.ps k) [] = BP at *
        generalize B.map esD = BD at *
        generalize anyR c ks (lc k) = ab at *
        have hlk : pLen [D.lst (LK.map pairD)] = some (.d (.int (LK.length : Nat))) := by simp
        have eLK : D.lst (LK.map pairD) = esD LK := rfl
        rw [eLK] at q1 hlk
        cases ab with
        | true =>
          have hadd : A = LK := by simpa using hadd
          subst hadd
          simp [q1, q2, q3, q4, q5, q6, hlt, hlk, hpadd, hix]
        | false =>
          by_cases hc : BK.length < LK.length
          · have hadd : A = BK := by simpa [hc] using hadd
            subst hadd
            simp [q1, q2, q3, q4, q5, q6, hlt, hlk, hpadd, hix, hc]
          · have hadd : A = LK := by simpa [hc] using hadd
            subst hadd
            simp [q1, q2, q3, q4, q5, q6, hlt, hlk, hpadd, hix, hc]
      · rintro _ _ ⟨rfl, e7, e8, rfl⟩
        exact .inl ⟨trivial, _, _, _, rfl, m1, m2, m3, by omega, h5'⟩
    · obtain ⟨B, e7, e8, rfl, hB, h2, h3, h4, h5⟩ := hI
      have h2 : B = belF c ks us := h2
      rw [h2]
      exact ⟨rfl, _, _, rfl⟩
  rintro _ ⟨e7, e8, rfl⟩
  have hBl : ∀ (L : List Nat) (B : List (List (Nat × Nat))), (L.foldl (bst c ks us) B).length = B.length := fun L => by
    induction L with
    | nil => intro B; rfl
    | cons x L ih => intro B; rw [List.foldl_cons, ih, bst, List.length_set]
  have hl0 : 0 < (belF c ks us).length := by rw [belF, hBl, List.length_replicate]; omega
  have q0 : atI ((belF c ks us).map esD) 0 = some (esD ((belF c ks us).getD 0 [])) := at_es (i := 0) hl0
  simp [q0]

def addE (c : Cat) (ks : List Nat) : List (Nat × Nat) := if c.key = true then (if oneT c ks = true then [] else (if anyR c ks 0 = true then (belF c ks (usK c ks)).getD 0 [] ++ lckK c (usK c ks) 0 else (belF c ks (usK c ks)).getD 0 [])) else (belF c ks (usK c ks)).getD 0 []
theorem usK_sub (c : Cat) (ks : List Nat) : ∀ k ∈ usK c ks, k ∈ ks := fun k hk => by
  unfold usK at hk
  split at hk
  · exact (List.mem_filter.mp hk).1
  · exact (List.mem_filter.mp hk).1
theorem usK_len (c : Cat) (ks : List Nat) : (usK c ks).length ≤ ks.length := by
  unfold usK
  split
  · exact List.length_filter_le ..
  · exact List.length_filter_le ..
theorem bel_len {c : Cat} {ks us : List Nat} (hku : us.length ≤ 4) : ((belF c ks us).getD 0 []).length ≤ 4 * c.ps.length := by
  have key : ∀ (L : List Nat) (B : List (List (Nat × Nat))) (m : Nat), (∀ b ∈ B, b.length ≤ m) → ∀ b ∈ L.foldl (bst c ks us) B, b.length ≤ m + 4 * L.length := fun L => by
    induction L with
    | nil => intro B m hB b hb; have := hB b hb; simp only [List.length_nil]; omega
    | cons x L ih =>
      intro B m hB b hb
      rw [List.foldl_cons] at hb
      have := ih (bst c ks us B x) (m + 4) (fun q hq => by
        rcases List.mem_or_eq_of_mem_set hq with h | h
        · have := hB q h; omega
        · have al := addK_len (c := c) (ks := ks) hku B (lc x)
          rcases getD_mem_or B (pOf c.ps x) with g | g
          · have := hB _ g
            rw [h, List.length_append]; omega
          · rw [h, List.length_append, g]; show 0 + _ ≤ _; omega) b hb
      rw [List.length_cons]; omega
  rcases getD_mem_or (belF c ks us) 0 with h | h
  · have := key (dsc c.ps.length) (List.replicate (c.ps.length + 1) []) 0 (fun b hb => by rw [(List.mem_replicate.mp hb).2]; exact Nat.le_refl _) _ h
    rw [dsc_len] at this
    omega
  · rw [h]; exact Nat.zero_le _
theorem added_entries_eq {c : Cat} (h : CatOk c) {ks : List Nat} (hp : ∀ k ∈ ks, k < c.w) (hk : ks.length ≤ 4) : ∃ md, f_added_entries [⟨.shr, catD c⟩, ⟨.shr, .tup (dNats ks)⟩] = .ok ⟨md, esD (addE c ks)⟩ .non := by
  have hlen := h.tree.len
  have hpu : ∀ k ∈ usK c ks, k < c.w := fun k hk => hp k (usK_sub c ks k hk)
  have hku : (usK c ks).length ≤ 4 := Nat.le_trans (usK_len c ks) hk
  have q1 := keys_to_have_eq h hp hk
  have q2 := added_below_eq h hp hk hpu hku
  have q3 := one_tongue_eq h hp hk
  have q4 := has_any_eq h hp hk (Nat.zero_le _)
  have q5 := lacked_by_eq h hpu hku (Nat.zero_le _)
  have q5 : f_lacked_by [⟨.shr, rowsD c⟩, ⟨.shr, .int 0⟩, ⟨.shr, .lst (dNats (usK c ks))⟩] = .ok ⟨.own, esD (lckK c (usK c ks) 0)⟩ .non := q5
  have z0 : pIx [rowsD c, .int 0] = some (.d (rowD (row c 0))) := ix_rows h (Nat.zero_le _)
  have bl := bel_len (c := c) (ks := ks) hku
  have ll := lck_len (c := c) hku 0
  have hA : addE c ks = if c.key = true then (if oneT c ks = true then [] else (if anyR c ks 0 = true then (belF c ks (usK c ks)).getD 0 [] ++ lckK c (usK c ks) 0 else (belF c ks (usK c ks)).getD 0 [])) else (belF c ks (usK c ks)).getD 0 [] := rfl
  generalize (belF c ks (usK c ks)).getD 0 [] = BE at *
  generalize lckK c (usK c ks) 0 = LK at *
  generalize oneT c ks = ot at *
  generalize anyR c ks 0 = ar at *
  have hadd : pAdd [esD BE, esD LK] = some (.nl ((BE ++ LK).map pairD)) := by
    have : (BE.map pairD).length + (LK.map pairD).length ≤ sizeLine := by rw [sizeLine_eq, List.length_map, List.length_map]; omega
    simp only [esD, p_addL, this, if_true, List.map_append]
  suffices z : FinF (f_added_entries [⟨.shr, catD c⟩, ⟨.shr, .tup (dNats ks)⟩]) fun x o => x.d = esD (addE c ks) ∧ o = .non by
    obtain ⟨⟨md, d⟩, o, e, h1, rfl⟩ := finF_iff.mp z
    simp only at h1
    subst h1
    exact ⟨md, e⟩
  refine finF_def rfl ?_
  rw [hA]
  cases hkey : c.key with
  | false => simp [m_added_entries, hkey, q1, q2]
  | true =>
    cases ot with
    | true => simp [m_added_entries, hkey, q1, q2, q3, esD]
    | false =>
      cases ar with
      | false => simp [m_added_entries, hkey, q1, q2, q3, q4, z0]
      | true =>
        have hbl : BE.length + LK.length ≤ sizeLine := by rw [sizeLine_eq]; omega
        simp [m_added_entries, hkey, q1, q2, q3, q4, q5, z0, hbl, esD]
theorem addE_len {c : Cat} (h : CatOk c) {ks : List Nat} (hk : ks.length ≤ 4) : (addE c ks).length ≤ 40 := by
  have hlen := h.tree.len
  have hku : (usK c ks).length ≤ 4 := Nat.le_trans (usK_len c ks) hk
  have bl := bel_len (c := c) (ks := ks) hku
  have ll := lck_len (c := c) hku 0
  unfold addE
  split
  · split
    · exact Nat.zero_le _
    · split
      · rw [List.length_append]; omega
      · omega
  · omega
theorem fewest_added_eq {c : Cat} (h : CatOk c) {ks : List Nat} (hp : PageOk c.w ks) : f_fewest_added [⟨.shr, catD c⟩, ⟨.shr, .tup (dNats ks)⟩] = .ok ⟨.shr, .int ((addE c ks).length : Nat)⟩ .non := by
  have q1 := check_catalog_eq h
  have q2 := check_page_eq h hp
  obtain ⟨md, q3⟩ := added_entries_eq h hp.lt hp.len
  have q4 : pLen [esD (addE c ks)] = some (.d (.int ((addE c ks).length : Nat))) := by simp [esD]
  exact def_eq rfl (by simp [m_fewest_added, q1, q2, q3, q4])

/-! paths, tongues, mixing -/
theorem lastUp_step {ps : List Nat} (ht : TreeOk ps) {k p : Nat} (h : pOf ps k = p + 1) : lastUp ps (k + 1) = lastUp ps (p + 1) := by
  unfold lastUp
  rw [up_step ht h]
  have := upF_pos (ps := ps) (p + 1) (p + 1)
  cases hu : up ps (p + 1) with
  | nil => unfold up at hu; rw [hu] at this; cases this
  | cons x xs => simp [List.getLast?_cons_cons]
theorem lastUp_top {ps : List Nat} {k : Nat} (h : pOf ps k = 0) : lastUp ps (k + 1) = k + 1 := by
  unfold lastUp
  rw [up_zero h]
  rfl
theorem lastUp_0 (ps : List Nat) : lastUp ps 0 = 0 := rfl
theorem lastUp_pos {ps : List Nat} (ht : TreeOk ps) {l : Nat} (h : 0 < l) : lastUp ps l ≠ 0 := by
  have h1 := (lastUp_at (ps := ps) l).2
  have h2 := (up_pos ht l h).1 _ h1
  omega
theorem lastUp_mem {ps : List Nat} (ht : TreeOk ps) : ∀ (l s : Nat), s ∈ up ps l → lastUp ps s = lastUp ps l := fun l => by
  induction l using Nat.strongRecOn with
  | _ l ih =>
    intro s hs
    cases l with
    | zero => rw [show up ps 0 = [0] from rfl] at hs; rw [List.mem_singleton.mp hs]
    | succ k =>
      cases hp : pOf ps k with
      | zero => rw [up_zero hp] at hs; rw [List.mem_singleton.mp hs]
      | succ p =>
        rw [up_step ht hp] at hs
        rcases List.mem_cons.mp hs with h | h
        · rw [h]
        · have := ht.getD k
          rw [lastUp_step ht hp]
          exact ih (p + 1) (by omega) s h
theorem up_head {ps : List Nat} (ht : TreeOk ps) (l : Nat) : ∃ r, up ps l = l :: r ∧ (∀ s ∈ r, s < l) := by
  cases l with
  | zero => exact ⟨[], rfl, fun s hs => by cases hs⟩
  | succ k =>
    cases hp : pOf ps k with
    | zero => exact ⟨[], up_zero hp, fun s hs => by cases hs⟩
    | succ p =>
      refine ⟨up ps (p + 1), up_step ht hp, fun s hs => ?_⟩
      have h1 := upF_mem ht (p + 1) (p + 1) s hs
      have h2 := ht.getD k
      omega
theorem mixT_iff (ts : List Nat) : mixT ts = true ↔ ∃ a ∈ ts, ∃ b ∈ ts, a ≠ b := by
  unfold mixT
  rw [List.any_eq_true]
  constructor
  · rintro ⟨t, ht, h⟩
    have h : t ≠ ts.headD 0 := by simpa using h
    refine ⟨t, ht, ts.headD 0, ?_, h⟩
    cases ts with
    | nil => cases ht
    | cons x xs => exact List.mem_cons_self ..
  · rintro ⟨a, ha, b, hb, h⟩
    by_cases e : a = ts.headD 0
    · have q : b ≠ ts.headD 0 := fun z => h (e.trans z.symm)
      exact ⟨b, hb, by simp only [decide_eq_false q, Bool.not_false]⟩
    · exact ⟨a, ha, by simp only [decide_eq_false e, Bool.not_false]⟩
theorem mixW_iff (c : Cat) (ks ws : List Nat) : mixW c ks ws = true ↔ ∃ k1 ∈ ks, ∃ k2 ∈ ks, ∃ p1 p2, lwh c k1 ws = some p1 ∧ lwh c k2 ws = some p2 ∧ lastUp c.ps p1 ≠ lastUp c.ps p2 := by
  have mem : ∀ t, t ∈ tng c.ps (ks.map fun k => lwh c k ws) ↔ ∃ k ∈ ks, ∃ p, lwh c k ws = some p ∧ t = lastUp c.ps p := fun t => by
    unfold tng
    constructor
    · intro h
      obtain ⟨o, ho, rfl⟩ := List.mem_map.mp h
      obtain ⟨h1, h2⟩ := List.mem_filter.mp ho
      obtain ⟨k, hk, rfl⟩ := List.mem_map.mp h1
      obtain ⟨p, hp⟩ := Option.isSome_iff_exists.mp h2
      exact ⟨k, hk, p, hp, by rw [hp]; rfl⟩
    · rintro ⟨k, hk, p, hp, rfl⟩
      exact List.mem_map.mpr ⟨some p, List.mem_filter.mpr ⟨List.mem_map.mpr ⟨k, hk, hp⟩, rfl⟩, rfl⟩
  unfold mixW
  rw [mixT_iff]
  constructor
  · rintro ⟨a, ha, b, hb, h⟩
    obtain ⟨k1, h1, p1, e1, rfl⟩ := (mem a).mp ha
    obtain ⟨k2, h2, p2, e2, rfl⟩ := (mem b).mp hb
    exact ⟨k1, h1, k2, h2, p1, p2, e1, e2, h⟩
  · rintro ⟨k1, h1, k2, h2, p1, p2, e1, e2, h⟩
    exact ⟨_, (mem _).mpr ⟨k1, h1, p1, e1, rfl⟩, _, (mem _).mpr ⟨k2, h2, p2, e2, rfl⟩, h⟩
theorem fpl_mem {c : Cat} {ls : List Nat} {k p : Nat} (h : fpl c ls k = some p) : p ∈ ls ∧ (cell c p k).isSome = true := ⟨List.mem_of_find?_eq_some h, by simpa using List.find?_some h⟩
theorem fpl_none {c : Cat} {ls : List Nat} {k : Nat} : fpl c ls k = none ↔ ∀ s ∈ ls, (cell c s k).isSome = false := by
  unfold fpl
  rw [List.find?_eq_none]
  exact ⟨fun h s hs => by simpa using h s hs, fun h s hs => by simp [h s hs]⟩
theorem fpl_ex {c : Cat} {ls : List Nat} {k s : Nat} (hs : s ∈ ls) (h : (cell c s k).isSome = true) : ∃ p, fpl c ls k = some p := by
  cases hf : fpl c ls k with
  | some p => exact ⟨p, rfl⟩
  | none => have := fpl_none.mp hf s hs; rw [h] at this; cases this
theorem rootp_some {c : Cat} {k p : Nat} (h : rootp c k = some p) : p = 0 ∧ (cell c 0 k).isSome = true := by
  unfold rootp at h
  split at h
  · rename_i q; cases h; exact ⟨rfl, q⟩
  · cases h
/-- where the way "key" finds it -/
theorem split_key {c : Cat} (hk : c.key = true) {k p : Nat} : ∀ ws : List Nat, lwh c k ws = some p → (∃ x w y, ws = x ++ w :: y ∧ (∀ u ∈ x, fpl c (up c.ps u) k = none) ∧ fpl c (up c.ps w) k = some p) ∨ ((∀ u ∈ ws, fpl c (up c.ps u) k = none) ∧ rootp c k = some p)
  | [], h => .inr ⟨(fun u hu => absurd hu (List.not_mem_nil)), h⟩
  | w :: ws, h => by
    cases hf : fpl c (up c.ps w) k with
    | some s =>
      have : some s = some p := by rw [lwh, hf] at h; exact h
      cases this
      exact .inl ⟨[], w, ws, rfl, (fun u hu => absurd hu (List.not_mem_nil)), hf⟩
    | none =>
      have h : lwh c k ws = some p := by
        rw [lwh, hf] at h
        simpa [hk] using h
      rcases split_key hk ws h with ⟨x, a, y, rfl, h1, h2⟩ | ⟨h1, h2⟩
      · refine .inl ⟨w :: x, a, y, rfl, fun u hu => ?_, h2⟩
        rcases List.mem_cons.mp hu with e | e
        · rw [e]; exact hf
        · exact h1 u e
      · refine .inr ⟨fun u hu => ?_, h2⟩
        rcases List.mem_cons.mp hu with e | e
        · rw [e]; exact hf
        · exact h1 u e
theorem held_of {c : Cat} {w k p : Nat} (h : fpl c (up c.ps w) k = some p) : held c w = true := by
  obtain ⟨h1, h2⟩ := fpl_mem h
  unfold held
  rw [List.any_eq_true]
  refine ⟨p, h1, ?_⟩
  unfold rowHas
  rw [List.any_eq_true]
  obtain ⟨t, ht⟩ := Option.isSome_iff_exists.mp h2
  refine ⟨some t, ?_, rfl⟩
  unfold cell at ht
  cases hg : (row c p)[k]? with
  | none => simp [List.getD, hg] at ht
  | some o =>
    simp [List.getD, hg] at ht
    subst ht
    exact List.mem_of_getElem? hg
/-- where the way "bundle" finds it -/
theorem split_bundle {c : Cat} (hk : c.key = false) : ∀ ws : List Nat, (∃ w ∈ ws, held c w = true ∧ ∀ k, lwh c k ws = lwh c k [w]) ∨ ∀ k, lwh c k ws = rootp c k
  | [] => .inr fun k => rfl
  | w :: ws => by
    cases hh : held c w with
    | true =>
      refine .inl ⟨w, List.mem_cons_self .., hh, fun k => ?_⟩
      rw [lwh, lwh]
      cases fpl c (up c.ps w) k with
      | some s => rfl
      | none => simp [hk, hh]
    | false =>
      have e : ∀ k, lwh c k (w :: ws) = lwh c k ws := fun k => by
        rw [lwh]
        cases hf : fpl c (up c.ps w) k with
        | some s => rw [held_of hf] at hh; cases hh
        | none => simp [hh]
      rcases split_bundle hk ws with ⟨u, h1, h2, h3⟩ | h
      · exact .inl ⟨u, List.mem_cons_of_mem _ h1, h2, fun k => (e k).trans (h3 k)⟩
      · exact .inr fun k => (e k).trans (h k)
theorem lwh_one {c : Cat} {w k : Nat} : lwh c k [w] = match fpl c (up c.ps w) k with
    | some s => some s
    | none => rootp c k := by
  rw [lwh]
  cases fpl c (up c.ps w) k with
  | some s => rfl
  | none => simp [lwh]
theorem lwh_pair {c : Cat} (hk : c.key = true) {a b k : Nat} (ha : fpl c (up c.ps a) k = none) {p : Nat} (hb : fpl c (up c.ps b) k = some p) : lwh c k [a, b] = some p := by
  simp [lwh, ha, hb, hk]
theorem lwh_first {c : Cat} {a k p : Nat} {ws : List Nat} (ha : fpl c (up c.ps a) k = some p) : lwh c k (a :: ws) = some p := by rw [lwh, ha]
/-- a list of one wish, or of two in their sequence, does it too -/
theorem mix_cut {c : Cat} {ks ws : List Nat} (h : mixW c ks ws = true) : (∃ a ∈ ws, mixW c ks [a] = true) ∨ (c.key = true ∧ ∃ x b y a, ws = x ++ b :: y ∧ a ∈ x ∧ b ∉ x ∧ mixW c ks [a, b] = true) := by
  obtain ⟨k1, h1, k2, h2, p1, p2, e1, e2, hne⟩ := (mixW_iff c ks ws).mp h
  cases hk : c.key with
  | false =>
    left
    rcases split_bundle hk ws with ⟨w, hw, hh, e⟩ | e
    · exact ⟨w, hw, (mixW_iff _ _ _).mpr ⟨k1, h1, k2, h2, p1, p2, by rw [← e]; exact e1, by rw [← e]; exact e2, hne⟩⟩
    · rw [e] at e1 e2
      rw [(rootp_some e1).1, (rootp_some e2).1] at hne
      exact absurd rfl hne
  | true =>
    have pair : ∀ {k1 k2 p1 p2 a b : Nat} {x y z : List Nat}, k1 ∈ ks → k2 ∈ ks → lastUp c.ps p1 ≠ lastUp c.ps p2 → ws = x ++ b :: y → (∀ u ∈ x, fpl c (up c.ps u) k2 = none) → fpl c (up c.ps b) k2 = some p2 → a ∈ x → fpl c (up c.ps a) k1 = some p1 →
        (∃ a ∈ ws, mixW c ks [a] = true) ∨ (true = true ∧ ∃ x b y a, ws = x ++ b :: y ∧ a ∈ x ∧ b ∉ x ∧ mixW c ks [a, b] = true) := fun {k1 k2 p1 p2 a b x y z} h1 h2 hne hw hx hb ha hf =>
      .inr ⟨rfl, x, b, y, a, hw, ha, (fun z => by have := hx b z; rw [hb] at this; cases this), (mixW_iff _ _ _).mpr ⟨k1, h1, k2, h2, p1, p2, lwh_first hf, lwh_pair hk (hx a ha) hb, hne⟩⟩
    rcases split_key hk ws e1 with ⟨x1, a, y1, w1, n1, f1⟩ | ⟨n1, f1⟩
    · rcases split_key hk ws e2 with ⟨x2, b, y2, w2, n2, f2⟩ | ⟨n2, f2⟩
      · rcases List.append_eq_append_iff.mp (w1.symm.trans w2) with ⟨t, q1, q2⟩ | ⟨t, q1, q2⟩
        · cases t with
          | nil =>
            cases q2
            exact .inl ⟨a, by rw [w1]; simp, (mixW_iff _ _ _).mpr ⟨k1, h1, k2, h2, p1, p2, lwh_first f1, lwh_first f2, hne⟩⟩
          | cons u t =>
            cases q2
            exact pair (z := []) h1 h2 hne w2 n2 f2 (by rw [q1]; simp) f1
        · cases t with
          | nil =>
            cases q2
            exact .inl ⟨a, by rw [w1]; simp, (mixW_iff _ _ _).mpr ⟨k1, h1, k2, h2, p1, p2, lwh_first f1, lwh_first f2, hne⟩⟩
          | cons u t =>
            cases q2
            exact pair (z := []) h2 h1 (fun z => hne z.symm) w1 n1 f1 (by rw [q1]; simp) f2
      · refine .inl ⟨a, by rw [w1]; simp, (mixW_iff _ _ _).mpr ⟨k1, h1, k2, h2, p1, p2, lwh_first f1, ?_, hne⟩⟩
        rw [lwh_one, n2 a (by rw [w1]; simp)]; exact f2
    · rcases split_key hk ws e2 with ⟨x2, b, y2, w2, n2, f2⟩ | ⟨n2, f2⟩
      · refine .inl ⟨b, by rw [w2]; simp, (mixW_iff _ _ _).mpr ⟨k1, h1, k2, h2, p1, p2, ?_, lwh_first f2, hne⟩⟩
        rw [lwh_one, n1 b (by rw [w2]; simp)]; exact f1
      · rw [(rootp_some f1).1, (rootp_some f2).1] at hne
        exact absurd rfl hne

@[simp] theorem pIsI_tup (xs : List D) : pIsI "tuple" [.tup xs] = some (.d (.bl true)) := by
  have h : kitB "tuple" "tuple" = some true := by decide
  simp [pIsI, tyOf, h]
/-! cut lists -/
def prsI (once : List Nat) (i : Nat) : List (List Nat) := (once.drop (i + 1)).map fun y => [once.getD i 0, y]
def cutL (c : Cat) (ws : List Nat) : List (List Nat) := (addNew [] ws).map (fun w => [w]) ++ (if c.key = true then (List.range (addNew [] ws).length).flatMap (prsI (addNew [] ws)) else [])
theorem cutN_from (ks : List Nat) (i : Nat) : cutN ks (some ((i : Int) + 1)) none = ks.drop (i + 1) := by
  unfold cutN
  rw [HT.sIx_none, show ((i : Int) + 1) = ((i + 1 : Nat) : Int) from by omega, HT.sIx_nat]
  by_cases h : i + 1 ≤ ks.length
  · rw [Nat.min_eq_left h]
    exact List.take_of_length_le (by simp)
  · rw [Nat.min_eq_right (by omega), List.drop_of_length_le (Nat.le_refl _), List.drop_of_length_le (by omega)]
    simp
theorem prsI_len (once : List Nat) (i : Nat) : (prsI once i).length ≤ once.length := by
  rw [prsI, List.length_map, List.length_drop]; omega
theorem cutL_ok {c : Cat} {ws : List Nat} {n : Nat} (hw : ∀ w ∈ ws, w ≤ n) : ∀ us ∈ cutL c ws, (∀ w ∈ us, w ≤ n) ∧ us.length ≤ 2 := by
  have ho : ∀ w ∈ addNew [] ws, w ≤ n := fun w h => by
    rcases (mem_addNew ws [] w).mp h with h | h
    · cases h
    · exact hw w h
  intro us hu
  unfold cutL at hu
  rcases List.mem_append.mp hu with h | h
  · obtain ⟨w, h1, rfl⟩ := List.mem_map.mp h
    exact ⟨fun x hx => by rw [List.mem_singleton.mp hx]; exact ho w h1, by simp⟩
  · split at h
    · obtain ⟨i, h1, h2⟩ := List.mem_flatMap.mp h
      have hi := List.mem_range.mp h1
      obtain ⟨y, h3, rfl⟩ := List.mem_map.mp h2
      refine ⟨fun x hx => ?_, by simp⟩
      rcases List.mem_cons.mp hx with e | e
      · rw [e, List.getD, List.getElem?_eq_getElem hi]
        exact ho _ (List.getElem_mem hi)
      · rw [List.mem_singleton.mp e]
        exact ho _ (List.mem_of_mem_drop h3)
    · cases h
theorem addNew_app (f s t : List Nat) : addNew f (s ++ t) = addNew (addNew f s) t := by simp [addNew]
theorem addNew_pre (s : List Nat) : ∀ f : List Nat, ∃ t, addNew f s = f ++ t := by
  induction s with
  | nil => intro f; exact ⟨[], by simp [addNew]⟩
  | cons x s ih =>
    intro f
    have e : addNew f (x :: s) = addNew (if x ∈ f then f else f ++ [x]) s := rfl
    rw [e]
    by_cases h : x ∈ f
    · rw [if_pos h]; exact ih f
    · rw [if_neg h]
      obtain ⟨t, ht⟩ := ih (f ++ [x])
      exact ⟨[x] ++ t, by rw [ht, List.append_assoc]⟩
theorem cut_any {c : Cat} {ks ws : List Nat} (h : mixW c ks ws = true) : (cutL c ws).any (mixW c ks) = true := by
  rw [List.any_eq_true]
  rcases mix_cut h with ⟨a, h1, h2⟩ | ⟨hk, x, b, y, a, h1, h2, h3, h4⟩
  · refine ⟨[a], ?_, h2⟩
    unfold cutL
    exact List.mem_append_left _ (List.mem_map.mpr ⟨a, (mem_addNew ws [] a).mpr (.inr h1), rfl⟩)
  · refine ⟨[a, b], ?_, h4⟩
    unfold cutL
    rw [if_pos hk]
    refine List.mem_append_right _ ?_
    have e1 : addNew [] ws = addNew (addNew [] x ++ [b]) y := by
      have hb : b ∉ addNew [] x := fun z => by
        rcases (mem_addNew x [] b).mp z with q | q
        · cases q
        · exact h3 q
      rw [h1, show x ++ b :: y = (x ++ [b]) ++ y from by simp, addNew_app, addNew_snoc, if_neg hb]
    obtain ⟨t, e2⟩ := addNew_pre y (addNew [] x ++ [b])
    have ha : a ∈ addNew [] x := (mem_addNew x [] a).mpr (.inr h2)
    obtain ⟨i, hi, e3⟩ := List.mem_iff_getElem.mp ha
    generalize addNew [] x = o at *
    have eo : addNew [] ws = o ++ ([b] ++ t) := by rw [e1, e2, List.append_assoc]
    rw [eo, List.mem_flatMap]
    refine ⟨i, List.mem_range.mpr (by rw [List.length_append]; omega), List.mem_map.mpr ⟨b, ?_, ?_⟩⟩
    · rw [List.drop_append_of_le_length (by omega)]
      exact List.mem_append_right _ (by simp)
    · rw [List.getD, List.getElem?_append_left hi, List.getElem?_eq_getElem hi, e3]
      rfl
theorem mixes_eqW {c : Cat} (h : CatOk c) {ws ks : List Nat} (hw : ∀ w ∈ ws, w ≤ c.ps.length) (hl : ws.length ≤ 60) (hp : PageOk c.w ks) : f_mixes [⟨.shr, catD c⟩, ⟨.shr, .tup (dNats ws)⟩, ⟨.shr, .tup (dNats ks)⟩] = .ok ⟨.shr, .bl (mixW c ks ws)⟩ .non := by
  have q := mixes_eq h hw hl hp
  rw [show ks.map (fpl c (sght c ws)) = ks.map fun k => lwh c k ws from List.map_congr_left fun k _ => lwh_eq c ws k] at q
  exact q
/-! nothing is added just when nothing mixes -/
def addF (c : Cat) (ks us : List Nat) (l : Nat) : List (Nat × Nat) := addK c ks us (belF c ks us) l
theorem mem_dsc : ∀ {n k : Nat}, k ∈ dsc n ↔ k < n
  | 0, k => ⟨fun h => absurd h List.not_mem_nil, fun h => absurd h (Nat.not_lt_zero _)⟩
  | n + 1, k => by
    rw [dsc, List.mem_cons, mem_dsc]
    omega
theorem bst_get {c : Cat} (ht : TreeOk c.ps) {ks us : List Nat} {B : List (List (Nat × Nat))} {k : Nat} (h : k < B.length) (l : Nat) : (bst c ks us B k).getD l [] = B.getD l [] ++ (if pOf c.ps k = l then addK c ks us B (lc k) else []) := by
  have hp := ht.getD k
  unfold bst
  by_cases e : pOf c.ps k = l
  · rw [if_pos e]
    subst e
    rw [List.getD, List.getElem?_set_self (by omega)]
    rfl
  · rw [if_neg e, List.getD, List.getElem?_set_ne e, List.append_nil]
    rfl
theorem fold_above {c : Cat} (ht : TreeOk c.ps) {ks us : List Nat} : ∀ (m : Nat) (B : List (List (Nat × Nat))) (l : Nat), m ≤ l → ((dsc m).foldl (bst c ks us) B).getD l [] = B.getD l []
  | 0, B, l, _ => rfl
  | m + 1, B, l, h => by
    have hp := ht.getD m
    rw [dsc, List.foldl_cons, fold_above ht m _ l (by omega)]
    unfold bst
    rw [List.getD, List.getElem?_set_ne (by omega)]
    rfl
theorem addK_at {c : Cat} {ks us : List Nat} {B B' : List (List (Nat × Nat))} {l : Nat} (h : B.getD l [] = B'.getD l []) : addK c ks us B l = addK c ks us B' l := by
  unfold addK
  rw [h]
theorem fold_spec {c : Cat} (ht : TreeOk c.ps) {ks us : List Nat} : ∀ (m : Nat) (B : List (List (Nat × Nat))), m < B.length + 1 → ∀ l, ((dsc m).foldl (bst c ks us) B).getD l [] = B.getD l [] ++ (dsc m).flatMap fun k => if pOf c.ps k = l then addK c ks us ((dsc m).foldl (bst c ks us) B) (lc k) else []
  | 0, B, _, l => by simp [dsc]
  | m + 1, B, h, l => by
    have hl : (bst c ks us B m).length = B.length := by rw [bst, List.length_set]
    have e : addK c ks us B (lc m) = addK c ks us ((dsc m).foldl (bst c ks us) (bst c ks us B m)) (lc m) := by
      refine addK_at ?_
      have hp := ht.getD m
      have a1 : ((dsc m).foldl (bst c ks us) (bst c ks us B m)).getD (lc m) [] = (bst c ks us B m).getD (lc m) [] := fold_above ht m _ _ (by show m ≤ m + 1; omega)
      rw [a1]
      unfold bst
      symm
      rw [List.getD, List.getElem?_set_ne (by show pOf c.ps m ≠ m + 1; omega)]
      rfl
    rw [dsc, List.foldl_cons, fold_spec ht m _ (by rw [hl]; omega) l, bst_get ht (by omega), List.flatMap_cons, List.append_assoc, ← e]
theorem bel_spec {c : Cat} (ht : TreeOk c.ps) (ks us : List Nat) (l : Nat) : (belF c ks us).getD l [] = (dsc c.ps.length).flatMap fun k => if pOf c.ps k = l then addF c ks us (lc k) else [] := by
  unfold addF
  have := fold_spec ht (ks := ks) (us := us) c.ps.length (List.replicate (c.ps.length + 1) []) (by rw [List.length_replicate]; omega) l
  have e : (List.replicate (c.ps.length + 1) ([] : List (Nat × Nat))).getD l [] = [] := by
    rw [List.getD, List.getElem?_replicate]
    split <;> rfl
  rw [e, List.nil_append] at this
  exact this
theorem bel_nil {c : Cat} (ht : TreeOk c.ps) (ks us : List Nat) (l : Nat) : (belF c ks us).getD l [] = [] ↔ ∀ k, k < c.ps.length → pOf c.ps k = l → addF c ks us (lc k) = [] := by
  rw [bel_spec ht, List.flatMap_eq_nil_iff]
  constructor
  · intro h k hk e
    have := h k (mem_dsc.mpr hk)
    rwa [if_pos e] at this
  · intro h k hk
    by_cases e : pOf c.ps k = l
    · rw [if_pos e]; exact h k (mem_dsc.mp hk) e
    · rw [if_neg e]
theorem lck_nil {c : Cat} {us : List Nat} {l : Nat} : lckK c us l = [] ↔ ∀ k ∈ us, (cell c l k).isSome = true := by
  unfold lckK
  rw [List.map_eq_nil_iff, List.filter_eq_nil_iff]
  constructor
  · intro h k hk
    have := h k hk
    cases hc : cell c l k with
    | none => rw [hc] at this; exact absurd rfl this
    | some t => rfl
  · intro h k hk z
    have := h k hk
    cases hc : cell c l k with
    | none => rw [hc] at this; cases this
    | some t => rw [hc] at z; cases z
theorem addF_nil {c : Cat} {ks us : List Nat} {l : Nat} : addF c ks us l = [] ↔ lckK c us l = [] ∨ (anyR c ks l = false ∧ (belF c ks us).getD l [] = []) := by
  unfold addF addK
  split
  · rename_i h
    rw [Bool.and_eq_true, decide_eq_true_eq] at h
    constructor
    · intro e; exact .inr ⟨by simpa using h.1, e⟩
    · rintro (e | ⟨_, e⟩)
      · rw [e] at h; exact absurd h.2 (Nat.not_lt_zero _)
      · exact e
  · rename_i h
    constructor
    · exact .inl
    · rintro (e | ⟨h1, e⟩)
      · exact e
      · rw [h1, e] at h
        have : ¬ (0 < (lckK c us l).length) := fun z => h (by simpa using z)
        exact List.eq_nil_of_length_eq_zero (by omega)
theorem anyR_iff {c : Cat} {ks : List Nat} {l : Nat} : anyR c ks l = true ↔ ∃ k ∈ ks, (cell c l k).isSome = true := List.any_eq_true
theorem anyR_not {c : Cat} {ks : List Nat} {l : Nat} (h : anyR c ks l = false) : ∀ k ∈ ks, (cell c l k).isSome = false := fun k hk => by
  cases hc : (cell c l k).isSome with
  | false => rfl
  | true => rw [anyR_iff.mpr ⟨k, hk, hc⟩] at h; cases h
/-- no need: every path with a text of the page has a full locale -/
theorem path_full {c : Cat} (ht : TreeOk c.ps) {ks us : List Nat} (h0 : (belF c ks us).getD 0 [] = []) : ∀ l, 0 < l → l ≤ c.ps.length → addF c ks us l = [] ∨ ∃ s ∈ up c.ps l, lckK c us s = [] := fun l => by
  induction l using Nat.strongRecOn with
  | _ l ih =>
    intro hl hn
    obtain ⟨k, rfl⟩ : ∃ k, l = k + 1 := ⟨l - 1, by omega⟩
    cases hp : pOf c.ps k with
    | zero => exact .inl ((bel_nil ht ks us 0).mp h0 k (by omega) hp)
    | succ p =>
      have hk := ht.getD k
      rw [up_step ht hp]
      rcases ih (p + 1) (by omega) (by omega) (by omega) with h | ⟨s, h1, h2⟩
      · rcases addF_nil.mp h with h | ⟨_, h⟩
        · exact .inr ⟨p + 1, List.mem_cons_of_mem _ (up_self _ _), h⟩
        · exact .inl ((bel_nil ht ks us (p + 1)).mp h k (by omega) hp)
      · exact .inr ⟨s, List.mem_cons_of_mem _ h1, h2⟩
theorem any_full {c : Cat} (ht : TreeOk c.ps) {ks us : List Nat} (h0 : (belF c ks us).getD 0 [] = []) {l : Nat} (hl : 0 < l) (hn : l ≤ c.ps.length) (ha : anyR c ks l = true) : ∃ s ∈ up c.ps l, lckK c us s = [] := by
  rcases path_full ht h0 l hl hn with h | h
  · rcases addF_nil.mp h with h | ⟨h, _⟩
    · exact ⟨l, up_self _ _, h⟩
    · rw [ha] at h; cases h
  · exact h
/-- a need: a locale with a text of the page, none above it, and it lacks a key -/
theorem bel_need {c : Cat} (ht : TreeOk c.ps) {ks us : List Nat} (H : ∀ x, 0 < x → x ≤ c.ps.length → anyR c ks x = true → (∀ s ∈ up c.ps x, s ≠ x → anyR c ks s = false) → lckK c us x = []) : (belF c ks us).getD 0 [] = [] := by
  have key : ∀ m l, c.ps.length - l = m → 0 < l → l ≤ c.ps.length → (∀ s ∈ up c.ps l, s ≠ l → anyR c ks s = false) → addF c ks us l = [] := fun m => by
    induction m using Nat.strongRecOn with
    | _ m ih =>
      intro l hm hl hn hs
      rw [addF_nil]
      cases ha : anyR c ks l with
      | true => exact .inl (H l hl hn ha hs)
      | false =>
        refine .inr ⟨rfl, (bel_nil ht ks us l).mpr fun k hk hp => ?_⟩
        obtain ⟨p, rfl⟩ : ∃ p, l = p + 1 := ⟨l - 1, by omega⟩
        have hkp := ht.getD k
        refine ih (c.ps.length - (k + 1)) (by omega) (lc k) rfl (by show 0 < k + 1; omega) (by show k + 1 ≤ _; omega) fun s hs' hne => ?_
        have hs' : s ∈ up c.ps (k + 1) := hs'
        rw [up_step ht hp] at hs'
        rcases List.mem_cons.mp hs' with e | e
        · exact absurd e hne
        · by_cases e2 : s = p + 1
          · rw [e2]; exact ha
          · exact hs s e e2
  refine (bel_nil ht ks us 0).mpr fun k hk hp => ?_
  refine key _ (lc k) rfl (by show 0 < k + 1; omega) (by show k + 1 ≤ _; omega) fun s hs hne => ?_
  have hs : s ∈ up c.ps (k + 1) := hs
  rw [up_zero hp] at hs
  exact absurd (List.mem_singleton.mp hs) hne
theorem bel_ex {c : Cat} (ht : TreeOk c.ps) {ks us : List Nat} (h : (belF c ks us).getD 0 [] ≠ []) : ∃ x, 0 < x ∧ x ≤ c.ps.length ∧ anyR c ks x = true ∧ (∀ s ∈ up c.ps x, s ≠ x → anyR c ks s = false) ∧ lckK c us x ≠ [] := by
  apply Classical.byContradiction
  intro n
  refine h (bel_need ht fun x h1 h2 h3 h4 => ?_)
  apply Classical.byContradiction
  intro h5
  exact n ⟨x, h1, h2, h3, h4, h5⟩
theorem mem_usK_key {c : Cat} (hk : c.key = true) {ks : List Nat} {k : Nat} : k ∈ usK c ks ↔ k ∈ ks ∧ ∃ l, l ≤ c.ps.length ∧ (cell c l k).isSome = true := by
  unfold usK
  rw [if_pos hk, List.mem_filter, List.any_eq_true]
  constructor
  · rintro ⟨h, l, h1, h2⟩
    exact ⟨h, l, by have := List.mem_range.mp h1; omega, h2⟩
  · rintro ⟨h, l, h1, h2⟩
    exact ⟨h, l, List.mem_range.mpr (by omega), h2⟩
theorem mem_usK_bundle {c : Cat} (hk : c.key = false) {ks : List Nat} {k : Nat} : k ∈ usK c ks ↔ k ∈ ks ∧ (cell c 0 k).isSome = true := by
  unfold usK
  rw [if_neg (by simp [hk]), List.mem_filter]
theorem lck_ex {c : Cat} {us : List Nat} {l : Nat} (h : lckK c us l ≠ []) : ∃ k ∈ us, (cell c l k).isSome = false := by
  apply Classical.byContradiction
  intro n
  refine h (lck_nil.mpr fun k hk => ?_)
  cases hc : (cell c l k).isSome with
  | true => rfl
  | false => exact absurd ⟨k, hk, hc⟩ n
theorem oneT_iff {c : Cat} {ks : List Nat} : oneT c ks = true ↔ ∀ x y, x ≤ c.ps.length → y ≤ c.ps.length → anyR c ks x = true → anyR c ks y = true → lastUp c.ps x = lastUp c.ps y := by
  have mem : ∀ t, t ∈ ((List.range (c.ps.length + 1)).filter (anyR c ks)).map (lastUp c.ps) ↔ ∃ x, x ≤ c.ps.length ∧ anyR c ks x = true ∧ t = lastUp c.ps x := fun t => by
    constructor
    · intro h
      obtain ⟨x, hx, rfl⟩ := List.mem_map.mp h
      obtain ⟨h1, h2⟩ := List.mem_filter.mp hx
      exact ⟨x, by have := List.mem_range.mp h1; omega, h2, rfl⟩
    · rintro ⟨x, h1, h2, rfl⟩
      exact List.mem_map.mpr ⟨x, List.mem_filter.mpr ⟨List.mem_range.mpr (by omega), h2⟩, rfl⟩
  unfold oneT
  rw [List.all_eq_true]
  constructor
  · intro h x y hx hy ax ay
    have h1 := h _ ((mem _).mpr ⟨x, hx, ax, rfl⟩)
    have h2 := h _ ((mem _).mpr ⟨y, hy, ay, rfl⟩)
    rw [decide_eq_true_eq] at h1 h2
    rw [h1, h2]
  · intro h t ht
    rw [decide_eq_true_eq]
    obtain ⟨x, h1, h2, rfl⟩ := (mem _).mp ht
    generalize hL : ((List.range (c.ps.length + 1)).filter (anyR c ks)).map (lastUp c.ps) = L at *
    cases L with
    | nil => cases ht
    | cons t0 L =>
      obtain ⟨y, g1, g2, g3⟩ := (mem t0).mp (List.mem_cons_self ..)
      show lastUp c.ps x = t0
      rw [g3]
      exact h x y h1 g1 h2 g2
/-- the first place of a path with nothing above -/
theorem fpl_here {c : Cat} (ht : TreeOk c.ps) {x k : Nat} (h : (cell c x k).isSome = true) : fpl c (up c.ps x) k = some x := by
  obtain ⟨r, e, _⟩ := up_head ht x
  rw [e]
  simp [fpl, h]
theorem fpl_gap {c : Cat} {ks : List Nat} {x k : Nat} (hk : k ∈ ks) (h : (cell c x k).isSome = false) (hs : ∀ s ∈ up c.ps x, s ≠ x → anyR c ks s = false) : fpl c (up c.ps x) k = none := by
  rw [fpl_none]
  intro s h1
  by_cases e : s = x
  · rw [e]; exact h
  · exact anyR_not (hs s h1 e) k hk
theorem add_zero {c : Cat} (h : CatOk c) {ks : List Nat} (hz : addE c ks = []) {ws : List Nat} (hw : ∀ w ∈ ws, w ≤ c.ps.length) : mixW c ks ws = false := by
  have ht := h.tree
  cases hm : mixW c ks ws with
  | false => rfl
  | true =>
    exfalso
    obtain ⟨k1, h1, k2, h2, p1, p2, e1, e2, hne⟩ := (mixW_iff c ks ws).mp hm
    unfold addE at hz
    cases hk : c.key with
    | false =>
      rw [if_neg (by simp [hk])] at hz
      rcases split_bundle hk ws with ⟨w, hw1, hh, e⟩ | e
      · rw [e, lwh_one] at e1 e2
        have root : ∀ {k1 k2 p1 p2 : Nat}, k1 ∈ ks → k2 ∈ ks → fpl c (up c.ps w) k1 = some p1 → fpl c (up c.ps w) k2 = none → rootp c k2 = some p2 → lastUp c.ps p1 = lastUp c.ps p2 := fun {k1 k2 p1 p2} h1 h2 f1 f2 r2 => by
          obtain ⟨rfl, r3⟩ := rootp_some r2
          obtain ⟨m1, m2⟩ := fpl_mem f1
          cases w with
          | zero => rw [show up c.ps 0 = [0] from rfl] at m1; rw [List.mem_singleton.mp m1]
          | succ w =>
            have p0 := (up_pos ht (w + 1) (by omega)).1 _ m1
            have pl := up_le ht (hw _ hw1) _ m1
            obtain ⟨s, s1, s2⟩ := any_full ht hz p0 pl (anyR_iff.mpr ⟨k1, h1, m2⟩)
            have s3 := lck_nil.mp s2 k2 ((mem_usK_bundle hk).mpr ⟨h2, r3⟩)
            have := fpl_none.mp f2 s (up_sub ht s1 _ m1)
            rw [s3] at this; cases this
        cases f1 : fpl c (up c.ps w) k1 with
        | some q1 =>
          rw [f1] at e1
          cases e1
          cases f2 : fpl c (up c.ps w) k2 with
          | some q2 =>
            rw [f2] at e2
            cases e2
            exact hne ((lastUp_mem ht _ _ (fpl_mem f1).1).trans (lastUp_mem ht _ _ (fpl_mem f2).1).symm)
          | none => rw [f2] at e2; exact hne (root h1 h2 f1 f2 e2)
        | none =>
          rw [f1] at e1
          cases f2 : fpl c (up c.ps w) k2 with
          | some q2 =>
            rw [f2] at e2
            cases e2
            exact hne (root h2 h1 f2 f1 e1).symm
          | none => rw [f2] at e2; exact hne (by rw [(rootp_some e1).1, (rootp_some e2).1])
      · rw [e] at e1 e2
        exact hne (by rw [(rootp_some e1).1, (rootp_some e2).1])
    | true =>
      rw [if_pos hk] at hz
      have place : ∀ {k p : Nat}, lwh c k ws = some p → p ≤ c.ps.length ∧ (cell c p k).isSome = true := fun {k p} e => by
        rcases split_key hk ws e with ⟨x, w, y, rfl, _, f⟩ | ⟨_, f⟩
        · obtain ⟨m1, m2⟩ := fpl_mem f
          exact ⟨up_le ht (hw w (by simp)) _ m1, m2⟩
        · obtain ⟨rfl, m2⟩ := rootp_some f
          exact ⟨Nat.zero_le _, m2⟩
      obtain ⟨l1, c1⟩ := place e1
      obtain ⟨l2, c2⟩ := place e2
      cases hot : oneT c ks with
      | true => exact hne (oneT_iff.mp hot p1 p2 l1 l2 (anyR_iff.mpr ⟨k1, h1, c1⟩) (anyR_iff.mpr ⟨k2, h2, c2⟩))
      | false =>
        rw [hot] at hz
        have hb : (belF c ks (usK c ks)).getD 0 [] = [] ∧ (anyR c ks 0 = true → lckK c (usK c ks) 0 = []) := by
          cases ha : anyR c ks 0 with
          | true =>
            rw [ha] at hz
            have hz : (belF c ks (usK c ks)).getD 0 [] ++ lckK c (usK c ks) 0 = [] := hz
            exact ⟨(List.append_eq_nil_iff.mp hz).1, fun _ => (List.append_eq_nil_iff.mp hz).2⟩
          | false =>
            rw [ha] at hz
            exact ⟨hz, fun z => by cases z⟩
        have u1 : k1 ∈ usK c ks := (mem_usK_key hk).mpr ⟨h1, p1, l1, c1⟩
        have u2 : k2 ∈ usK c ks := (mem_usK_key hk).mpr ⟨h2, p2, l2, c2⟩
        have full : ∀ {a k k' p : Nat}, a ≤ c.ps.length → k ∈ ks → k' ∈ usK c ks → fpl c (up c.ps a) k = some p → fpl c (up c.ps a) k' ≠ none := fun {a k k' p} hal hkk hu f n => by
          obtain ⟨m1, m2⟩ := fpl_mem f
          have hs : ∃ s ∈ up c.ps a, lckK c (usK c ks) s = [] := by
            cases a with
            | zero =>
              rw [show up c.ps 0 = [0] from rfl] at m1
              rw [List.mem_singleton.mp m1] at m2
              exact ⟨0, up_self _ _, hb.2 (anyR_iff.mpr ⟨k, hkk, m2⟩)⟩
            | succ a =>
              have p0 := (up_pos ht (a + 1) (by omega)).1 _ m1
              obtain ⟨s, s1, s2⟩ := any_full ht hb.1 p0 (up_le ht hal _ m1) (anyR_iff.mpr ⟨k, hkk, m2⟩)
              exact ⟨s, up_sub ht s1 _ m1, s2⟩
          obtain ⟨s, s1, s2⟩ := hs
          have := fpl_none.mp n s s1
          rw [lck_nil.mp s2 k' hu] at this
          cases this
        rcases split_key hk ws e1 with ⟨x1, a, y1, w1, n1, f1⟩ | ⟨n1, f1⟩
        · have ha : a ≤ c.ps.length := hw a (by rw [w1]; simp)
          rcases split_key hk ws e2 with ⟨x2, b, y2, w2, n2, f2⟩ | ⟨n2, f2⟩
          · have hb' : b ≤ c.ps.length := hw b (by rw [w2]; simp)
            have same : a = b → False := fun e => by
              subst e
              exact hne ((lastUp_mem ht _ _ (fpl_mem f1).1).trans (lastUp_mem ht _ _ (fpl_mem f2).1).symm)
            rcases List.append_eq_append_iff.mp (w1.symm.trans w2) with ⟨t, q1, q2⟩ | ⟨t, q1, q2⟩
            · cases t with
              | nil => cases q2; exact same rfl
              | cons u t => cases q2; exact full ha h1 u2 f1 (n2 a (by rw [q1]; simp))
            · cases t with
              | nil => cases q2; exact same rfl
              | cons u t => cases q2; exact full hb' h2 u1 f2 (n1 b (by rw [q1]; simp))
          · exact full ha h1 u2 f1 (n2 a (by rw [w1]; simp))
        · rcases split_key hk ws e2 with ⟨x2, b, y2, w2, n2, f2⟩ | ⟨n2, f2⟩
          · exact full (hw b (by rw [w2]; simp)) h2 u1 f2 (n1 b (by rw [w2]; simp))
          · exact hne (by rw [(rootp_some f1).1, (rootp_some f2).1])
theorem add_mix {c : Cat} (h : CatOk c) {ks : List Nat} (hz : addE c ks ≠ []) : ∃ ws, (∀ w ∈ ws, w ≤ c.ps.length) ∧ ws.length ≤ 2 ∧ mixW c ks ws = true := by
  have ht := h.tree
  unfold addE at hz
  cases hk : c.key with
  | false =>
    rw [if_neg (by simp [hk])] at hz
    obtain ⟨x, x0, xl, xa, xs, xf⟩ := bel_ex ht hz
    obtain ⟨k, hku, hkn⟩ := lck_ex xf
    obtain ⟨k1, hk1, hc1⟩ := anyR_iff.mp xa
    obtain ⟨hkk, hk0⟩ := (mem_usK_bundle hk).mp hku
    refine ⟨[x], fun w hw => by rw [List.mem_singleton.mp hw]; exact xl, by simp, (mixW_iff _ _ _).mpr ⟨k1, hk1, k, hkk, x, 0, lwh_first (fpl_here ht hc1), ?_, lastUp_pos ht x0⟩⟩
    rw [lwh_one, fpl_gap hkk hkn xs]
    simp [rootp, hk0]
  | true =>
    rw [if_pos hk] at hz
    cases hot : oneT c ks with
    | true => rw [hot] at hz; exact absurd rfl hz
    | false =>
      rw [hot] at hz
      have hx : ∃ x, x ≤ c.ps.length ∧ anyR c ks x = true ∧ (∀ s ∈ up c.ps x, s ≠ x → anyR c ks s = false) ∧ lckK c (usK c ks) x ≠ [] := by
        by_cases hb : (belF c ks (usK c ks)).getD 0 [] = []
        · cases ha : anyR c ks 0 with
          | false => rw [ha] at hz; exact absurd hb hz
          | true =>
            rw [ha] at hz
            refine ⟨0, Nat.zero_le _, ha, fun s hs hne => ?_, fun e => hz ?_⟩
            · rw [show up c.ps 0 = [0] from rfl] at hs
              exact absurd (List.mem_singleton.mp hs) hne
            · show (belF c ks (usK c ks)).getD 0 [] ++ lckK c (usK c ks) 0 = []
              rw [hb, e]; rfl
        · obtain ⟨x, _, h2, h3, h4, h5⟩ := bel_ex ht hb
          exact ⟨x, h2, h3, h4, h5⟩
      obtain ⟨x, xl, xa, xs, xf⟩ := hx
      obtain ⟨k, hku, hkn⟩ := lck_ex xf
      obtain ⟨k1, hk1, hc1⟩ := anyR_iff.mp xa
      obtain ⟨hkk, y, yl, yc⟩ := (mem_usK_key hk).mp hku
      have two : ∀ {a b : Nat}, a ≤ c.ps.length → b ≤ c.ps.length → ∀ w ∈ [a, b], w ≤ c.ps.length := fun {a b} h1 h2 w hw => by
        rcases List.mem_cons.mp hw with e | e
        · rw [e]; exact h1
        · rw [List.mem_singleton.mp e]; exact h2
      by_cases hy : ∃ y, y ≤ c.ps.length ∧ (cell c y k).isSome = true ∧ lastUp c.ps y ≠ lastUp c.ps x
      · obtain ⟨y, yl, yc, yt⟩ := hy
        exact ⟨[x, y], two xl yl, by simp, (mixW_iff _ _ _).mpr ⟨k1, hk1, k, hkk, x, y, lwh_first (fpl_here ht hc1), lwh_pair hk (fpl_gap hkk hkn xs) (fpl_here ht yc), fun e => yt e.symm⟩⟩
      · have all : ∀ y, y ≤ c.ps.length → (cell c y k).isSome = true → lastUp c.ps y = lastUp c.ps x := fun y h1 h2 => by
          apply Classical.byContradiction
          intro n
          exact hy ⟨y, h1, h2, n⟩
        have hzz : ∃ z, z ≤ c.ps.length ∧ anyR c ks z = true ∧ lastUp c.ps z ≠ lastUp c.ps x := by
          apply Classical.byContradiction
          intro n
          have : oneT c ks = true := oneT_iff.mpr fun a b ha hb aa ab => by
            have ea : lastUp c.ps a = lastUp c.ps x := Classical.byContradiction fun q => n ⟨a, ha, aa, q⟩
            have eb : lastUp c.ps b = lastUp c.ps x := Classical.byContradiction fun q => n ⟨b, hb, ab, q⟩
            rw [ea, eb]
          rw [hot] at this; cases this
        obtain ⟨z, zl, za, zt⟩ := hzz
        obtain ⟨k2, hk2, hc2⟩ := anyR_iff.mp za
        have fz : fpl c (up c.ps z) k = none := fpl_none.mpr fun s hs => by
          cases hc : (cell c s k).isSome with
          | false => rfl
          | true =>
            have e1 := all s (up_le ht zl s hs) hc
            have e2 := lastUp_mem ht _ _ hs
            exact absurd (e2.symm.trans e1) zt
        exact ⟨[z, y], two zl yl, by simp, (mixW_iff _ _ _).mpr ⟨k2, hk2, k, hkk, z, y, lwh_first (fpl_here ht hc2), lwh_pair hk fz (fpl_here ht yc), fun e => zt (e.trans (all y yl yc))⟩⟩
theorem mem_alls {n : Nat} {ws : List Nat} (h : ∀ w ∈ ws, w ≤ n) (hl : ws.length ≤ 2) : ws ∈ alls n 2 := by
  have e1 : alls n 2 = ([[]] ++ ext n [[]]) ++ ext n (ext n [[]]) := rfl
  rw [e1]
  have one : ∀ a, a ≤ n → [a] ∈ ext n [[]] := fun a ha => by
    simp [ext]; omega
  match ws, h, hl with
  | [], _, _ => simp
  | [a], h, _ => exact List.mem_append_left _ (List.mem_append_right _ (one a (h a (by simp))))
  | [a, b], h, _ =>
    refine List.mem_append_right _ ?_
    unfold ext
    rw [List.mem_flatMap]
    exact ⟨[a], one a (h a (by simp)), List.mem_map.mpr ⟨b, List.mem_range.mpr (by have := h b (by simp); omega), rfl⟩⟩
/-- the first mixing list is None just when nothing must be added -/
theorem find_none_iff {c : Cat} (h : CatOk c) (ks : List Nat) : (alls c.ps.length 2).find? (mixW c ks) = none ↔ addE c ks = [] := by
  constructor
  · intro hf
    apply Classical.byContradiction
    intro hz
    obtain ⟨ws, h1, h2, h3⟩ := add_mix h hz
    have := List.find?_eq_none.mp hf ws (mem_alls h1 h2)
    exact this h3
  · intro hz
    rw [List.find?_eq_none]
    intro ws hws hm
    rw [add_zero h hz (alls_ok c.ps.length 2 ws hws).1] at hm
    cases hm

/-! one entry more lessens the need by one at most -/
section
variable (c : Cat) (ks : List Nat)
def gN (x : Nat) : Nat := ((belF c ks (usK c ks)).getD x []).length
def fN (x : Nat) : Nat := (addF c ks (usK c ks) x).length
def LN (x : Nat) : Nat := (lckK c (usK c ks) x).length
end
theorem fN_eq (c : Cat) (ks : List Nat) (x : Nat) : fN c ks x = if (!anyR c ks x && decide (gN c ks x < LN c ks x)) = true then gN c ks x else LN c ks x := by
  unfold fN addF addK gN LN
  split <;> rfl
theorem gN_eq {c : Cat} (ht : TreeOk c.ps) (ks : List Nat) (x : Nat) : gN c ks x = ((dsc c.ps.length).map fun k => if pOf c.ps k = x then fN c ks (lc k) else 0).sum := by
  unfold gN
  rw [bel_spec ht, List.length_flatMap]
  apply congrArg List.sum
  apply List.map_congr_left
  intro k _
  split
  · rfl
  · rfl
theorem dsc_nodup : ∀ n : Nat, (dsc n).Nodup
  | 0 => List.nodup_nil
  | n + 1 => List.nodup_cons.mpr ⟨fun h => by have := dsc_lt n n h; omega, dsc_nodup n⟩
theorem sum_le1 (a b : Nat → Nat) (Q : Nat → Bool) : ∀ L : List Nat, L.Nodup → (∀ k ∈ L, a k ≤ b k + if Q k = true then 1 else 0) → (∀ k1 ∈ L, ∀ k2 ∈ L, Q k1 = true → Q k2 = true → k1 = k2) →
    (L.map a).sum ≤ (L.map b).sum + if L.any Q = true then 1 else 0
  | [], _, _, _ => Nat.zero_le _
  | k :: L, hn, h, hu => by
    obtain ⟨n1, n2⟩ := List.nodup_cons.mp hn
    have ih := sum_le1 a b Q L n2 (fun q hq => h q (List.mem_cons_of_mem _ hq)) fun q hq r hr => hu q (List.mem_cons_of_mem _ hq) r (List.mem_cons_of_mem _ hr)
    have hk := h k (List.mem_cons_self ..)
    rw [List.map_cons, List.map_cons, List.sum_cons, List.sum_cons, List.any_cons]
    cases hQ : Q k with
    | false =>
      rw [hQ] at hk
      simp only [Bool.false_or] at *
      rw [if_neg Bool.false_ne_true] at hk
      omega
    | true =>
      have no : L.any Q = false := by
        rw [List.any_eq_false]
        intro q hq z
        have := hu k (List.mem_cons_self ..) q (List.mem_cons_of_mem _ hq) hQ z
        rw [this] at n1
        exact n1 hq
      rw [no, if_neg Bool.false_ne_true] at ih
      rw [hQ, if_pos rfl] at hk
      rw [Bool.true_or, if_pos rfl]
      omega
theorem up_uniq {ps : List Nat} (ht : TreeOk ps) : ∀ l k1 k2 : Nat, lc k1 ∈ up ps l → lc k2 ∈ up ps l → pOf ps k1 = pOf ps k2 → k1 = k2 := fun l => by
  induction l using Nat.strongRecOn with
  | _ l ih =>
    intro k1 k2 h1 h2 e
    have h1 : k1 + 1 ∈ up ps l := h1
    have h2 : k2 + 1 ∈ up ps l := h2
    have g1 := ht.getD k1
    have g2 := ht.getD k2
    cases l with
    | zero =>
      rw [show up ps 0 = [0] from rfl] at h1
      have := List.mem_singleton.mp h1
      omega
    | succ m =>
      cases hp : pOf ps m with
      | zero =>
        rw [up_zero hp] at h1 h2
        have := List.mem_singleton.mp h1
        have := List.mem_singleton.mp h2
        omega
      | succ p =>
        have gm := ht.getD m
        rw [up_step ht hp] at h1 h2
        have le : ∀ k, k + 1 ∈ up ps (p + 1) → k + 1 ≤ p + 1 := fun k h => upF_mem ht (p + 1) (p + 1) _ h
        rcases List.mem_cons.mp h1 with e1 | e1
        · rcases List.mem_cons.mp h2 with e2 | e2
          · omega
          · have := le k2 e2
            have : k1 = m := by omega
            subst this
            omega
        · rcases List.mem_cons.mp h2 with e2 | e2
          · have := le k1 e1
            have : k2 = m := by omega
            subst this
            omega
          · exact ih (p + 1) (by omega) k1 k2 e1 e2 e
theorem up_par {ps : List Nat} (ht : TreeOk ps) {l k p : Nat} (h : lc k ∈ up ps l) (hp : pOf ps k = p + 1) : p + 1 ∈ up ps l ∧ p + 1 ≠ l := by
  have h : k + 1 ∈ up ps l := h
  have h1 : p + 1 ∈ up ps (k + 1) := by rw [up_step ht hp]; exact List.mem_cons_of_mem _ (up_self _ _)
  refine ⟨up_sub ht h1 _ h, fun e => ?_⟩
  have := upF_mem ht l l _ h
  have := ht.getD k
  omega
/-- d has the texts of c, and perhaps one more -/
structure Put (c d : Cat) (l k : Nat) : Prop where
  ps : d.ps = c.ps
  key : d.key = c.key
  cells : ∀ x j, (cell d x j).isSome = ((cell c x j).isSome || (decide (x = l) && decide (j = k)))
section
variable {c d : Cat} {l k : Nat} {ks : List Nat}
theorem Put.mono (p : Put c d l k) {x j : Nat} (h : (cell c x j).isSome = true) : (cell d x j).isSome = true := by rw [p.cells, h]; rfl
theorem Put.off (p : Put c d l k) {x : Nat} (h : x ≠ l) (j : Nat) : (cell d x j).isSome = (cell c x j).isSome := by rw [p.cells, decide_eq_false h]; simp
theorem Put.any_off (p : Put c d l k) {x : Nat} (h : x ≠ l) : anyR d ks x = anyR c ks x := by
  unfold anyR
  have : (fun j => (cell d x j).isSome) = fun j => (cell c x j).isSome := funext fun j => p.off h j
  rw [this]
theorem Put.any_mono (p : Put c d l k) {x : Nat} (h : anyR c ks x = true) : anyR d ks x = true := by
  obtain ⟨j, h1, h2⟩ := anyR_iff.mp h
  exact anyR_iff.mpr ⟨j, h1, p.mono h2⟩
theorem Put.us (p : Put c d l k) : ∀ j, j ∈ usK c ks → j ∈ usK d ks := fun j hj => by
  cases hk : c.key with
  | true =>
    obtain ⟨h1, x, h2, h3⟩ := (mem_usK_key hk).mp hj
    exact (mem_usK_key (by rw [p.key]; exact hk)).mpr ⟨h1, x, by rw [p.ps]; exact h2, p.mono h3⟩
  | false =>
    obtain ⟨h1, h3⟩ := (mem_usK_bundle hk).mp hj
    exact (mem_usK_bundle (by rw [p.key]; exact hk)).mpr ⟨h1, p.mono h3⟩
theorem isNone_of {α : Type} (o : Option α) : o.isNone = !o.isSome := by cases o <;> rfl
theorem LN_eq (c : Cat) (ks : List Nat) (x : Nat) : LN c ks x = ks.countP fun j => decide (j ∈ usK c ks) && !(cell c x j).isSome := by
  unfold LN lckK
  rw [List.length_map]
  have e : usK c ks = ks.filter fun j => decide (j ∈ usK c ks) := by
    conv => lhs; unfold usK
    split
    · rename_i hk
      apply List.filter_congr
      intro j hj
      rw [Bool.eq_iff_iff, decide_eq_true_eq, mem_usK_key hk, List.any_eq_true]
      exact ⟨fun ⟨x, h1, h2⟩ => ⟨hj, x, by have := List.mem_range.mp h1; omega, h2⟩, fun ⟨_, x, h1, h2⟩ => ⟨x, List.mem_range.mpr (by omega), h2⟩⟩
    · rename_i hk
      apply List.filter_congr
      intro j hj
      rw [Bool.eq_iff_iff, decide_eq_true_eq, mem_usK_bundle (by simpa using hk)]
      exact ⟨fun h => ⟨hj, h⟩, fun h => h.2⟩
  conv => lhs; rw [e]
  rw [List.filter_filter, ← List.countP_eq_length_filter]
  apply List.countP_congr
  intro j _
  simp only [isNone_of, Bool.and_eq_true]
  exact And.comm
theorem countP_one {P Q : Nat → Bool} {k : Nat} : ∀ L : List Nat, L.Nodup → (∀ j ∈ L, j ≠ k → P j = true → Q j = true) → L.countP P ≤ L.countP Q + 1
  | [], _, _ => Nat.zero_le _
  | j :: L, hn, h => by
    obtain ⟨n1, n2⟩ := List.nodup_cons.mp hn
    have h' : ∀ j ∈ L, j ≠ k → P j = true → Q j = true := fun q hq => h q (List.mem_cons_of_mem _ hq)
    by_cases e : j = k
    · have : L.countP P ≤ L.countP Q := by
        refine List.countP_mono_left fun q hq hp => h' q hq (fun z => ?_) hp
        rw [z, ← e] at hq
        exact n1 hq
      rw [List.countP_cons, List.countP_cons]
      split <;> split <;> omega
    · have ih := countP_one L n2 h'
      have hj := h j (List.mem_cons_self ..) e
      rw [List.countP_cons, List.countP_cons]
      by_cases hp : P j = true
      · rw [if_pos hp, if_pos (hj hp)]; omega
      · rw [if_neg hp]; omega
theorem Put.L_off (p : Put c d l k) {x : Nat} (h : x ≠ l) : LN c ks x ≤ LN d ks x := by
  rw [LN_eq, LN_eq]
  refine List.countP_mono_left fun j _ hj => ?_
  rw [Bool.and_eq_true, decide_eq_true_eq] at hj ⊢
  exact ⟨p.us j hj.1, by rw [p.off h]; exact hj.2⟩
theorem Put.L_at (p : Put c d l k) (hn : ks.Nodup) (x : Nat) : LN c ks x ≤ LN d ks x + 1 := by
  rw [LN_eq, LN_eq]
  refine countP_one (k := k) ks hn fun j _ hne hj => ?_
  rw [Bool.and_eq_true, decide_eq_true_eq] at hj ⊢
  refine ⟨p.us j hj.1, ?_⟩
  rw [p.cells, decide_eq_false hne]
  simpa using hj.2
theorem Put.sum (p : Put c d l k) (ht : TreeOk c.ps) (x : Nat) (H : ∀ k', k' < c.ps.length → pOf c.ps k' = x → fN c ks (lc k') ≤ fN d ks (lc k') + if lc k' ∈ up c.ps l then 1 else 0) :
    gN c ks x ≤ gN d ks x + 1 ∧ ((∀ k', pOf c.ps k' = x → lc k' ∉ up c.ps l) → gN c ks x ≤ gN d ks x) := by
  have e1 := gN_eq ht ks x
  have e2 := gN_eq (c := d) (by rw [p.ps]; exact ht) ks x
  rw [p.ps] at e2
  have key := sum_le1 (fun k => if pOf c.ps k = x then fN c ks (lc k) else 0) (fun k => if pOf c.ps k = x then fN d ks (lc k) else 0) (fun k => decide (pOf c.ps k = x ∧ lc k ∈ up c.ps l)) (dsc c.ps.length) (dsc_nodup _) (fun k' hk' => ?_) fun k1 _ k2 _ q1 q2 => ?_
  · rw [← e1, ← e2] at key
    refine ⟨by split at key <;> omega, fun no => ?_⟩
    have : (dsc c.ps.length).any (fun k => decide (pOf c.ps k = x ∧ lc k ∈ up c.ps l)) = false := by
      rw [List.any_eq_false]
      intro k' _ z
      rw [decide_eq_true_eq] at z
      exact no k' z.1 z.2
    rw [this] at key
    exact key
  · by_cases e : pOf c.ps k' = x
    · have := H k' (mem_dsc.mp hk') e
      simp only [e, true_and, decide_eq_true_eq, if_true]
      exact this
    · simp only [e, if_false]
      exact Nat.zero_le _
  · rw [decide_eq_true_eq] at q1 q2
    exact up_uniq ht l k1 k2 q1.2 q2.2 (q1.1.trans q2.1.symm)
theorem Put.f (p : Put c d l k) (ht : TreeOk c.ps) (hn : ks.Nodup) : ∀ m x, c.ps.length - x = m → 0 < x → x ≤ c.ps.length → fN c ks x ≤ fN d ks x + if x ∈ up c.ps l then 1 else 0 := fun m => by
  induction m using Nat.strongRecOn with
  | _ m ih =>
    intro x hm h0 hx
    have H : ∀ k', k' < c.ps.length → pOf c.ps k' = x → fN c ks (lc k') ≤ fN d ks (lc k') + if lc k' ∈ up c.ps l then 1 else 0 := fun k' hk' e => by
      have := ht.getD k'
      exact ih (c.ps.length - lc k') (by show c.ps.length - (k' + 1) < m; omega) (lc k') rfl (by show 0 < k' + 1; omega) (by show k' + 1 ≤ _; omega)
    obtain ⟨s1, s2⟩ := p.sum ht x H
    have f1 := fN_eq c ks x
    have f2 := fN_eq d ks x
    obtain ⟨q, rfl⟩ : ∃ q, x = q + 1 := ⟨x - 1, by omega⟩
    by_cases hl : q + 1 = l
    · have no : ∀ k', pOf c.ps k' = q + 1 → lc k' ∉ up c.ps l := fun k' e z => (up_par ht z e).2 hl
      have s3 := s2 no
      have L1 := p.L_at hn (q + 1)
      have am := p.any_mono (ks := ks) (x := q + 1)
      rw [if_pos (by rw [hl]; exact up_self _ _)]
      generalize anyR c ks (q + 1) = ac at *
      generalize anyR d ks (q + 1) = ad at *
      cases ad with
      | true =>
        simp only [Bool.not_true, Bool.false_and, Bool.false_eq_true, if_false] at f2
        split at f1
        · rename_i hc
          rw [Bool.and_eq_true, decide_eq_true_eq] at hc
          omega
        · omega
      | false =>
        cases ac with
        | true => exact absurd (am rfl) Bool.false_ne_true
        | false =>
          simp only [Bool.not_false, Bool.true_and, decide_eq_true_eq] at f1 f2
          split at f1 <;> split at f2 <;> omega
    · have La := p.L_off (ks := ks) hl
      have aa := p.any_off (ks := ks) hl
      rw [aa] at f2
      by_cases hu : q + 1 ∈ up c.ps l
      · rw [if_pos hu]
        split at f1 <;> split at f2 <;> rename_i g1 g2 <;> simp only [Bool.and_eq_true, decide_eq_true_eq, not_and, Bool.not_eq_true'] at g1 g2 <;> first | omega | (have := g2 g1.1; omega) | (have := g1 g2.1; omega)
      · have s3 := s2 fun k' e z => hu (up_par ht z e).1
        rw [if_neg hu]
        split at f1 <;> split at f2 <;> rename_i g1 g2 <;> simp only [Bool.and_eq_true, decide_eq_true_eq, not_and, Bool.not_eq_true'] at g1 g2 <;> first | omega | (have := g2 g1.1; omega) | (have := g1 g2.1; omega)
theorem add_len (c : Cat) (ks : List Nat) : (addE c ks).length = if c.key = true then (if oneT c ks = true then 0 else (if anyR c ks 0 = true then gN c ks 0 + LN c ks 0 else gN c ks 0)) else gN c ks 0 := by
  unfold addE gN LN
  split
  · split
    · rfl
    · split
      · rw [List.length_append]
      · rfl
  · rfl
/-- THE step -/
theorem Put.add (p : Put c d l k) (ht : TreeOk c.ps) (hn : ks.Nodup) : (addE c ks).length ≤ (addE d ks).length + 1 := by
  have H : ∀ k', k' < c.ps.length → pOf c.ps k' = 0 → fN c ks (lc k') ≤ fN d ks (lc k') + if lc k' ∈ up c.ps l then 1 else 0 := fun k' hk' _ => p.f ht hn _ (lc k') rfl (by show 0 < k' + 1; omega) (by show k' + 1 ≤ _; omega)
  obtain ⟨s1, s2⟩ := p.sum ht 0 H
  rw [add_len, add_len, p.key]
  cases hk : c.key with
  | false => exact s1
  | true =>
    rw [if_pos rfl, if_pos rfl]
    cases h1 : oneT c ks with
    | true => exact Nat.zero_le _
    | false =>
      have h2 : oneT d ks = false := by
        cases h2 : oneT d ks with
        | false => rfl
        | true =>
          rw [oneT_iff, p.ps] at h2
          rw [oneT_iff.mpr fun x y hx hy ax ay => h2 x y hx hy (p.any_mono ax) (p.any_mono ay)] at h1
          cases h1
      rw [h2, if_neg Bool.false_ne_true, if_neg Bool.false_ne_true]
      by_cases hl : l = 0
      · have s3 := s2 fun k' _ z => by
          rw [hl, show up c.ps 0 = [0] from rfl] at z
          have : k' + 1 = 0 := List.mem_singleton.mp z
          omega
        have L1 := p.L_at hn 0
        have am := p.any_mono (ks := ks) (x := 0)
        cases ha : anyR c ks 0 with
        | false => rw [if_neg Bool.false_ne_true]; split <;> omega
        | true => rw [am ha, if_pos rfl, if_pos rfl]; omega
      · have aa := p.any_off (ks := ks) (x := 0) (fun z => hl z.symm)
        have L1 := p.L_off (ks := ks) (x := 0) (fun z => hl z.symm)
        rw [aa]
        split <;> omega
end

/-! pages by pairs -/
def prs : List Nat → List (List Nat)
  | [] => []
  | k :: t => (t.map fun s => [k, s]) ++ prs t
theorem prs_ok : ∀ {ks : List Nat}, ks.Pairwise (· < ·) → ∀ p ∈ prs ks, ∃ a b, p = [a, b] ∧ a ∈ ks ∧ b ∈ ks ∧ a < b
  | [], _, p, h => by cases h
  | k :: t, asc, p, h => by
    obtain ⟨h1, h2⟩ := List.pairwise_cons.mp asc
    rcases List.mem_append.mp h with g | g
    · obtain ⟨s, hs, rfl⟩ := List.mem_map.mp g
      exact ⟨k, s, rfl, List.mem_cons_self .., List.mem_cons_of_mem _ hs, h1 s hs⟩
    · obtain ⟨a, b, e, m1, m2, lt⟩ := prs_ok h2 p g
      exact ⟨a, b, e, List.mem_cons_of_mem _ m1, List.mem_cons_of_mem _ m2, lt⟩
theorem prs_of : ∀ {ks : List Nat}, ks.Pairwise (· < ·) → ∀ {a b : Nat}, a ∈ ks → b ∈ ks → a < b → [a, b] ∈ prs ks
  | [], _, a, b, h, _, _ => by cases h
  | k :: t, asc, a, b, ha, hb, lt => by
    obtain ⟨h1, h2⟩ := List.pairwise_cons.mp asc
    rcases List.mem_cons.mp ha with e | ha
    · subst e
      rcases List.mem_cons.mp hb with e | hb
      · omega
      · exact List.mem_append.mpr (.inl (List.mem_map.mpr ⟨b, hb, rfl⟩))
    · rcases List.mem_cons.mp hb with e | hb
      · have := h1 a ha; omega
      · exact List.mem_append.mpr (.inr (prs_of h2 ha hb lt))
/-- a page mixes just when a pair of its keys does -/
theorem mix_pairs (c : Cat) {ks : List Nat} (asc : ks.Pairwise (· < ·)) (ws : List Nat) : mixW c ks ws = (prs ks).any fun p => mixW c p ws := by
  rw [Bool.eq_iff_iff, List.any_eq_true]
  constructor
  · intro h
    obtain ⟨k1, m1, k2, m2, p1, p2, e1, e2, ne⟩ := (mixW_iff c ks ws).mp h
    rcases Nat.lt_trichotomy k1 k2 with lt | eq | lt
    · exact ⟨_, prs_of asc m1 m2 lt, (mixW_iff ..).mpr ⟨k1, by simp, k2, by simp, p1, p2, e1, e2, ne⟩⟩
    · subst eq
      rw [e1] at e2
      cases e2
      exact absurd rfl ne
    · exact ⟨_, prs_of asc m2 m1 lt, (mixW_iff ..).mpr ⟨k1, by simp, k2, by simp, p1, p2, e1, e2, ne⟩⟩
  · rintro ⟨p, hp, h⟩
    obtain ⟨a, b, rfl, m1, m2, _⟩ := prs_ok asc p hp
    obtain ⟨k1, n1, k2, n2, p1, p2, e1, e2, ne⟩ := (mixW_iff ..).mp h
    have sub : ∀ k ∈ [a, b], k ∈ ks := fun k hk => by
      simp only [List.mem_cons, List.not_mem_nil, or_false] at hk
      rcases hk with rfl | rfl
      · exact m1
      · exact m2
    exact (mixW_iff ..).mpr ⟨k1, sub k1 n1, k2, sub k2 n2, p1, p2, e1, e2, ne⟩
/-! the least rank -/
def rkN (ws : List Nat) : Int × List Int := ((ws.length : Int), ws.map fun (n : Nat) => (n : Int))
/-- the list stands in the sequence of the ranks -/
def InRank (L : List (List Nat)) : Prop := L.Pairwise fun a b => rkLt (rkN a) (rkN b) = true ∧ rkLt (rkN b) (rkN a) = false
theorem rank_sub {L M : List (List Nat)} (s : M.Sublist L) (h : InRank L) : InRank M := h.sublist s
/-- the better one of two -/
def bst2 : Option (List Nat) → Option (List Nat) → Option (List Nat)
  | none, y => y
  | some x, none => some x
  | some x, some y => if rkLt (rkN y) (rkN x) = true then some y else some x
theorem find_or (p q : List Nat → Bool) : ∀ {L : List (List Nat)}, InRank L → L.find? (fun x => p x || q x) = bst2 (L.find? p) (L.find? q)
  | [], _ => rfl
  | a :: L, h => by
    obtain ⟨h1, h2⟩ := List.pairwise_cons.mp h
    have ih := find_or p q h2
    cases hp : p a with
    | true =>
      simp only [List.find?_cons, hp, Bool.true_or]
      cases hq : q a with
      | true =>
        simp only [bst2]
        split <;> rfl
      | false =>
        simp only []
        cases hf : L.find? q with
        | none => rfl
        | some y =>
          have := (h1 y (List.mem_of_find?_eq_some hf)).2
          simp only [bst2, this, Bool.false_eq_true, if_false]
    | false =>
      cases hq : q a with
      | true =>
        simp only [List.find?_cons, hp, hq, Bool.false_or]
        cases hf : L.find? p with
        | none => rfl
        | some x =>
          have := (h1 x (List.mem_of_find?_eq_some hf)).1
          simp only [bst2, this, if_true]
      | false =>
        simp only [List.find?_cons, hp, hq, Bool.or_false]
        exact ih
theorem find_any {L : List (List Nat)} (h : InRank L) (f : List Nat → List Nat → Bool) : ∀ (ps : List (List Nat)) (g : List Nat → Bool), L.find? (fun x => g x || ps.any fun p => f p x) = (ps.map fun p => L.find? (f p)).foldl bst2 (L.find? g)
  | [], g => by simp
  | p :: ps, g => by
    have ih := find_any h f ps fun x => g x || f p x
    have e := find_or g (f p) h
    rw [e] at ih
    rw [List.map_cons, List.foldl_cons, ← ih]
    congr 1
    funext x
    rw [List.any_cons, Bool.or_assoc]
theorem fold_best : ∀ (os : List (Option (List Nat))) (x : List Nat), ∃ z, os.foldl bst2 (some x) = some z ∧ leastR (rkN x) ((os.filterMap id).map rkN) = rkN z
  | [], x => ⟨x, rfl, rfl⟩
  | none :: os, x => by
    obtain ⟨z, h1, h2⟩ := fold_best os x
    exact ⟨z, h1, h2⟩
  | some y :: os, x => by
    by_cases c : rkLt (rkN y) (rkN x) = true
    · obtain ⟨z, h1, h2⟩ := fold_best os y
      refine ⟨z, ?_, ?_⟩
      · rw [List.foldl_cons, bst2, if_pos c]; exact h1
      · have e : (some y :: os).filterMap id = y :: os.filterMap id := rfl
        rw [e, List.map_cons, leastR, List.foldl_cons, if_pos c]; exact h2
    · obtain ⟨z, h1, h2⟩ := fold_best os x
      refine ⟨z, ?_, ?_⟩
      · rw [List.foldl_cons, bst2, if_neg c]; exact h1
      · have e : (some y :: os).filterMap id = y :: os.filterMap id := rfl
        rw [e, List.map_cons, leastR, List.foldl_cons, if_neg c]; exact h2
/-- none of them, or the one with the least rank -/
theorem fold_least : ∀ (os : List (Option (List Nat))), (os.filterMap id = [] ∧ os.foldl bst2 none = none) ∨ ∃ x xs z, os.filterMap id = x :: xs ∧ os.foldl bst2 none = some z ∧ leastR (rkN x) (xs.map rkN) = rkN z
  | [] => .inl ⟨rfl, rfl⟩
  | none :: os => by
    have e : (none :: os).filterMap id = os.filterMap id := rfl
    have e2 : (none :: os).foldl bst2 none = os.foldl bst2 none := rfl
    rw [e, e2]
    exact fold_least os
  | some y :: os => by
    obtain ⟨z, h1, h2⟩ := fold_best os y
    exact .inr ⟨y, os.filterMap id, z, rfl, h1, h2⟩

theorem alls_rank : ∀ m ≤ 9, InRank (alls m 2) := by
  unfold InRank
  decide +kernel

theorem sum_mono {f g : Nat → Nat} : ∀ {L : List Nat}, (∀ k ∈ L, f k ≤ g k) → (L.map f).sum ≤ (L.map g).sum
  | [], _ => Nat.le_refl _
  | k :: L, h => by
    have h1 := h k (List.mem_cons_self ..)
    have ih := sum_mono (L := L) fun x hx => h x (List.mem_cons_of_mem _ hx)
    simp only [List.map_cons, List.sum_cons]
    omega
theorem need_mono {c d : Cat} {ks js : List Nat} (hc : TreeOk c.ps) (hp : d.ps = c.ps) (A : ∀ l, l ≤ c.ps.length → anyR d js l = true → anyR c ks l = true) (B : ∀ l, l ≤ c.ps.length → LN d js l ≤ LN c ks l) : ∀ m x, c.ps.length - x ≤ m → x ≤ c.ps.length → gN d js x ≤ gN c ks x ∧ fN d js x ≤ fN c ks x := fun m => by
  have hd : TreeOk d.ps := by rw [hp]; exact hc
  have step : ∀ x, x ≤ c.ps.length → gN d js x ≤ gN c ks x → fN d js x ≤ fN c ks x := fun x hx hg => by
    have b := B x hx
    rw [fN_eq, fN_eq]
    cases a1 : anyR d js x with
    | true =>
      rw [A x hx a1]
      simp only [Bool.not_true, Bool.false_and, Bool.false_eq_true, if_false]
      exact b
    | false =>
      simp only [Bool.not_false, Bool.true_and, decide_eq_true_eq]
      cases a2 : anyR c ks x with
      | true =>
        simp only [Bool.not_true, Bool.false_and, Bool.false_eq_true, if_false]
        split <;> omega
      | false =>
        simp only [Bool.not_false, Bool.true_and, decide_eq_true_eq]
        split <;> split <;> omega
  induction m with
  | zero =>
    intro x h1 h2
    have hx : x = c.ps.length := by omega
    have g : gN d js x ≤ gN c ks x := by
      rw [gN_eq hd, gN_eq hc, hp]
      refine sum_mono fun k hk => ?_
      have hk := mem_dsc.mp hk
      have hpl := hc.getD k
      by_cases e : pOf c.ps k = x
      · omega
      · rw [if_neg e, if_neg e]; exact Nat.le_refl _
    exact ⟨g, step x h2 g⟩
  | succ m ih =>
    intro x h1 h2
    have g : gN d js x ≤ gN c ks x := by
      rw [gN_eq hd, gN_eq hc, hp]
      refine sum_mono fun k hk => ?_
      have hk := mem_dsc.mp hk
      have hpl := hc.getD k
      by_cases e : pOf c.ps k = x
      · rw [if_pos e, if_pos e]
        have hl : lc k = k + 1 := rfl
        rw [hl]
        exact (ih (k + 1) (by omega) (by omega)).2
      · rw [if_neg e, if_neg e]; exact Nat.le_refl _
    exact ⟨g, step x h2 g⟩
theorem add_mono {c d : Cat} {ks js : List Nat} (hc : TreeOk c.ps) (hp : d.ps = c.ps) (hk : d.key = c.key) (A : ∀ l, l ≤ c.ps.length → anyR d js l = true → anyR c ks l = true) (B : ∀ l, l ≤ c.ps.length → LN d js l ≤ LN c ks l) : (addE d js).length ≤ (addE c ks).length := by
  have g := (need_mono hc hp A B c.ps.length 0 (by omega) (Nat.zero_le _)).1
  have b := B 0 (Nat.zero_le _)
  rw [add_len, add_len, hk]
  cases c.key with
  | false => simpa using g
  | true =>
    simp only [if_true]
    by_cases o : oneT c ks = true
    · have o2 : oneT d js = true := oneT_iff.mpr fun x y hx hy ax ay => by
        rw [hp] at hx hy ⊢
        exact oneT_iff.mp o x y hx hy (A x hx ax) (A y hy ay)
      rw [if_pos o, if_pos o2]
      exact Nat.le_refl _
    · rw [if_neg o]
      by_cases o2 : oneT d js = true
      · rw [if_pos o2]; exact Nat.zero_le _
      · rw [if_neg o2]
        cases a1 : anyR d js 0 with
        | true =>
          rw [A 0 (Nat.zero_le _) a1]
          simp only [if_true]
          omega
        | false =>
          simp only [Bool.false_eq_true, if_false]
          split <;> omega
/-- whether a key counts, without the page -/
def cndK (c : Cat) (k : Nat) : Bool := if c.key = true then (List.range (c.ps.length + 1)).any fun l => (cell c l k).isSome else (cell c 0 k).isSome
theorem usK_cnd (c : Cat) (ks : List Nat) : usK c ks = ks.filter (cndK c) := by
  unfold usK cndK
  split <;> rfl
theorem LN_cnt (c : Cat) (ks : List Nat) (x : Nat) : LN c ks x = ks.countP fun j => cndK c j && !(cell c x j).isSome := by
  unfold LN lckK
  rw [List.length_map, usK_cnd, List.filter_filter, List.countP_eq_length_filter]
  congr 1
  apply List.filter_congr
  intro j _
  cases cell c x j <;> cases cndK c j <;> rfl
theorem add_sub {c : Cat} (hc : TreeOk c.ps) {ks js : List Nat} (s : js.Sublist ks) : (addE c js).length ≤ (addE c ks).length := by
  refine add_mono hc rfl rfl (fun l _ h => ?_) fun l _ => ?_
  · obtain ⟨k, hk, h⟩ := anyR_iff.mp h
    exact anyR_iff.mpr ⟨k, s.subset hk, h⟩
  · rw [LN_cnt, LN_cnt]
    exact s.countP_le

/-! keys exchanged, texts turned -/
/-- the two catalogs stand for each other, key by key -/
structure Moved (c d : Cat) (g : Nat → Nat) : Prop where
  ok : CatOk d
  ps : d.ps = c.ps
  key : d.key = c.key
  w : d.w = c.w
  lt : ∀ k, k < c.w → g k < c.w
  inj : ∀ j k, j < c.w → k < c.w → g j = g k → j = k
  sur : ∀ j, j < c.w → ∃ k, k < c.w ∧ g k = j
  cell : ∀ l k, l ≤ c.ps.length → k < c.w → (cell d l (g k)).isSome = (cell c l k).isSome
theorem has_iff {c : Cat} (h : CatOk c) {l : Nat} (hl : l ≤ c.ps.length) : rowHas (row c l) = true ↔ ∃ k, k < c.w ∧ (cell c l k).isSome = true := by
  have e := row_len h hl
  rw [rowHas, List.any_eq_true]
  constructor
  · rintro ⟨o, ho, hs⟩
    obtain ⟨k, hk⟩ := List.mem_iff_getElem?.mp ho
    have hkl := (List.getElem?_eq_some_iff.mp hk).1
    refine ⟨k, by omega, ?_⟩
    unfold cell List.getD
    rw [hk]
    exact hs
  · rintro ⟨k, hk, hs⟩
    have hk2 : (row c l)[k]? = some ((row c l)[k]'(by omega)) := List.getElem?_eq_getElem (by omega)
    refine ⟨(row c l)[k]'(by omega), List.getElem_mem _, ?_⟩
    unfold cell List.getD at hs
    rw [hk2] at hs
    exact hs
theorem Moved.held {c d : Cat} {g : Nat → Nat} (h : CatOk c) (m : Moved c d g) {l : Nat} (hl : l ≤ c.ps.length) : held d l = held c l := by
  have e : ∀ s ∈ up c.ps l, rowHas (row d s) = rowHas (row c s) := fun s hs => by
    have hs2 := up_le h.tree hl s hs
    rw [Bool.eq_iff_iff, has_iff m.ok (by rw [m.ps]; exact hs2), has_iff h hs2]
    constructor
    · rintro ⟨j, hj, hc⟩
      rw [m.w] at hj
      obtain ⟨k, hk, rfl⟩ := m.sur j hj
      exact ⟨k, hk, by rw [← m.cell s k hs2 hk]; exact hc⟩
    · rintro ⟨k, hk, hc⟩
      exact ⟨g k, by rw [m.w]; exact m.lt k hk, by rw [m.cell s k hs2 hk]; exact hc⟩
  unfold My.held
  rw [m.ps, Bool.eq_iff_iff, List.any_eq_true, List.any_eq_true]
  constructor
  · rintro ⟨s, hs, hc⟩
    exact ⟨s, hs, by rw [← e s hs]; exact hc⟩
  · rintro ⟨s, hs, hc⟩
    exact ⟨s, hs, by rw [e s hs]; exact hc⟩
theorem Moved.fpl {c d : Cat} {g : Nat → Nat} (m : Moved c d g) {k : Nat} (hk : k < c.w) : ∀ {ls : List Nat}, (∀ l ∈ ls, l ≤ c.ps.length) → fpl d ls (g k) = fpl c ls k
  | [], _ => rfl
  | l :: ls, hl => by
    have e := m.cell l k (hl l (List.mem_cons_self ..)) hk
    have ih := Moved.fpl m hk (ls := ls) fun x hx => hl x (List.mem_cons_of_mem _ hx)
    unfold My.fpl at ih ⊢
    rw [List.find?_cons, List.find?_cons, e, ih]
theorem Moved.lwh {c d : Cat} {g : Nat → Nat} (h : CatOk c) (m : Moved c d g) {k : Nat} (hk : k < c.w) : ∀ {ws : List Nat}, (∀ w ∈ ws, w ≤ c.ps.length) → lwh d (g k) ws = lwh c k ws := by
  have r : rootp d (g k) = rootp c k := by
    unfold rootp
    rw [m.cell 0 k (Nat.zero_le _) hk]
  intro ws
  induction ws with
  | nil => exact fun _ => r
  | cons w ws ih =>
    intro hw
    have h1 := hw w (List.mem_cons_self ..)
    have e := m.fpl hk (ls := up c.ps w) (up_le h.tree h1)
    have ih := ih fun x hx => hw x (List.mem_cons_of_mem _ hx)
    simp only [My.lwh]
    rw [m.ps, e, m.key, m.held h h1, r, ih]
theorem Moved.mix {c d : Cat} {g : Nat → Nat} (h : CatOk c) (m : Moved c d g) {ks js : List Nat} (hk : ∀ k ∈ ks, k < c.w) (hj : ∀ j, j ∈ js ↔ ∃ k ∈ ks, g k = j) {ws : List Nat} (hw : ∀ w ∈ ws, w ≤ c.ps.length) : mixW d js ws = mixW c ks ws := by
  rw [Bool.eq_iff_iff, mixW_iff, mixW_iff]
  constructor
  · rintro ⟨j1, n1, j2, n2, p1, p2, e1, e2, ne⟩
    obtain ⟨k1, m1, rfl⟩ := (hj j1).mp n1
    obtain ⟨k2, m2, rfl⟩ := (hj j2).mp n2
    rw [m.lwh h (hk k1 m1) hw] at e1
    rw [m.lwh h (hk k2 m2) hw] at e2
    rw [m.ps] at ne
    exact ⟨k1, m1, k2, m2, p1, p2, e1, e2, ne⟩
  · rintro ⟨k1, m1, k2, m2, p1, p2, e1, e2, ne⟩
    exact ⟨g k1, (hj _).mpr ⟨k1, m1, rfl⟩, g k2, (hj _).mpr ⟨k2, m2, rfl⟩, p1, p2, by rw [m.lwh h (hk k1 m1) hw]; exact e1, by rw [m.lwh h (hk k2 m2) hw]; exact e2, by rw [m.ps]; exact ne⟩
theorem Moved.cnd {c d : Cat} {g : Nat → Nat} (m : Moved c d g) {k : Nat} (hk : k < c.w) : cndK d (g k) = cndK c k := by
  unfold cndK
  rw [m.key, m.ps, m.cell 0 k (Nat.zero_le _) hk]
  have e : ((List.range (c.ps.length + 1)).any fun l => (My.cell d l (g k)).isSome) = (List.range (c.ps.length + 1)).any fun l => (My.cell c l k).isSome := by
    rw [Bool.eq_iff_iff, List.any_eq_true, List.any_eq_true]
    constructor
    · rintro ⟨l, hl, hc⟩
      have := List.mem_range.mp hl
      exact ⟨l, hl, by rw [← m.cell l k (by omega) hk]; exact hc⟩
    · rintro ⟨l, hl, hc⟩
      have := List.mem_range.mp hl
      exact ⟨l, hl, by rw [m.cell l k (by omega) hk]; exact hc⟩
  rw [e]
theorem Moved.add {c d : Cat} {g : Nat → Nat} (h : CatOk c) (m : Moved c d g) {ks js : List Nat} (hk : ∀ k ∈ ks, k < c.w) (hp : js.Perm (ks.map g)) : (addE d js).length = (addE c ks).length := by
  have ht := h.tree
  have hL : ∀ l, l ≤ c.ps.length → LN d js l = LN c ks l := fun l hl => by
    rw [LN_cnt, LN_cnt, hp.countP_eq, List.countP_map]
    apply List.countP_congr
    intro k hkk
    have hkw := hk k hkk
    show (cndK d (g k) && !(My.cell d l (g k)).isSome) = true ↔ _
    rw [m.cnd hkw, m.cell l k hl hkw]
  have hA : ∀ l, l ≤ c.ps.length → (anyR d js l = true ↔ anyR c ks l = true) := fun l hl => by
    rw [anyR_iff, anyR_iff]
    constructor
    · rintro ⟨j, hj, hc⟩
      obtain ⟨k, hkk, rfl⟩ := List.mem_map.mp (hp.mem_iff.mp hj)
      exact ⟨k, hkk, by rw [← m.cell l k hl (hk k hkk)]; exact hc⟩
    · rintro ⟨k, hkk, hc⟩
      exact ⟨g k, hp.mem_iff.mpr (List.mem_map_of_mem hkk), by rw [m.cell l k hl (hk k hkk)]; exact hc⟩
  have u := add_mono ht m.ps m.key (fun l hl => (hA l hl).mp) (fun l hl => Nat.le_of_eq (hL l hl))
  have v := add_mono (c := d) (d := c) (ks := js) (js := ks) (by rw [m.ps]; exact ht) m.ps.symm m.key.symm (fun l hl => (hA l (by rw [← m.ps]; exact hl)).mpr) (fun l hl => Nat.le_of_eq (hL l (by rw [← m.ps]; exact hl)).symm)
  omega

theorem cut_after (ks : List Nat) (j : Nat) : DL.cutD (dNats ks) (some ((j : Int) + 1)) none = dNats (ks.drop (j + 1)) := by
  unfold DL.cutD
  rw [HT.sIx_none, show ((j : Int) + 1) = ((j + 1 : Nat) : Int) by omega, HT.sIx_nat]
  have e : (dNats ks).length = ks.length := dNats_len ks
  have e2 : dNats (ks.drop (j + 1)) = (dNats ks).drop (j + 1) := by simp [dNats, List.map_drop]
  rw [e2]
  by_cases h : j + 1 ≤ (dNats ks).length
  · rw [Nat.min_eq_left h]
    exact List.take_of_length_le (by rw [List.length_drop]; exact Nat.le_refl _)
  · rw [Nat.min_eq_right (by omega), Nat.sub_self, List.take_zero, List.drop_of_length_le (by omega)]
theorem cut_ahead (ks : List Nat) (j : Nat) (h : j ≤ ks.length) : DL.cutD (dNats ks) none (some (j : Int)) = dNats (ks.take j) := by
  unfold DL.cutD
  rw [HT.sIx_none, HT.sIx_nat, List.drop_zero, Nat.sub_zero, dNats_len, Nat.min_eq_left h]
  simp [dNats, List.map_take]
theorem prs_drop {ks : List Nat} {j k : Nat} (h : ks[j]? = some k) : prs (ks.drop j) = ((ks.drop (j + 1)).map fun s => [k, s]) ++ prs (ks.drop (j + 1)) := by
  have hj := (List.getElem?_eq_some_iff.mp h).1
  have e : ks.drop j = k :: ks.drop (j + 1) := by
    rw [List.drop_eq_getElem_cons hj]
    congr 1
    exact (List.getElem?_eq_some_iff.mp h).2
  rw [e]
  rfl
theorem pairs_of_eq {ks : List Nat} (hl : ks.length ≤ 4) : f__law_pairs_of [⟨.shr, .tup (dNats ks)⟩] = .ok ⟨.own, .lst ((prs ks).map tupN)⟩ .non := by
  have hz0 : 0 ≤ sizeLine := Nat.zero_le _
  have hz2 : 2 ≤ sizeLine := by rw [sizeLine_eq]; omega
  have l0 := dNats_len ks
  have r1 := rng1_eq (sm62 (by omega) (by omega) : small62 (ks.length : Int) = true)
  refine def_eq rfl ?_
  simp [m__law_pairs_of, hz0, l0, r1]
  refine fin_for (fun j env => ∃ acc e2 e3, env = [some ⟨.shr, .tup (dNats ks)⟩, some ⟨.own, .lst (acc.map tupN)⟩, e2, e3] ∧ acc ++ prs (ks.drop j) = prs ks ∧ acc.length ≤ 4 * j) ⟨[], _, _, rfl, rfl, by show 0 ≤ _; omega⟩ (fun j x env hj hI => ?_) fun env hI => ?_
  · obtain ⟨acc, e2, e3, rfl, h1, h2⟩ := hI
    rw [rngD_get] at hj
    split at hj
    · rename_i hjn
      have hjn : j < ks.length := by simpa using hjn
      cases hj
      obtain ⟨k, hk⟩ : ∃ k, ks[j]? = some k := ⟨_, List.getElem?_eq_getElem hjn⟩
      rw [prs_drop hk] at h1
      have ix : atI (dNats ks) (j : Int) = some (.int (k : Nat)) := by rw [DL.atI_nat, dNats_get, hk]; rfl
      have cu := cut_after ks j
      have ldr : (ks.drop (j + 1)).length ≤ 4 := by rw [List.length_drop]; omega
      have ez : (0 : Int) + (j : Int) = (j : Int) := by omega
      have eL : ((ks.drop (j + 1)).map fun (s : Nat) => D.tup [.int (k : Nat), .int (s : Nat)]) = ((ks.drop (j + 1)).map fun s => [k, s]).map tupN := by
        rw [List.map_map]
        rfl
      have hzl : (acc.map tupN).length + (((ks.drop (j + 1)).map fun s => [k, s]).map tupN).length ≤ sizeLine := by
        rw [List.length_map, List.length_map, List.length_map, sizeLine_eq]
        omega
      have eA : acc.map tupN ++ ((ks.drop (j + 1)).map fun s => [k, s]).map tupN = (acc ++ (ks.drop (j + 1)).map fun s => [k, s]).map tupN := by rw [List.map_append]
      have fin : ∃ a2, (acc ++ (ks.drop (j + 1)).map fun s => [k, s]).map tupN = List.map tupN a2 ∧ a2 ++ prs (ks.drop (j + 1)) = prs ks ∧ a2.length ≤ 4 * (j + 1) := ⟨_, rfl, by rw [List.append_assoc]; exact h1, by rw [List.length_append, List.length_map]; omega⟩
      refine ⟨_, rfl, ?_⟩
      refine Fin.mono (P := fun fl e => fl = Fl.nx ∧ ∃ e3, e = [some ⟨.shr, .tup (dNats ks)⟩, some ⟨.own, .lst ((acc ++ (ks.drop (j + 1)).map fun s => [k, s]).map tupN)⟩, some ⟨.shr, .int (j : Int)⟩, e3]) ?_ ?_
      · rw [ez]
        generalize hT1 : acc.map tupN = T1 at eA hzl
        generalize hT3 : (acc ++ (ks.drop (j + 1)).map fun s => [k, s]).map tupN = T3 at eA
        simp
        refine fin_compN (α := Nat) [some ⟨.shr, .tup (dNats ks)⟩, some ⟨.own, .lst T1⟩, some ⟨.shr, .int (j : Int)⟩, e3] (fun i => D.int (i : Nat)) (fun s => D.tup [.int (k : Nat), .int (s : Nat)]) (ks.drop (j + 1)) (by simp [cu]; simp [dNats]) (by rw [sizeLine_eq]; omega) (fun y hy => ?_) ?_
        · exact ⟨_, rfl, by simp [ix, hz2]⟩
        · rw [eL]
          generalize ((ks.drop (j + 1)).map fun s => [k, s]).map tupN = T2 at eA hzl
          simp [hzl, eA]
      · rintro _ _ ⟨rfl, e3, rfl⟩
        obtain ⟨a2, f1, f2, f3⟩ := fin
        rw [f1]
        exact ⟨trivial, a2, _, _, rfl, f2, f3⟩
    · cases hj
  · obtain ⟨acc, e2, e3, rfl, h1, h2⟩ := hI
    rw [rngD_len] at h1
    have e : ks.drop ks.length = [] := List.drop_length
    have h1 : acc ++ prs (ks.drop ks.length) = prs ks := by simpa using h1
    rw [e] at h1
    have h1 : acc ++ [] = prs ks := h1
    rw [List.append_nil] at h1
    rw [h1]
    simp

theorem page_less {w : Nat} {ks : List Nat} (hp : PageOk w ks) (j : Nat) (h0 : ks.take j ++ ks.drop (j + 1) ≠ []) : PageOk w (ks.take j ++ ks.drop (j + 1)) ∧ (ks.take j ++ ks.drop (j + 1)).Sublist ks := by
  have s : (ks.take j ++ ks.drop (j + 1)).Sublist ks := by
    have e := List.take_append_drop j ks
    conv => rhs; rw [← e]
    refine List.Sublist.append (List.Sublist.refl _) ?_
    rw [← List.drop_drop]
    exact List.drop_sublist _ _
  exact ⟨⟨h0, hp.asc.sublist s, fun k hk => hp.lt k (s.subset hk), Nat.le_trans s.length_le hp.len⟩, s⟩
theorem page_one {w k : Nat} (hk : k < w) : PageOk w [k] := ⟨List.cons_ne_nil _ _, List.pairwise_singleton _ _, fun x hx => by rw [List.mem_singleton.mp hx]; exact hk, by show 1 ≤ 4; omega⟩
theorem mix_one (c : Cat) (k : Nat) (ws : List Nat) : mixW c [k] ws = false := by
  cases hm : mixW c [k] ws with
  | false => rfl
  | true =>
    obtain ⟨k1, n1, k2, n2, p1, p2, e1, e2, ne⟩ := (mixW_iff ..).mp hm
    rw [List.mem_singleton.mp n1] at e1
    rw [List.mem_singleton.mp n2] at e2
    rw [e1] at e2
    cases e2
    exact absurd rfl ne
theorem one_zero {c : Cat} (h : CatOk c) (k : Nat) : addE c [k] = [] := by
  apply Classical.byContradiction
  intro z
  obtain ⟨ws, _, _, m⟩ := add_mix h z
  rw [mix_one] at m
  cases m
theorem mixing_one {c : Cat} (h : CatOk c) {k : Nat} (hk : k < c.w) : f_mixing [⟨.shr, catD c⟩, ⟨.shr, .tup [.int (k : Nat)]⟩] = .ok ⟨.shr, .non⟩ .non := by
  have q := mixing_eq h (page_one hk)
  have e : (shrt c.ps (if c.key = true then 2 else 1)).find? (mixW c [k]) = none := List.find?_eq_none.mpr fun ws _ => by rw [mix_one]; exact Bool.false_ne_true
  rw [e] at q
  exact q
theorem fewest_one {c : Cat} (h : CatOk c) {k : Nat} (hk : k < c.w) : f_fewest_added [⟨.shr, catD c⟩, ⟨.shr, .tup [.int (k : Nat)]⟩] = .ok ⟨.shr, .int 0⟩ .non := by
  have q := fewest_added_eq h (page_one hk)
  rw [one_zero h k] at q
  exact q
theorem less_fit_eq {c : Cat} (h : CatOk c) {ks : List Nat} (hp : PageOk c.w ks) : f__law_less_pages_fit [⟨.shr, catD c⟩, ⟨.shr, .tup (dNats ks)⟩] = .ok ⟨.shr, .bl true⟩ .non := by
  have hl := hp.len
  have hz1 : 1 ≤ sizeLine := by rw [sizeLine_eq]; omega
  have l0 := dNats_len ks
  have r1 := rng1_eq (sm62 (by omega) (by omega) : small62 (ks.length : Int) = true)
  have f0 := fewest_added_eq h hp
  have mono : ∀ j, (addE c (ks.take j ++ ks.drop (j + 1))).length ≤ (addE c ks).length := fun j => by
    refine add_sub h.tree ?_
    have e := List.take_append_drop j ks
    conv => rhs; rw [← e]
    refine List.Sublist.append (List.Sublist.refl _) ?_
    rw [← List.drop_drop]
    exact List.drop_sublist _ _
  generalize hm : (addE c ks).length = m at f0 mono
  refine def_eq rfl ?_
  simp [m__law_less_pages_fit, f0, l0, r1]
  refine fin_for (fun j env => ∃ e3 e4, env = [some ⟨.shr, catD c⟩, some ⟨.shr, .tup (dNats ks)⟩, some ⟨.shr, .int (m : Nat)⟩, e3, e4]) ⟨_, _, rfl⟩ (fun j x env hj hI => ?_) fun env hI => ?_
  · obtain ⟨e3, e4, rfl⟩ := hI
    rw [rngD_get] at hj
    split at hj
    · rename_i hjn
      have hjn : j < ks.length := by simpa using hjn
      cases hj
      obtain ⟨k, hk⟩ : ∃ k, ks[j]? = some k := ⟨_, List.getElem?_eq_getElem hjn⟩
      have hkw := hp.lt k (List.mem_of_getElem? hk)
      have ix : atI (dNats ks) (j : Int) = some (.int (k : Nat)) := by rw [DL.atI_nat, dNats_get, hk]; rfl
      have c1 := cut_after ks j
      have c2 := cut_ahead ks j (by omega)
      have ez : (0 : Int) + (j : Int) = (j : Int) := by omega
      have pa : pAdd [.tup (dNats (ks.take j)), .tup (dNats (ks.drop (j + 1)))] = some (.d (.tup (dNats (ks.take j ++ ks.drop (j + 1))))) := by
        have e : dNats (ks.take j ++ ks.drop (j + 1)) = dNats (ks.take j) ++ dNats (ks.drop (j + 1)) := by simp [dNats]
        rw [e]
        simp only [pAdd]
        rw [if_pos (by rw [dNats_len, dNats_len, List.length_take, List.length_drop, sizeLine_eq]; omega)]
      have q1 := mixing_one h hkw
      have q2 := fewest_one h hkw
      have q3 : ks.take j ++ ks.drop (j + 1) ≠ [] → f_fewest_added [⟨.shr, catD c⟩, ⟨.shr, .tup (dNats (ks.take j ++ ks.drop (j + 1)))⟩] = .ok ⟨.shr, .int ((addE c (ks.take j ++ ks.drop (j + 1))).length : Nat)⟩ .non := fun z => fewest_added_eq h (page_less hp j z).1
      have mj := mono j
      have ne0 : pNe [.int 0, .int 0] = some (.d (.bl false)) := ne_selfD rfl
      refine ⟨_, rfl, ?_⟩
      rw [ez]
      generalize hT : ks.take j ++ ks.drop (j + 1) = T at pa q3 mj
      have lt := dNats_len T
      by_cases z : T = []
      · subst z
        have pa : pAdd [.tup (dNats (ks.take j)), .tup (dNats (ks.drop (j + 1)))] = some (.d (.tup [])) := pa
        refine Fin.mono (P := fun fl e => fl = Fl.nx ∧ ∃ e3 e4, e = [some ⟨.shr, catD c⟩, some ⟨.shr, .tup (dNats ks)⟩, some ⟨.shr, .int (m : Nat)⟩, e3, e4]) (by simp [c1, c2, pa, ix, q1, q2, hz1]) ?_
        rintro _ _ ⟨rfl, e3, e4, rfl⟩
        exact ⟨trivial, _, _, rfl⟩
      · have q3 := q3 z
        have l1 : 0 < T.length := List.length_pos_iff.mpr z
        have l2 : (0 : Int) < (T.length : Int) := by omega
        generalize (addE c T).length = a at q3 mj
        have mj2 : (a : Int) ≤ (m : Int) := by omega
        have a0 : (0 : Int) ≤ (a : Int) := by omega
        refine Fin.mono (P := fun fl e => fl = Fl.nx ∧ ∃ e3 e4, e = [some ⟨.shr, catD c⟩, some ⟨.shr, .tup (dNats ks)⟩, some ⟨.shr, .int (m : Nat)⟩, e3, e4]) ?_ ?_
        · generalize dNats T = DT at pa q3 lt
          simp [c1, c2, pa, ix, q1, q2, q3, hz1, lt, l1, l2, mj, mj2, a0]
        · rintro _ _ ⟨rfl, e3, e4, rfl⟩
          exact ⟨trivial, _, _, rfl⟩
    · cases hj
  · obtain ⟨e3, e4, rfl⟩ := hI
    simp
/-- the least list of a page, by its pairs -/
theorem mixing_pairs {c : Cat} (h : CatOk c) {ks : List Nat} (hp : PageOk c.w ks) : (alls c.ps.length 2).find? (mixW c ks) = ((prs ks).map fun p => (alls c.ps.length 2).find? (mixW c p)).foldl bst2 none := by
  have hr := alls_rank c.ps.length h.tree.len
  have e := find_any hr (fun p x => mixW c p x) (prs ks) fun _ => false
  have e0 : (alls c.ps.length 2).find? (fun _ => false) = none := List.find?_eq_none.mpr fun _ _ => Bool.false_ne_true
  rw [e0] at e
  rw [← e]
  congr 1
  funext x
  rw [mix_pairs c hp.asc x, Bool.false_or]

def tf (m : Nat) (o : Option Nat) : Option Nat := o.map fun t => (t * 7 + m) % 10
def rot {α : Type} (s : Nat) (r : List α) : List α := r.drop s ++ r.take s
def mvC (c : Cat) (s m : Nat) : Cat := ⟨c.ps, c.key, c.w, c.rows.map fun r => rot s (r.map (tf m))⟩
def gK (w s k : Nat) : Nat := if s ≤ k then k - s else k + w - s
theorem rot_len {α : Type} {s : Nat} {r : List α} (h : s ≤ r.length) : (rot s r).length = r.length := by
  rw [rot, List.length_append, List.length_drop, List.length_take]
  omega
theorem rot_get {α : Type} {s w k : Nat} {r : List α} (hr : r.length = w) (hs : s < w) (hk : k < w) : (rot s r)[gK w s k]? = r[k]? := by
  unfold rot gK
  by_cases h : s ≤ k
  · rw [if_pos h, List.getElem?_append_left (by rw [List.length_drop]; omega), List.getElem?_drop, show s + (k - s) = k by omega]
  · rw [if_neg h, List.getElem?_append_right (by rw [List.length_drop]; omega), List.length_drop, hr, show k + w - s - (w - s) = k by omega, List.getElem?_take, if_pos (by omega)]
theorem mvC_ok {c : Cat} (h : CatOk c) {s : Nat} (hs : s < c.w) (m : Nat) : CatOk (mvC c s m) := by
  refine ⟨h.tree, h.w1, h.w4, ?_, fun r hr => ?_, fun r hr t ht => ?_⟩
  · show (c.rows.map _).length = _
    rw [List.length_map]; exact h.len
  · obtain ⟨q, hq, rfl⟩ := List.mem_map.mp hr
    have := h.wid q hq
    rw [rot_len (by rw [List.length_map]; omega), List.length_map]
    exact this
  · obtain ⟨q, hq, rfl⟩ := List.mem_map.mp hr
    have hm : some t ∈ q.map (tf m) := (List.mem_append.mp ht).elim List.mem_of_mem_drop List.mem_of_mem_take
    obtain ⟨o, _, ho⟩ := List.mem_map.mp hm
    cases o with
    | none => cases ho
    | some u =>
      have : (u * 7 + m) % 10 = t := Option.some.inj ho
      omega
theorem moved_c {c : Cat} (h : CatOk c) {s : Nat} (hs : s < c.w) (m : Nat) : Moved c (mvC c s m) (gK c.w s) := by
  refine ⟨mvC_ok h hs m, rfl, rfl, rfl, fun k hk => ?_, fun j k hj hk e => ?_, fun j hj => ?_, fun l k hl hk => ?_⟩
  · unfold gK; split <;> omega
  · unfold gK at e; split at e <;> split at e <;> omega
  · by_cases q : j + s < c.w
    · exact ⟨j + s, q, by unfold gK; rw [if_pos (by omega)]; omega⟩
    · exact ⟨j + s - c.w, by omega, by unfold gK; rw [if_neg (by omega)]; omega⟩
  · have hr := row_get h hl
    have hw := row_len h hl
    have e1 : row (mvC c s m) l = rot s ((row c l).map (tf m)) := by
      unfold row mvC List.getD
      show ((c.rows.map fun r => rot s (r.map (tf m)))[l]?).getD [] = _
      rw [List.getElem?_map, hr]
      have e : c.rows.getD l [] = row c l := rfl
      unfold List.getD at e
      rw [hr] at e
      simp
      try rw [hr]
      try rfl
    unfold My.cell List.getD
    rw [e1, rot_get (by rw [List.length_map]; exact hw) hs hk, List.getElem?_map]
    cases (row c l)[k]? with
    | none => rfl
    | some o => cases o <;> rfl
theorem gK_int {w s k : Nat} (hs : s < w) (hk : k < w) : ((k : Int) + (w : Int) - (s : Int)) % (w : Int) = ((gK w s k : Nat) : Int) := by
  unfold gK
  by_cases h : s ≤ k
  · rw [if_pos h, show ((k : Int) + (w : Int) - (s : Int)) = ((k - s : Nat) : Int) + (w : Int) by omega, Int.add_emod_right, Int.emod_eq_of_lt (by omega) (by omega)]
  · rw [if_neg h, Int.emod_eq_of_lt (by omega) (by omega)]
    omega
theorem cut_s (xs : List D) {s : Nat} (h : s ≤ xs.length) : DL.cutD xs (some (s : Int)) none = xs.drop s ∧ DL.cutD xs none (some (s : Int)) = xs.take s := by
  unfold DL.cutD
  rw [HT.sIx_none, HT.sIx_none, HT.sIx_nat, HT.sIx_nat, Nat.min_eq_left h, List.drop_zero, Nat.sub_zero]
  exact ⟨List.take_of_length_le (by rw [List.length_drop]; exact Nat.le_refl _), rfl⟩
theorem moved_eq {c : Cat} (h : CatOk c) {s : Nat} (hs : s < c.w) {m : Nat} (hm : m ≤ 9) : f__law_moved_catalog [⟨.shr, catD c⟩, ⟨.shr, .int (s : Nat)⟩, ⟨.shr, .int (m : Nat)⟩] = .ok ⟨.shr, catD (mvC c s m)⟩ .non := by
  have hl := h.tree.len
  have hn := h.len
  have h4 := h.w4
  have hz0 : 0 ≤ sizeLine := Nat.zero_le _
  have hz3 : 3 ≤ sizeLine := by rw [sizeLine_eq]; omega
  refine def_eq rfl ?_
  unfold m__law_moved_catalog
  refine fin_seqM (fun e => e = [some ⟨.shr, catD c⟩, some ⟨.shr, .int (s : Nat)⟩, some ⟨.shr, .int (m : Nat)⟩, some ⟨.own, .lst []⟩, none, none, none]) (by simp [hz0]) ?_
  rintro _ rfl
  refine fin_seqM (fun e => ∃ e4 e5 e6, e = [some ⟨.shr, catD c⟩, some ⟨.shr, .int (s : Nat)⟩, some ⟨.shr, .int (m : Nat)⟩, some ⟨.own, .lst ((mvC c s m).rows.map rowD)⟩, e4, e5, e6]) ?_ ?_
  · simp [rowsD]
    refine fin_forL (α := List (Option Nat)) rowD (fun rest env => ∃ acc e4 e5 e6, env = [some ⟨.shr, catD c⟩, some ⟨.shr, .int (s : Nat)⟩, some ⟨.shr, .int (m : Nat)⟩, some ⟨.own, .lst (acc.map rowD)⟩, e4, e5, e6] ∧ acc ++ (rest.map fun r => rot s (r.map (tf m))) = (mvC c s m).rows ∧ acc.length + rest.length ≤ 10 ∧ ∀ r ∈ rest, r ∈ c.rows) c.rows _ ⟨[], _, _, _, rfl, rfl, by rw [hn]; show 0 + _ ≤ _; omega, fun _ hr => hr⟩ (fun r rest env hI => ?_) fun env hI => ?_
    · obtain ⟨acc, e4, e5, e6, rfl, g1, g2, g3⟩ := hI
      have hr := g3 r (List.mem_cons_self ..)
      have hw := h.wid r hr
      have ht := h.txt r hr
      rw [List.length_cons] at g2
      have ll : (r.map fun o => optD (tf m o)).length = c.w := by rw [List.length_map]; exact hw
      obtain ⟨c1, c2⟩ := cut_s (r.map fun o => optD (tf m o)) (s := s) (by omega)
      have pa : pAdd [.lst ((r.map fun o => optD (tf m o)).drop s), .lst ((r.map fun o => optD (tf m o)).take s)] = some (.nl (rot s (r.map fun o => optD (tf m o)))) := by
        rw [p_addL, if_pos (by rw [List.length_drop, List.length_take, sizeLine_eq]; omega)]
        rfl
      have er : D.tup (rot s (r.map fun o => optD (tf m o))) = rowD (rot s (r.map (tf m))) := by
        rw [rowD]
        unfold rot
        rw [List.map_append, List.map_drop, List.map_take, List.map_map]
        rfl
      have hz : (rot s (r.map fun o => optD (tf m o))).length ≤ sizeLine := by rw [rot_len (by omega), ll, sizeLine_eq]; omega
      have hza : (acc.map rowD).length < sizeLine := by rw [List.length_map, sizeLine_eq]; omega
      have e4' : acc.map rowD ++ [rowD (rot s (r.map (tf m)))] = (acc ++ [rot s (r.map (tf m))]).map rowD := by simp
      refine ⟨_, rfl, ?_⟩
      refine Fin.mono (P := fun fl e => fl = Fl.nx ∧ ∃ e4 e5 e6, e = [some ⟨.shr, catD c⟩, some ⟨.shr, .int (s : Nat)⟩, some ⟨.shr, .int (m : Nat)⟩, some ⟨.own, .lst ((acc ++ [rot s (r.map (tf m))]).map rowD)⟩, e4, e5, e6]) ?_ ?_
      · refine fin_seqM (fun e => ∃ e6, e = [some ⟨.shr, catD c⟩, some ⟨.shr, .int (s : Nat)⟩, some ⟨.shr, .int (m : Nat)⟩, some ⟨.own, .lst (acc.map rowD)⟩, some ⟨.shr, rowD r⟩, some ⟨.own, .lst (r.map fun o => optD (tf m o))⟩, e6]) ?_ ?_
        · simp
          refine fin_compN (α := Option Nat) [some ⟨.shr, catD c⟩, some ⟨.shr, .int (s : Nat)⟩, some ⟨.shr, .int (m : Nat)⟩, some ⟨.own, .lst (acc.map rowD)⟩, some ⟨.shr, rowD r⟩, e5, e6] optD (fun o => optD (tf m o)) r (by simp [rowD]) (by rw [hw, sizeLine_eq]; omega) (fun y hy => ?_) ?_
          · cases y with
            | none => exact ⟨_, rfl, by simp [optD, tf]⟩
            | some t =>
              have t9 := ht t hy
              have wm : wideMul (t : Int) 7 = true := mul_wide (i := 4) (j := 3) (by omega) (by omega) (by omega) (by omega) (by omega) (by omega) (by omega)
              have hq : ((t : Int) * 7 + (m : Int)) % 10 = (((t * 7 + m) % 10 : Nat) : Int) := by omega
              have ex : tf m (some t) = some ((t * 7 + m) % 10) := rfl
              rw [ex]
              generalize (t * 7 + m) % 10 = q at hq
              exact ⟨_, rfl, by simp [optD, wm, hq]⟩
          · generalize (r.map fun o => optD (tf m o)) = LW
            simp
        rintro _ ⟨e6, rfl⟩
        generalize (r.map fun o => optD (tf m o)) = LW at *
        generalize rot s LW = RL at pa er hz
        generalize acc.map rowD = AL at *
        simp [c1, c2, pa, hz, er, hza, e4']
      · rintro _ _ ⟨rfl, e4, e5, e6, rfl⟩
        exact .inl ⟨trivial, _, _, _, _, rfl, by rw [← g1]; simp, by rw [List.length_append, List.length_singleton]; omega, fun q hq => g3 q (List.mem_cons_of_mem _ hq)⟩
    · obtain ⟨acc, e4, e5, e6, rfl, g1, g2, g3⟩ := hI
      have g1 : acc ++ [] = (mvC c s m).rows := g1
      rw [List.append_nil] at g1
      rw [g1]
      exact ⟨rfl, _, _, _, rfl⟩
  rintro _ ⟨e4, e5, e6, rfl⟩
  have hz : ((mvC c s m).rows.map rowD).length ≤ sizeLine := by
    have := (mvC_ok h hs m).len
    rw [List.length_map, sizeLine_eq, this]
    show c.ps.length + 1 ≤ _
    omega
  have ec : D.tup [treeD c.ps, wayD c.key, .tup ((mvC c s m).rows.map rowD)] = catD (mvC c s m) := rfl
  generalize (mvC c s m).rows.map rowD = RW at hz ec
  simp [hz, hz3, ec]

theorem rks_map (rs : List (Int × List Int)) : rksOf (rs.map rkD) = some rs := by
  have iall : ∀ l : List Int, intsOf (l.map D.int) = some l := fun l => by
    induction l with
    | nil => rfl
    | cons a l ih => simp only [List.map_cons, intsOf, ih]; rfl
  induction rs with
  | nil => rfl
  | cons r rs ih =>
    have e : rkOf (rkD r) = some r := by
      simp only [rkOf, rkD, iall]
      rfl
    simp only [List.map_cons, rksOf, e, ih]
    rfl
theorem rk_tup (ws : List Nat) : rkD (rkN ws) = .tup [.int (ws.length : Nat), tupN ws] := by
  simp only [rkD, rkN, tupN, dNats, List.map_map]
  rfl
theorem okD_ranks {L : List (List Nat)} (h : ∀ ws ∈ L, (∀ w ∈ ws, w ≤ 9) ∧ ws.length ≤ 60) : okD (.lst (L.map fun ws => rkD (rkN ws))) = true := by
  refine okD_sm ?_ ?_
  · simp only [sm]
    refine sms_map fun ws hws => ?_
    obtain ⟨g1, g2⟩ := h ws hws
    have s1 := sm_nat (n := ws.length) (by omega)
    have s2 : sms (dNats ws) = true := sms_map (f := fun n : Nat => D.int (n : Nat)) fun n hn => sm_nat (by have := g1 n hn; omega)
    rw [rk_tup]
    simp only [sm] at s1
    simp only [tupN, sm, sms, s2]
    rw [s1]
    rfl
  · simp only [dp]
    have := dps_map (f := fun ws => rkD (rkN ws)) (k := 2) (xs := L) fun ws _ => by
      have : dps (dNats ws) ≤ 0 := dps_map (f := fun n : Nat => D.int (n : Nat)) (k := 0) (xs := ws) fun o _ => by simp only [dp]; exact Nat.le_refl _
      rw [rk_tup]
      simp only [tupN, dp, dps]
      omega
    omega
theorem min_ranks {x z : List Nat} {xs : List (List Nat)} (h : ∀ ws ∈ x :: xs, (∀ w ∈ ws, w ≤ 9) ∧ ws.length ≤ 60) (e : leastR (rkN x) (xs.map rkN) = rkN z) : pMinT [.lst ((x :: xs).map fun ws => rkD (rkN ws))] = some (.d (rkD (rkN z))) := by
  have o := okD_ranks h
  have e1 : ((x :: xs).map fun ws => rkD (rkN ws)) = ((x :: xs).map rkN).map rkD := by rw [List.map_map]; rfl
  rw [e1] at o ⊢
  have q := rks_map ((x :: xs).map rkN)
  generalize hW : ((x :: xs).map rkN).map rkD = W at o q ⊢
  have q : rksOf W = some (rkN x :: xs.map rkN) := q
  simp only [pMinT, q, Option.bind_some]
  rw [if_pos o, e]
theorem leaf_eq {c : Cat} {s : Nat} (hs : s < c.w) {ks : List Nat} (hp : PageOk c.w ks) : ∃ js, pSorted [.lst (ks.map fun k => D.int ((gK c.w s k : Nat) : Int))] = some (.nl (dNats js)) ∧ js.Perm (ks.map (gK c.w s)) ∧ PageOk c.w js := by
  have iall : ∀ l : List Int, intsOf (l.map D.int) = some l := fun l => by
    induction l with
    | nil => rfl
    | cons a l ih => simp only [List.map_cons, intsOf, ih]; rfl
  have e1 : (ks.map fun k => D.int ((gK c.w s k : Nat) : Int)) = (ks.map fun k => ((gK c.w s k : Nat) : Int)).map D.int := by rw [List.map_map]; rfl
  have pm := isrt_perm (ks.map fun k => ((gK c.w s k : Nat) : Int))
  have pw := isrt_pair (ks.map fun k => ((gK c.w s k : Nat) : Int))
  generalize hI : isrt (ks.map fun k => ((gK c.w s k : Nat) : Int)) = I at pm pw
  have nn : ∀ i ∈ I, 0 ≤ i := fun i hi => by
    obtain ⟨k, _, rfl⟩ := List.mem_map.mp (pm.mem_iff.mp hi)
    omega
  have eI : I.map D.int = dNats (I.map Int.toNat) := by
    rw [dNats, List.map_map]
    apply List.map_congr_left
    intro i hi
    show D.int i = D.int ((i.toNat : Nat) : Int)
    rw [Int.toNat_of_nonneg (nn i hi)]
  have pj : (I.map Int.toNat).Perm (ks.map (gK c.w s)) := by
    have := pm.map Int.toNat
    rw [List.map_map] at this
    exact this
  have nd : (ks.map (gK c.w s)).Nodup := by
    refine List.pairwise_map.mpr (List.Pairwise.imp_of_mem (fun {a b} ha hb lt e => ?_) hp.asc)
    have h1 := hp.lt a ha
    have h2 := hp.lt b hb
    unfold gK at e
    split at e <;> split at e <;> omega
  have nd2 := pj.nodup_iff.mpr nd
  refine ⟨I.map Int.toNat, ?_, pj, ⟨fun z => ?_, ?_, fun j hj => ?_, ?_⟩⟩
  · rw [e1]
    have hl : (ks.map fun k => ((gK c.w s k : Nat) : Int)).length < 64 := by rw [List.length_map]; have := hp.len; omega
    simp only [pSorted, iall, Option.bind_some]
    rw [if_pos hl, hI, eI]
  · have := pj.length_eq
    rw [z, List.length_map] at this
    exact hp.ne (List.eq_nil_of_length_eq_zero this.symm)
  · have le : (I.map Int.toNat).Pairwise (· ≤ ·) := List.pairwise_map.mpr (pw.imp fun {a b} h => Int.toNat_le_toNat h)
    exact (List.pairwise_and_iff.mpr ⟨le, nd2⟩).imp fun {a b} h => Nat.lt_of_le_of_ne h.1 h.2
  · obtain ⟨k, hk, rfl⟩ := List.mem_map.mp (pj.mem_iff.mp hj)
    have := hp.lt k hk
    have hs2 := hs
    unfold gK
    split <;> omega
  · rw [pj.length_eq, List.length_map]
    exact hp.len

theorem in_true {α : Type} (xs : List α) (f : α → Bool) : pInN false [.bl true, .lst (xs.map fun p => D.bl (f p))] = some (.d (.bl (xs.any f))) := by
  have fl : flat_all (.bl true) (xs.map fun p => D.bl (f p)) = true := by
    simp only [flat_all, flatD, Bool.true_and]
    exact List.all_eq_true.mpr fun d hd => by
      obtain ⟨p, _, rfl⟩ := List.mem_map.mp hd
      rfl
  have e : inD (.bl true) (xs.map fun p => D.bl (f p)) = xs.any f := by
    unfold inD
    rw [List.any_map]
    congr 1
    funext p
    show deq (.bl (f p)) (.bl true) = f p
    cases f p <;> rfl
  simp [pInN, fl, e]
theorem sm_due {Z : Option (List Nat)} (h : ∀ z, Z = some z → (∀ w ∈ z, w ≤ 9) ∧ z.length ≤ 60) : sm (lstO Z) = true ∧ dp (lstO Z) ≤ 10 ∧ wt (lstO Z) ≤ 10000 := by
  cases Z with
  | none => exact ⟨by simp only [lstO, sm], by simp only [lstO, dp]; omega, by simp only [lstO, wt]; omega⟩
  | some z =>
    obtain ⟨g1, g2⟩ := h z rfl
    refine ⟨?_, ?_, ?_⟩
    · simp only [lstO, tupN, sm]
      exact sms_map (f := fun n : Nat => D.int (n : Nat)) fun n hn => sm_nat (by have := g1 n hn; omega)
    · simp only [lstO, tupN, dp]
      have : dps (dNats z) ≤ 0 := dps_map (f := fun n : Nat => D.int (n : Nat)) (k := 0) (xs := z) fun o _ => by simp only [dp]; exact Nat.le_refl _
      omega
    · simp only [lstO, tupN, wt]
      have : wts (dNats z) ≤ (14 + 2) * z.length := wts_map (f := fun n : Nat => D.int (n : Nat)) (k := 14) (xs := z) fun o _ => by simp only [wt]; exact Nat.le_refl _
      omega
theorem find_cg {α : Type} {p q : α → Bool} : ∀ {L : List α}, (∀ x ∈ L, p x = q x) → L.find? p = L.find? q
  | [], _ => rfl
  | x :: L, h => by rw [List.find?_cons, List.find?_cons, h x (List.mem_cons_self ..), find_cg fun y hy => h y (List.mem_cons_of_mem _ hy)]
theorem ranks_fm (os : List (Option (List Nat))) : ((os.filter fun o => o.isSome).map fun o => D.tup [.int ((o.getD []).length : Nat), tupN (o.getD [])]) = (os.filterMap id).map fun ws => rkD (rkN ws) := by
  induction os with
  | nil => rfl
  | cons o os ih =>
    cases o with
    | none => exact ih
    | some ws =>
      show _ :: _ = _ :: _
      rw [ih]
      congr 1
      exact (rk_tup ws).symm

theorem law_true (ns : List Int) (h : ns.length ≤ 63) : ∃ o, f_law [⟨.shr, .fz (dInts ns)⟩] = .ok ⟨.shr, .bl true⟩ o := by
  refine ⟨.non, def_eq rfl ?_⟩
  obtain ⟨ms, hms, hml⟩ := cut_ints ns none (some 4)
  have hdl : (dInts ms).length = ms.length := by simp [dInts]
  have hz : 1 + ms.length ≤ sizeLine := by rw [sizeLine_eq]; omega
  have hz1 : 1 ≤ sizeLine := by rw [sizeLine_eq]; omega
  have hz2 : 2 ≤ sizeLine := by rw [sizeLine_eq]; omega
  simp [m_law, hms, hdl, hz, hz1]
  refine fin_for (fun _ env => ∃ G e2 e3 e4 e5 e6 e7 e8 e9 e10 e11 e12 e13 e14 e15 e16 e17 e18, env = [some ⟨.shr, .fz (dInts ns)⟩, G, e2, e3, e4, e5, e6, e7, e8, e9, e10, e11, e12, e13, e14, e15, e16, e17, e18]) ⟨_, _, _, _, _, _, _, _, _, _, _, _, _, _, _, _, _, _, rfl⟩ (fun j x env hj hI => ?_) fun env hI => ?_
  · obtain ⟨G, e2, e3, e4, e5, e6, e7, e8, e9, e10, e11, e12, e13, e14, e15, e16, e17, e18, rfl⟩ := hI
    obtain ⟨n, rfl⟩ := item_int hj
    refine ⟨_, rfl, ?_⟩
    obtain ⟨a, b, hf, hb⟩ := digits_spec n
    obtain ⟨q, a1, c1, x1, hq, hc1⟩ := pick_spec (a := a) (c := 0) (n := 0) (s := 2) hb ⟨by omega, by omega⟩ (by omega) ⟨by omega, by omega⟩
    obtain ⟨ps, a2, c2, x2, hps, hpl, hc2⟩ := make_tree_spec (a := a1) (f := 1) (k := 10) hb hc1 (by omega) ⟨by omega, by omega⟩ (by omega)
    obtain ⟨w', a3, c3, x3, hw', hc3⟩ := pick_spec (a := a2) (s := 3) hb hc2 (by omega) ⟨by omega, by omega⟩
    obtain ⟨w, hww⟩ : ∃ w : Nat, 2 + w' = (w : Int) := ⟨(2 + w').toNat, by omega⟩
    have hw4 : 2 ≤ w ∧ w ≤ 4 := by omega
    obtain ⟨rws, a4, c4, x4, hok, hc4⟩ := make_catalog_spec (a := a3) hps (decide (q = 0)) (w := w) ⟨by omega, by omega⟩ hb hc3 (by omega)
    have hv : atI [D.str "key", D.str "bundle"] q = some (wayD (decide (q = 0))) := by
      have : q = 0 ∨ q = 1 := by omega
      rcases this with rfl | rfl <;> rfl
    generalize hC : (⟨ps, decide (q = 0), w, rws⟩ : Cat) = c at x4 hok
    have hcw : c.w = w := by rw [← hC]
    have hcp : c.ps = ps := by rw [← hC]
    have hlen := hok.tree.len
    let E : Int → Int → Option Ent → Option Ent → Option Ent → Option Ent → Option Ent → Option Ent → Option Ent → Option Ent → Option Ent → Option Ent → Option Ent → Option Ent → DEnv := fun a c0 e6 e7 e8 e9 e10 e11 e12 e13 e14 e15 e16 e17 => [some ⟨.shr, .fz (dInts ns)⟩, G, some ⟨.shr, .int n⟩, some ⟨.own, bag a b c0⟩, some ⟨.shr, wayD (decide (q = 0))⟩, some ⟨.shr, catD c⟩, e6, e7, e8, e9, e10, e11, e12, e13, e14, e15, e16, e17, e18]
    have w1 := hok.w1
    have w4 := hok.w4
    have z0 : pIx [rowsD c, .int 0] = some (.d (rowD (row c 0))) := ix_rows hok (Nat.zero_le _)
    have z1 : pLen [rowD (row c 0)] = some (.d (.int (c.w : Nat))) := by simp [rowD, row_len hok (Nat.zero_le _)]
    have hsize : pLen [treeD c.ps] = some (.d (.int ((c.ps.length : Int) + 1))) := by simp [treeD, dNats_len]
    have rg : rgOk 0 (c.w : Int) = true := by
      simp only [rgOk, Bool.and_eq_true, decide_eq_true_eq]
      omega
    have rgd : rngD 0 c.w = dNats (List.range c.w) := by rw [rngD0]; rfl
    have hzr : (dNats (List.range c.w)).length ≤ sizeLine := by rw [dNats_len, List.length_range, sizeLine_eq]; omega
    have full : PageOk c.w (List.range c.w) := ⟨fun z => by have := congrArg List.length z; rw [List.length_range] at this; simp at this; omega, List.pairwise_lt_range, fun k hk => List.mem_range.mp hk, by rw [List.length_range]; exact w4⟩
    obtain ⟨r, a5, c5, x5, hr, hc5⟩ := pick_spec (a := a4) (c := c4) (n := 1000) (s := 2) hb ⟨by omega, by omega⟩ (by omega) ⟨by omega, by omega⟩
    obtain ⟨kd, a6, c6, x6, hpd, hc6⟩ := draw_sheet_spec (a := a5) (c := c5) (n := 1001) (w := c.w) hb ⟨by omega, by omega⟩ (by omega) ⟨w1, w4⟩
    refine fin_seqM (fun e => e = [some ⟨.shr, .fz (dInts ns)⟩, G, some ⟨.shr, .int n⟩, some ⟨.own, bag a b 0⟩, e4, e5, e6, e7, e8, e9, e10, e11, e12, e13, e14, e15, e16, e17, e18]) (by simp [hf]) ?_
    rintro _ rfl
    refine fin_seqM (fun e => e = [some ⟨.shr, .fz (dInts ns)⟩, G, some ⟨.shr, .int n⟩, some ⟨.own, bag a1 b c1⟩, some ⟨.shr, wayD (decide (q = 0))⟩, e5, e6, e7, e8, e9, e10, e11, e12, e13, e14, e15, e16, e17, e18]) (by simp [x1, hv, hz2]) ?_
    rintro _ rfl
    refine fin_seqM (fun e => e = E a4 c4 e6 e7 e8 e9 e10 e11 e12 e13 e14 e15 e16 e17) (by simp [E, x2, x3, hww, x4]) ?_
    rintro _ rfl
    refine fin_seqM (fun e => e = E a4 c4 (some ⟨.shr, .int (c.w : Nat)⟩) e7 e8 e9 e10 e11 e12 e13 e14 e15 e16 e17) (by simp [E, z0, z1]) ?_
    rintro _ rfl
    refine fin_seqM (fun e => e = E a4 c4 (some ⟨.shr, .int (c.w : Nat)⟩) (some ⟨.shr, .tup (dNats (List.range c.w))⟩) e8 e9 e10 e11 e12 e13 e14 e15 e16 e17) (by
      generalize dNats (List.range c.w) = RW at rgd hzr
      simp [E, rg, rgd, hzr]) ?_
    rintro _ rfl
    refine fin_seqM (fun e => ∃ ks aN cN, e = E aN cN (some ⟨.shr, .int (c.w : Nat)⟩) (some ⟨.shr, .tup (dNats ks)⟩) e8 e9 e10 e11 e12 e13 e14 e15 e16 e17 ∧ PageOk c.w ks ∧ 0 ≤ cN ∧ cN ≤ 1100) ?_ ?_
    · by_cases h0 : r = 0
      · subst h0
        refine Fin.mono (P := fun fl e => fl = Fl.nx ∧ e = E a6 c6 (some ⟨.shr, .int (c.w : Nat)⟩) (some ⟨.shr, .tup (dNats kd)⟩) e8 e9 e10 e11 e12 e13 e14 e15 e16 e17) (by simp [E, x5, x6]) ?_
        rintro _ _ ⟨rfl, rfl⟩
        exact ⟨rfl, kd, a6, c6, rfl, hpd, by omega, by omega⟩
      · refine Fin.mono (P := fun fl e => fl = Fl.nx ∧ e = E a5 c5 (some ⟨.shr, .int (c.w : Nat)⟩) (some ⟨.shr, .tup (dNats (List.range c.w))⟩) e8 e9 e10 e11 e12 e13 e14 e15 e16 e17) (by simp [E, x5, h0]) ?_
        rintro _ _ ⟨rfl, rfl⟩
        exact ⟨rfl, _, a5, c5, rfl, full, by omega, by omega⟩
    rintro _ ⟨ks, aN, cN, rfl, hp, g1, g2⟩
    obtain ⟨ws, a7, c7, x7, hws, hwl, hc7⟩ := draw_wants_spec (a := aN) (c := cN) (n := 1100) (m := c.ps.length) (L := 40) hb ⟨g1, g2⟩ (by omega) hlen ⟨by omega, by omega⟩
    refine fin_seqM (fun e => e = E a7 c7 (some ⟨.shr, .int (c.w : Nat)⟩) (some ⟨.shr, .tup (dNats ks)⟩) (some ⟨.shr, .tup (dNats ws)⟩) e9 e10 e11 e12 e13 e14 e15 e16 e17) (by simp [E, hsize, x7]) ?_
    rintro _ rfl
    have asc := hp.asc
    have pg : ∀ p ∈ prs ks, PageOk c.w p := fun p hpp => by
      obtain ⟨k1, k2, rfl, m1, m2, lt⟩ := prs_ok asc p hpp
      exact ⟨List.cons_ne_nil _ _, by simp [lt], fun x hx => by
        simp only [List.mem_cons, List.not_mem_nil, or_false] at hx
        rcases hx with rfl | rfl
        · exact hp.lt _ m1
        · exact hp.lt _ m2, by show 2 ≤ 4; omega⟩
    have mixE : ∀ p, PageOk c.w p → f_mixing [⟨.shr, catD c⟩, ⟨.shr, .tup (dNats p)⟩] = .ok ⟨.shr, lstO ((alls c.ps.length 2).find? (mixW c p))⟩ .non := fun p hpp => by
      rw [mix_lists hok p]
      exact mixing_eq hok hpp
    have pl : (prs ks).length ≤ 16 := by
      have : ∀ l : List Nat, (prs l).length ≤ l.length * l.length := fun l => by
        induction l with
        | nil => exact Nat.le_refl _
        | cons k t ih =>
          show ((t.map fun s => [k, s]) ++ prs t).length ≤ _
          rw [List.length_append, List.length_map, List.length_cons, Nat.succ_mul, Nat.mul_succ]
          omega
      have h1 := this ks
      have h2 : ks.length * ks.length ≤ 4 * 4 := Nat.mul_le_mul hp.len hp.len
      omega
    have po := pairs_of_eq hp.len
    generalize hos : ((prs ks).map fun p => (alls c.ps.length 2).find? (mixW c p)) = os
    refine fin_seqM (fun e => ∃ e16, e = E a7 c7 (some ⟨.shr, .int (c.w : Nat)⟩) (some ⟨.shr, .tup (dNats ks)⟩) (some ⟨.shr, .tup (dNats ws)⟩) (some ⟨.own, .lst (os.map lstO)⟩) e10 e11 e12 e13 e14 e15 e16 e17) ?_ ?_
    · simp [E]
      refine fin_compN (α := List Nat) (E a7 c7 (some ⟨.shr, .int (c.w : Nat)⟩) (some ⟨.shr, .tup (dNats ks)⟩) (some ⟨.shr, .tup (dNats ws)⟩) e9 e10 e11 e12 e13 e14 e15 e16 e17) tupN (fun p => lstO ((alls c.ps.length 2).find? (mixW c p))) (prs ks) (by simp [E, po]) (by rw [sizeLine_eq]; omega) (fun y hy => ?_) ?_
      · have q := mixE y (pg y hy)
        exact ⟨_, rfl, by simp [E, tupN, q]⟩
      · have e : ((prs ks).map fun p => lstO ((alls c.ps.length 2).find? (mixW c p))) = os.map lstO := by rw [← hos, List.map_map]; rfl
        rw [e]
        generalize os.map lstO = LO
        simp [E]
    rintro _ ⟨e16', rfl⟩
    have hz3 := hz2
    have al : ∀ P : List Nat → Bool, ∀ z, (alls c.ps.length 2).find? P = some z → (∀ w ∈ z, w ≤ 9) ∧ z.length ≤ 60 := fun P z hz => by
      have := alls_ok c.ps.length 2 z (List.mem_of_find?_eq_some hz)
      exact ⟨fun w hw => by have := this.1 w hw; omega, by omega⟩
    have hmem : ∀ ws ∈ os.filterMap id, (∀ w ∈ ws, w ≤ 9) ∧ ws.length ≤ 60 := fun ws hws => by
      obtain ⟨o, ho, e⟩ := List.mem_filterMap.mp hws
      have e : o = some ws := e
      rw [← hos] at ho
      obtain ⟨p, _, hpo⟩ := List.mem_map.mp ho
      exact al _ ws (hpo.trans e)
    have osl : os.length ≤ 16 := by rw [← hos, List.length_map]; exact pl
    refine fin_seqM (fun e => ∃ e17, e = E a7 c7 (some ⟨.shr, .int (c.w : Nat)⟩) (some ⟨.shr, .tup (dNats ks)⟩) (some ⟨.shr, .tup (dNats ws)⟩) (some ⟨.shr, .lst (os.map lstO)⟩) (some ⟨.own, .lst ((os.filterMap id).map fun ws => rkD (rkN ws))⟩) e11 e12 e13 e14 e15 e16' e17) ?_ ?_
    · simp [E]
      refine fin_compM (α := Option (List Nat)) (E a7 c7 (some ⟨.shr, .int (c.w : Nat)⟩) (some ⟨.shr, .tup (dNats ks)⟩) (some ⟨.shr, .tup (dNats ws)⟩) (some ⟨.shr, .lst (os.map lstO)⟩) e10 e11 e12 e13 e14 e15 e16' e17) lstO (fun o => o.isSome) (fun o => D.tup [.int (o.getD []).length, tupN (o.getD [])]) os (by simp [E]) (by rw [sizeLine_eq]; omega) (fun y hy => ?_) ?_
      · cases y with
        | none => exact ⟨_, rfl, by simp [E, lstO]⟩
        | some v =>
          have lv := dNats_len v
          exact ⟨_, rfl, by simp [E, lstO, tupN, lv, hz2]⟩
      · rw [ranks_fm]
        generalize ((os.filterMap id).map fun ws => rkD (rkN ws)) = RL
        simp [E]
    rintro _ ⟨e17', rfl⟩
    have mp := mixing_pairs hok hp
    rw [hos] at mp
    have mZ := mixE ks hp
    rw [mp] at mZ
    refine fin_seqM (fun e => ∃ e10, e = E a7 c7 (some ⟨.shr, .int (c.w : Nat)⟩) (some ⟨.shr, .tup (dNats ks)⟩) (some ⟨.shr, .tup (dNats ws)⟩) (some ⟨.shr, .lst (os.map lstO)⟩) e10 (some ⟨.shr, lstO (os.foldl bst2 none)⟩) e12 e13 e14 e15 e16' e17') ?_ ?_
    · rcases fold_least os with ⟨f1, f2⟩ | ⟨x, xs, z, f1, f2, f3⟩
      · rw [f1, f2]
        simp [E, lstO]
      · rw [f1] at hmem ⊢
        have mr := min_ranks hmem f3
        have l1 : ((x :: xs).map fun ws => rkD (rkN ws)).length = xs.length + 1 := by rw [List.length_map, List.length_cons]
        have l2 : ¬ ((xs.length : Int) + 1 = 0) := by omega
        have ix : pIx [rkD (rkN z), .int 1] = some (.d (tupN z)) := by rw [rk_tup]; rfl
        have eZ : lstO (os.foldl bst2 none) = tupN z := by rw [f2]; rfl
        rw [eZ]
        generalize ((x :: xs).map fun ws => rkD (rkN ws)) = RL at mr l1
        generalize rkD (rkN z) = RZ at mr ix
        generalize tupN z = TZ at ix
        simp [E, l1, l2, mr, ix]
    rintro _ ⟨e10', rfl⟩
    have hZ : ∀ z, os.foldl bst2 none = some z → (∀ w ∈ z, w ≤ 9) ∧ z.length ≤ 60 := fun z hz => al _ z (mp.trans hz)
    obtain ⟨y1, y2, y3⟩ := sm_due hZ
    have rp := pRepr_sm y1 (by omega) (by omega)
    have rn := ne_selfD (okS_sm y1)
    have lf := less_fit_eq hok hp
    generalize (toP (lstO (os.foldl bst2 none))).shown = sZ at rp rn
    have fa := fewest_added_eq hok hp
    have al2 := addE_len hok hp.len
    have y4 : sm (.lst [lstO (os.foldl bst2 none), .int ((addE c ks).length : Nat)]) = true := by
      have s2 := sm_nat (n := (addE c ks).length) (by omega)
      simp only [sm, sms, y1] at s2 ⊢
      rw [s2]
      rfl
    have rp2 := pRepr_sm y4 (by simp only [dp, dps]; omega) (by simp only [wt, wts]; omega)
    have rn2 := ne_selfD (okS_sm y4)
    generalize (toP (.lst [lstO (os.foldl bst2 none), .int ((addE c ks).length : Nat)])).shown = sT at rp2 rn2
    refine fin_seqM (fun e => e = E a7 c7 (some ⟨.shr, .int (c.w : Nat)⟩) (some ⟨.shr, .tup (dNats ks)⟩) (some ⟨.shr, .tup (dNats ws)⟩) (some ⟨.shr, .lst (os.map lstO)⟩) e10' (some ⟨.shr, lstO (os.foldl bst2 none)⟩) e12 e13 e14 e15 e16' e17') (by simp [E, mZ, rp, rn, lf]) ?_
    rintro _ rfl
    have mxE : ∀ p, PageOk c.w p → f_mixes [⟨.shr, catD c⟩, ⟨.shr, .tup (dNats ws)⟩, ⟨.shr, .tup (dNats p)⟩] = .ok ⟨.shr, .bl (mixW c p ws)⟩ .non := fun p hpp => mixes_eqW hok hws (by omega) hpp
    have mx0 := mxE ks hp
    have anyE := mix_pairs c asc ws
    have it := in_true (prs ks) fun p => mixW c p ws
    rw [← anyE] at it
    have nb : ∀ o : Bool, pNe [.bl o, .bl o] = some (.d (.bl false)) := fun o => by cases o <;> rfl
    have nb := nb (mixW c ks ws)
    refine fin_seqM (fun e => ∃ e16, e = E a7 c7 (some ⟨.shr, .int (c.w : Nat)⟩) (some ⟨.shr, .tup (dNats ks)⟩) (some ⟨.shr, .tup (dNats ws)⟩) (some ⟨.shr, .lst (os.map lstO)⟩) e10' (some ⟨.shr, lstO (os.foldl bst2 none)⟩) e12 e13 e14 e15 e16 e17') ?_ ?_
    · generalize mixW c ks ws = bm at mx0 it nb
      simp [E, mx0]
      refine fin_compN (α := List Nat) (E a7 c7 (some ⟨.shr, .int (c.w : Nat)⟩) (some ⟨.shr, .tup (dNats ks)⟩) (some ⟨.shr, .tup (dNats ws)⟩) (some ⟨.shr, .lst (os.map lstO)⟩) e10' (some ⟨.shr, lstO (os.foldl bst2 none)⟩) e12 e13 e14 e15 e16' e17') tupN (fun p => .bl (mixW c p ws)) (prs ks) (by simp [E, po]) (by rw [sizeLine_eq]; omega) (fun y hy => ?_) ?_
      · have q := mxE y (pg y hy)
        generalize mixW c y ws = bb at q
        exact ⟨_, rfl, by simp [E, tupN, q]⟩
      · generalize ((prs ks).map fun p => D.bl (mixW c p ws)) = BL at it
        simp [E, it, nb]
    rintro _ ⟨e16'', rfl⟩
    obtain ⟨st', a8, c8, x8, hst, hc8⟩ := pick_spec (a := a7) (c := c7) (n := 1200) (s := (c.w : Int)) hb ⟨by omega, by omega⟩ (by omega) ⟨by omega, by omega⟩
    obtain ⟨st, rfl⟩ : ∃ st : Nat, st' = (st : Int) := ⟨st'.toNat, by omega⟩
    have hs : st < c.w := by omega
    obtain ⟨mo', a9, c9, x9, hmo, hc9⟩ := pick_spec (a := a8) (c := c8) (n := 1300) (s := 10) hb ⟨by omega, by omega⟩ (by omega) ⟨by omega, by omega⟩
    obtain ⟨mo, rfl⟩ : ∃ mo : Nat, mo' = (mo : Int) := ⟨mo'.toNat, by omega⟩
    have mv := moved_eq hok hs (m := mo) (by omega)
    have md := moved_c hok hs mo
    obtain ⟨js, jl, jp, jo⟩ := leaf_eq hs hp
    have jo2 : PageOk (mvC c st mo).w js := jo
    have m2 := mixing_eq md.ok jo2
    rw [← mix_lists md.ok js] at m2
    have eZ2 : (alls (mvC c st mo).ps.length 2).find? (mixW (mvC c st mo) js) = os.foldl bst2 none := by
      rw [← mp]
      refine find_cg fun v hv => md.mix hok hp.lt (fun j => ?_) (alls_ok c.ps.length 2 v hv).1
      rw [jp.mem_iff, List.mem_map]
    rw [eZ2] at m2
    have f2 := fewest_added_eq md.ok jo2
    rw [md.add hok hp.lt jp] at f2
    generalize lstO (os.foldl bst2 none) = LZ at *
    generalize (addE c ks).length = na at *
    generalize catD (mvC c st mo) = MD at mv m2 f2
    refine fin_seqM (fun e => e = E a8 c8 (some ⟨.shr, .int (c.w : Nat)⟩) (some ⟨.shr, .tup (dNats ks)⟩) (some ⟨.shr, .tup (dNats ws)⟩) (some ⟨.shr, .lst (os.map lstO)⟩) e10' (some ⟨.shr, LZ⟩) (some ⟨.shr, .int (st : Nat)⟩) e13 e14 e15 e16'' e17') (by simp [E, x8]) ?_
    rintro _ rfl
    refine fin_seqM (fun e => e = E a9 c9 (some ⟨.shr, .int (c.w : Nat)⟩) (some ⟨.shr, .tup (dNats ks)⟩) (some ⟨.shr, .tup (dNats ws)⟩) (some ⟨.shr, .lst (os.map lstO)⟩) e10' (some ⟨.shr, LZ⟩) (some ⟨.shr, .int (st : Nat)⟩) (some ⟨.shr, MD⟩) e14 e15 e16'' e17') (by simp [E, x9, mv]) ?_
    rintro _ rfl
    have w0 : ¬ ((c.w : Int) = 0) := by omega
    have w0' : ¬ (c.w = 0) := by omega
    have w0p : 0 < c.w := by omega
    have hzj : (dNats js).length ≤ sizeLine := by rw [dNats_len, sizeLine_eq]; have := jo.len; omega
    refine Fin.mono (P := fun fl e => fl = Fl.nx ∧ ∃ G e2 e3 e4 e5 e6 e7 e8 e9 e10 e11 e12 e13 e14 e15 e16 e17 e18, e = [some ⟨.shr, .fz (dInts ns)⟩, G, e2, e3, e4, e5, e6, e7, e8, e9, e10, e11, e12, e13, e14, e15, e16, e17, e18]) ?_ ?_
    · simp [E]
      refine fin_compN (α := Nat) ([some ⟨.shr, .fz (dInts ns)⟩, G, some ⟨.shr, .int n⟩, some ⟨.own, bag a9 b c9⟩, some ⟨.shr, wayD (decide (q = 0))⟩, some ⟨.shr, catD c⟩, some ⟨.shr, .int (c.w : Nat)⟩, some ⟨.shr, .tup (dNats ks)⟩, some ⟨.shr, .tup (dNats ws)⟩, some ⟨.shr, .lst (os.map lstO)⟩, e10', some ⟨.shr, LZ⟩, some ⟨.shr, .int (st : Nat)⟩, some ⟨.shr, MD⟩, e14, e15, e16'', e17', e18]) (fun i => D.int (i : Nat)) (fun k => D.int ((gK c.w st k : Nat) : Int)) ks (by simp; rfl) (by have := hp.len; rw [sizeLine_eq]; omega) (fun y hy => ?_) ?_
      · have gi := gK_int hs (hp.lt y hy)
        exact ⟨_, rfl, by simp [w0, w0', w0p, gi]⟩
      · generalize (ks.map fun k => D.int ((gK c.w st k : Nat) : Int)) = GL at jl
        generalize dNats js = JD at *
        simp [jl, hzj, m2, f2, mZ, fa, hz2, rp2, rn2]
    · rintro _ _ ⟨rfl, G, e2, e3, e4, e5, e6, e7, e8, e9, e10, e11, e12, e13, e14, e15, e16, e17, e18, rfl⟩
      exact ⟨trivial, _, _, _, _, _, _, _, _, _, _, _, _, _, _, _, _, _, _, rfl⟩
  · obtain ⟨G, e2, e3, e4, e5, e6, e7, e8, e9, e10, e11, e12, e13, e14, e15, e16, e17, e18, rfl⟩ := hI
    simp
theorem law_sp {K : PySem.W.Frag} {mg : Str → Option Value} {H : Hp} {a : Addr} (ns : List Int) (hl : ns.length ≤ 63) (hS : SqF K H a (ns.map V.int)) : spD K mg false 1 f_law [.ref a] H (fun v _ => v = .bl true) fun _ _ _ => False := law_end hS (law_true ns hl)
end My
theorem PySem.Challenge.cw_wishedtongues_k49_whole_pages_by_pairs_o_holds : PySem.Challenge.rw_wishedtongues_k49_whole_pages_by_pairs_o.Holds := by
  w_on; o_law; k_head; (case hw => w_witness2)
  k_fill
  refine DL.g_walk (l := PySem.Challenge.rw_wishedtongues_k49_whole_pages_by_pairs_o) (n := 63) (k := 10) (x := "script") (sp := fun K mg => DL.spD K mg false 1 My.f_law) rfl (by decide) rfl ⟨rfl, by decide, by decide⟩ (fun w h Y => PySem.W.kIn_of Y) ?F (fun K mg H a ns hl hS => My.law_sp ns hl hS)
  case F =>
    intro w mg fa h KX G hmg
    refine' My.all_mk KX G hmg ?a0 ?l0 ?c0 ?k0 ?a1 ?l1 ?c1 ?k1 ?a2 ?l2 ?c2 ?k2 ?a3 ?l3 ?c3 ?k3 ?a4 ?l4 ?c4 ?k4 ?a5 ?l5 ?c5 ?k5 ?a6 ?l6 ?c6 ?k6 ?a7 ?l7 ?c7 ?k7 ?a8 ?l8 ?c8 ?k8 ?a9 ?l9 ?c9 ?k9 ?a10 ?l10 ?c10 ?k10 ?a11 ?l11 ?c11 ?k11 ?a12 ?l12 ?c12 ?k12 ?a13 ?l13 ?c13 ?k13 ?a14 ?l14 ?c14 ?k14 ?a15 ?l15 ?c15 ?k15 ?a16 ?l16 ?c16 ?k16 ?a17 ?l17 ?c17 ?k17 ?a18 ?l18 ?c18 ?k18 ?a19 ?l19 ?c19 ?k19 ?a20 ?l20 ?c20 ?k20 ?a21 ?l21 ?c21 ?k21 ?a22 ?l22 ?c22 ?k22 ?a23 ?l23 ?c23 ?k23 ?a24 ?l24 ?c24 ?k24 ?a25 ?l25 ?c25 ?k25 ?a26 ?l26 ?c26 ?k26 ?a27 ?l27 ?c27 ?k27 ?a28 ?l28 ?c28 ?k28 ?a29 ?l29 ?c29 ?k29 ?a30 ?l30 ?c30 ?k30 ?a31 ?l31 ?c31 ?k31 ?a32 ?l32 ?c32 ?k32 ?a33 ?l33 ?c33 ?k33 ?a34 ?l34 ?c34 ?k34 ?a35 ?l35 ?c35 ?k35 ?a36 ?l36 ?c36 ?k36 ?a37 ?l37 ?c37 ?k37 ?a38 ?l38 ?c38 ?k38 ?a39 ?l39 ?c39 ?k39 ?a40 ?l40 ?c40 ?k40 ?a41 ?l41 ?c41 ?k41 ?a42 ?l42 ?c42 ?k42 ?a43 ?l43 ?c43 ?k43 ?a44 ?l44 ?c44 ?k44 ?a45 ?l45 ?c45 ?k45 ?a46 ?l46 ?c46 ?k46 ?a47 ?l47 ?c47 ?k47 ?z_abs ?z_all ?z_any ?z_bool ?z_enumerate ?z_int ?z_isinstance ?z_len ?z_list ?z_max ?z_min ?z_range ?z_repr ?z_sorted ?z_str ?z_tuple ?z_type ?z_zip ?v_MOST_LOCALES ?v_MOST_KEYS ?v_LAST_TEXT
    (case a0 => k_is); (case l0 => k_is); (case c0 => k_is); (case k0 => k_is)
    (case a1 => k_is); (case l1 => k_is); (case c1 => k_is); (case k1 => k_is)
    (case a2 => k_is); (case l2 => k_is); (case c2 => k_is); (case k2 => k_is)
    (case a3 => k_is); (case l3 => k_is); (case c3 => k_is); (case k3 => k_is)
    (case a4 => k_is); (case l4 => k_is); (case c4 => k_is); (case k4 => k_is)
    (case a5 => k_is); (case l5 => k_is); (case c5 => k_is); (case k5 => k_is)
    (case a6 => k_is); (case l6 => k_is); (case c6 => k_is); (case k6 => k_is)
    (case a7 => k_is); (case l7 => k_is); (case c7 => k_is); (case k7 => k_is)
    (case a8 => k_is); (case l8 => k_is); (case c8 => k_is); (case k8 => k_is)
    (case a9 => k_is); (case l9 => k_is); (case c9 => k_is); (case k9 => k_is)
    (case a10 => k_is); (case l10 => k_is); (case c10 => k_is); (case k10 => k_is)
    (case a11 => k_is); (case l11 => k_is); (case c11 => k_is); (case k11 => k_is)
    (case a12 => k_is); (case l12 => k_is); (case c12 => k_is); (case k12 => k_is)
    (case a13 => k_is); (case l13 => k_is); (case c13 => k_is); (case k13 => k_is)
    (case a14 => k_is); (case l14 => k_is); (case c14 => k_is); (case k14 => k_is)
    (case a15 => k_is); (case l15 => k_is); (case c15 => k_is); (case k15 => k_is)
    (case a16 => k_is); (case l16 => k_is); (case c16 => k_is); (case k16 => k_is)
    (case a17 => k_is); (case l17 => k_is); (case c17 => k_is); (case k17 => k_is)
    (case a18 => k_is); (case l18 => k_is); (case c18 => k_is); (case k18 => k_is)
    (case a19 => k_is); (case l19 => k_is); (case c19 => k_is); (case k19 => k_is)
    (case a20 => k_is); (case l20 => k_is); (case c20 => k_is); (case k20 => k_is)
    (case a21 => k_is); (case l21 => k_is); (case c21 => k_is); (case k21 => k_is)
    (case a22 => k_is); (case l22 => k_is); (case c22 => k_is); (case k22 => k_is)
    (case a23 => k_is); (case l23 => k_is); (case c23 => k_is); (case k23 => k_is)
    (case a24 => k_is); (case l24 => k_is); (case c24 => k_is); (case k24 => k_is)
    (case a25 => k_is); (case l25 => k_is); (case c25 => k_is); (case k25 => k_is)
    (case a26 => k_is); (case l26 => k_is); (case c26 => k_is); (case k26 => k_is)
    (case a27 => k_is); (case l27 => k_is); (case c27 => k_is); (case k27 => k_is)
    (case a28 => k_is); (case l28 => k_is); (case c28 => k_is); (case k28 => k_is)
    (case a29 => k_is); (case l29 => k_is); (case c29 => k_is); (case k29 => k_is)
    (case a30 => k_is); (case l30 => k_is); (case c30 => k_is); (case k30 => k_is)
    (case a31 => k_is); (case l31 => k_is); (case c31 => k_is); (case k31 => k_is)
    (case a32 => k_is); (case l32 => k_is); (case c32 => k_is); (case k32 => k_is)
    (case a33 => k_is); (case l33 => k_is); (case c33 => k_is); (case k33 => k_is)
    (case a34 => k_is); (case l34 => k_is); (case c34 => k_is); (case k34 => k_is)
    (case a35 => k_is); (case l35 => k_is); (case c35 => k_is); (case k35 => k_is)
    (case a36 => k_is); (case l36 => k_is); (case c36 => k_is); (case k36 => k_is)
    (case a37 => k_is); (case l37 => k_is); (case c37 => k_is); (case k37 => k_is)
    (case a38 => k_is); (case l38 => k_is); (case c38 => k_is); (case k38 => k_is)
    (case a39 => k_is); (case l39 => k_is); (case c39 => k_is); (case k39 => k_is)
    (case a40 => k_is); (case l40 => k_is); (case c40 => k_is); (case k40 => k_is)
    (case a41 => k_is); (case l41 => k_is); (case c41 => k_is); (case k41 => k_is)
    (case a42 => k_is); (case l42 => k_is); (case c42 => k_is); (case k42 => k_is)
    (case a43 => k_is); (case l43 => k_is); (case c43 => k_is); (case k43 => k_is)
    (case a44 => k_is); (case l44 => k_is); (case c44 => k_is); (case k44 => k_is)
    (case a45 => k_is); (case l45 => k_is); (case c45 => k_is); (case k45 => k_is)
    (case a46 => k_is); (case l46 => k_is); (case c46 => k_is); (case k46 => k_is)
    (case a47 => k_is); (case l47 => k_is); (case c47 => k_is); (case k47 => k_is)
    (case z_abs => k_is); (case z_all => k_is); (case z_any => k_is); (case z_bool => k_is); (case z_enumerate => k_is); (case z_int => k_is); (case z_isinstance => k_is); (case z_len => k_is); (case z_list => k_is); (case z_max => k_is); (case z_min => k_is); (case z_range => k_is); (case z_repr => k_is); (case z_sorted => k_is); (case z_str => k_is); (case z_tuple => k_is); (case z_type => k_is); (case z_zip => k_is); (case v_MOST_LOCALES => k_is); (case v_MOST_KEYS => k_is); (case v_LAST_TEXT => k_is)
